/- disk XXX: the walk of DiskTruncated. -/
import Derived.Test.YtonnkfijifdgcaaDld
namespace Go.Proofs.Ytonnkfijifdgcaa
open Go.RowKit Go.Maps Go.Sort Go.Shelf pk
set_option linter.unusedVariables false

theorem lk_one (l : List UInt8) (ss : List (List Nat)) (sy : Nat) : lk [(l, ss, sy)] l = some (l, ss, sy) := by simp [lk]
set_option maxRecDepth 100000 in
set_option maxHeartbeats 2000000 in
theorem truncated_walk (v : Value) (bs : List Nat) (r : Nat) (hr : r < 256) (w : World) (hb : Bs w v bs) (hl : bs.length ≤ 140737488351232) :
    Calls Try.prog 8 #[v, .int .u8 (r : Int)] w fun e w' => e = .returned (.bool true) ∧ Below w.heap.size w w' := by
  have HBS0 := (show Hid _ from hb)
  obtain ⟨hby, a, c, rfl, hc1, hc2, hno, hli⟩ := hb
  clear hno hli hby
  obtain ⟨L, hL⟩ : ∃ L, L = min bs.length 500 := ⟨_, rfl⟩
  have HCUT : Hid (∀ w1, Below w.heap.size w w1 → Bs w1 (.slice a L c) (bs.take L)) := fun w1 b1 => (HBS0.out.step b1).cut L (by omega)
  have HTL : Hid ((bs.take L).length = L) := (show (bs.take L).length = L by rw [List.length_take]; omega)
  obtain ⟨xs, hxs⟩ : ∃ xs, xs = bs.take L := ⟨_, rfl⟩
  rw [← hxs] at HTL HCUT
  generalize hn : bs.length = len at *
  have hmin : ∀ w', (Builtin.min_ #[3, 3] 3 #[.int .i64 (len : Int), .int .i64 500]).run Try.prog w' = .ok (.int .i64 (L : Int)) w' := fun w' => cut_min w' len 500 L (by omega) hL
  have d1 : (L : Int) ≤ (len : Int) := by omega
  have d2 : (L : Int) ≤ (c : Int) := by omega
  have d3 : L ≤ 500 := by omega
  obtain ⟨k0, hk0⟩ : ∃ k0 : Nat, (r : Int) % 20 = (k0 : Int) := ⟨r % 20, by omega⟩
  have hk20 : k0 < 20 := by omega
  clear hn hxs hL HBS0
  go_enter Try.func8, Try.ntmps8
  go_wp2_with (go_at_call 9; refine (awake_ok _).mono ?_; rintro e w1 ⟨rfl, b1⟩)
  have HB1 := (show Hid _ from b1)
  have HX1 := (show Hid _ from HCUT.out w1 b1)
  clear b1 HCUT
  refine (new_any 100 w1 (by omega) (by omega)).mono ?_
  rintro e w2 ⟨p, m, rfl, hA2, b2⟩
  have HA2 : Hid (DA w2 w1.heap.size p m ⟨100, 0, 0, true, none, []⟩) := hA2
  have HB2 := (show Hid _ from b2)
  clear hA2 b2
  unfold ptr
  go_wp2_with fail
  refine (twin_ok _ xs w2 (HX1.out.step HB2.out) (by rw [HTL.out]; omega)).mono ?_
  rintro e w3 ⟨⟨u, rfl, O3⟩, b3⟩
  have E4 : apnd ⟨100, 0, 0, true, none, []⟩ [97] xs = (0, ⟨100, 1, 0, true, none, [([97], parts xs, 0)]⟩) := apnd_ok rfl (fitA_of (.inr (by decide)) (by rw [HTL.out]; unfold cnt; simp [totA]; omega)) rfl
  have HE4 := (show Hid _ from E4)
  have HA3 : Hid (DA w3 w1.heap.size p m ⟨100, 0, 0, true, none, []⟩) := HA2.out.step b3
  have HO3 := (show Hid _ from O3)
  have HB3 := (show Hid _ from HB2.out.trans (b3.mono HB2.out.size))
  clear E4 O3 b3
  go_wp2_with fail
  refine (append_any w3 w1.heap.size p m _ HA3.out ⟨#[97]⟩ (by decide) u xs HO3.out.bs HO3.out.safe (by rw [HTL.out]; omega) (by decide) (by decide)).mono ?_
  rintro e w4 ⟨he, h4⟩
  rw [show (⟨#[97]⟩ : ByteArray).data.toList = [97] from rfl, HE4.out] at he h4
  obtain rfl : e = .returned (.int .i64 0) := he
  have HA4 : Hid (DA w4 w1.heap.size p m ⟨100, 1, 0, true, none, [([97], parts xs, 0)]⟩) := h4.1
  have HB4 := (show Hid _ from HB3.out.trans h4.2.2)
  clear h4 HO3
  go_wp2_with fail
  refine (read_any w4 w1.heap.size p m _ HA4.out ⟨#[97]⟩ (by decide)).mono ?_
  rintro e w5 ⟨⟨u5, he, O5⟩, b5⟩
  rw [show (⟨#[97]⟩ : ByteArray).data.toList = [97] from rfl, seen_on (t := ([97], parts xs, 0)) rfl (lk_one _ _ _) rfl] at he O5
  obtain rfl : e = .returned (.tuple #[u5, .int .i64 0]) := he
  have HA5 : Hid (DA w5 w1.heap.size p m ⟨100, 1, 0, true, none, [([97], parts xs, 0)]⟩) := HA4.out.step b5
  have HB5 := (show Hid _ from HB4.out.trans (b5.mono HB4.out.size))
  obtain ⟨M, hM⟩ : ∃ M, M = 32 * cnt L := ⟨_, rfl⟩
  have hfl : (flat (parts xs)).length = M := by rw [flat_len, parts_len, HTL.out, hM]
  have HFL := (show Hid _ from hfl)
  have HO5 : Hid (OwnB w5 w4.heap.size u5 (flat (parts xs))) := O5
  obtain ⟨_, a5, c5, hu5, hc51, hc52, _⟩ := O5.bs
  rw [HFL.out] at hu5 hc51
  subst hu5
  have hcn : cnt L ≤ 16 := by unfold cnt; omega
  obtain ⟨K, hK⟩ : ∃ K, K = min (32 * k0) M := ⟨_, rfl⟩
  have hmin2 : ∀ w', (Builtin.min_ #[3, 3] 3 #[.int .i64 (32 * (k0 : Int)), .int .i64 (M : Int)]).run Try.prog w' = .ok (.int .i64 (K : Int)) w' := fun w' => by
    have := cut_min w' (32 * k0) M K (by omega) hK
    push_cast at this
    exact this
  have d5 : (K : Int) ≤ (M : Int) := by omega
  have d6 : (K : Int) ≤ (c5 : Int) := by omega
  have HK := (show Hid _ from hK)
  have HM := (show Hid _ from hM)
  clear O5 b5 hmin hfl hK hM
  go_wp2_with fail
  have E6 : oper ⟨100, 1, 0, true, none, [([97], parts xs, 0)]⟩ ⟨2, [97], [], k0⟩ = (0, ⟨100, 2, 0, true, none, [([97], (parts xs).take k0, min k0 (parts xs).length)]⟩) := by
    rw [oper_on rfl (by simp) (by show (lk [([97], parts xs, 0)] [97]).isSome = true; rw [lk_one]; rfl) rfl]
    rfl
  have HE6 := (show Hid _ from E6)
  clear E6
  refine (trunc_any w5 w1.heap.size p m _ HA5.out ⟨#[97]⟩ (by decide) k0 (by omega) (by show (1 : Nat) ≤ _; omega) (by show (0 : Nat) ≤ _; omega)).mono ?_
  rintro e w6 ⟨he, h6⟩
  rw [show (⟨#[97]⟩ : ByteArray).data.toList = [97] from rfl, HE6.out] at he h6
  obtain rfl : e = .returned (.int .i64 0) := he
  have HA6 : Hid (DA w6 w1.heap.size p m ⟨100, 2, 0, true, none, [([97], (parts xs).take k0, min k0 (parts xs).length)]⟩) := h6.1
  have HB6 := (show Hid _ from HB5.out.trans h6.2.2)
  have HO6 : Hid (OwnB w6 w4.heap.size (.slice a5 M c5) (flat (parts xs))) := HO5.out.kee h6.2.1
  clear h6 HO5
  go_wp2_with fail
  refine (read_any w6 w1.heap.size p m _ HA6.out ⟨#[97]⟩ (by decide)).mono ?_
  rintro e w7 ⟨⟨u7, he, O7⟩, b7⟩
  rw [show (⟨#[97]⟩ : ByteArray).data.toList = [97] from rfl, seen_on (t := ([97], (parts xs).take k0, min k0 (parts xs).length)) rfl (lk_one _ _ _) rfl] at he O7
  obtain rfl : e = .returned (.tuple #[u7, .int .i64 0]) := he
  have HA7 : Hid (DA w7 w1.heap.size p m ⟨100, 2, 0, true, none, [([97], (parts xs).take k0, min k0 (parts xs).length)]⟩) := HA6.out.step b7
  have HB7 := (show Hid _ from HB6.out.trans (b7.mono HB6.out.size))
  have HO7 : Hid (Bs w7 u7 (flat ((parts xs).take k0))) := O7.bs
  have HW7 : Hid (Bs w7 (.slice a5 K c5) ((flat (parts xs)).take K)) := (HO6.out.bs.step b7).cut K (by rw [HFL.out]; omega)
  clear O7 b7 HO6
  go_wp2_with fail
  refine (size_any w7 w1.heap.size p m _ HA7.out ⟨#[97]⟩ (by decide)).mono ?_
  rintro e w8 ⟨he, hw8⟩
  obtain rfl := hw8.symm
  rw [show (⟨#[97]⟩ : ByteArray).data.toList = [97] from rfl, seen_on (t := ([97], (parts xs).take k0, min k0 (parts xs).length)) rfl (lk_one _ _ _) rfl] at he
  obtain ⟨Z, hZ⟩ : ∃ Z, Z = min k0 (cnt L) := ⟨_, rfl⟩
  obtain rfl : e = .returned (.tuple #[.int .i64 (Z : Int), .int .i64 0]) := by
    rw [he]
    show Ending.returned (.tuple #[.int .i64 ((((parts xs).take k0).length : Nat) : Int), _]) = _
    rw [List.length_take, parts_len, HTL.out, ← hZ]
    rfl
  have hZK : 32 * (Z : Int) = (K : Int) := by have := HK.out; have := HM.out; omega
  have HSAME : Hid (flat ((parts xs).take k0) = (flat (parts xs)).take K) := (show flat ((parts xs).take k0) = (flat (parts xs)).take K by
    rw [flat_take, HK.out, ← HFL.out]
    exact List.take_eq_take_min)
  clear he hZ
  go_wp2_with fail
  refine (same_ok _ _ _ _ _ HO7.out HW7.out).mono ?_
  rintro e w9 ⟨rfl, b9⟩
  rw [decide_eq_true HSAME.out]
  have HB9 := (show Hid _ from HB7.out.trans (b9.mono HB7.out.size))
  clear b9
  go_wp2_with fail
  go_ret
  exact ⟨rfl, HB1.out.trans (HB9.out.mono HB1.out.size)⟩
end Go.Proofs.Ytonnkfijifdgcaa
