/- The document's pack (package passbookref07): the contracts of Uint, Int, Bytes, front and DocReadUint. -/
import Derived.Test.YtcognhhbpapibaaDoorAg
namespace Go.Proofs.YtcognhhbpapibaaDoor
open Go.RowKit
set_option linter.unusedVariables false

set_option maxHeartbeats 1000000 in
set_option maxRecDepth 100000 in
theorem ruint_ok (n : Int) (w : World) (hn : 0 ≤ n ∧ n ≤ 18446744073709551615) :
    Calls Tryd.prog 32 #[.int .u64 n] w fun e w' => (∃ u, e = .returned u ∧ OwnB w' w.heap.size u (enc n.toNat)) ∧ Below w.heap.size w w' := by
  go_enter Tryd.func32, Tryd.ntmps32
  go_wp2_with fail
  go_loopw [0, 3] (fun m s wr => ∃ (k : Nat) (cs : List Nat), k ≤ 18446744073709551615 ∧ cs.length + (enc k).length ≤ 10 ∧ m = .int .u64 k ∧ OwnB wr w.heap.size s cs ∧ Below w.heap.size w wr ∧ Hid (cs ++ enc k = enc n.toNat)) (fun m _ _ => (intOf m).toNat)
  case atStart => exact ⟨n.toNat, [], by omega, by have := enc_len (n := n.toNat) (by omega); simpa using this, by go_num, own_nil _ _, Below.refl _ _, by show _ = _; simp⟩
  case round =>
    obtain ⟨k, cs, hk, hlen, rfl, ho, hb, he⟩ := hrel
    have HO := (show Hid _ from ho)
    have HB := (show Hid _ from hb)
    have HE := (show Hid _ from he)
    have hsz := hb.size
    have hlen' := (show Hid _ from enc_pos k)
    have HLEN := (show Hid _ from hlen)
    clear ho hb he hlen
    by_cases h128 : k < 128
    · have e1 : Hid (enc k = [k]) := enc_lo h128
      go_wp2_with (at_builtin; refine appB1 rfl _ _ rfl w.heap.size cs _ _ k (by rfl) (by rfl) rfl (by omega) HO.out hsz (by have := HLEN.out; have := hlen'.out; omega) ?_; (intro v' w3 ho3 hb3; have HO3 := (show Hid _ from ho3); have HB3 := (show Hid _ from hb3); clear ho3 hb3))
      go_ret
      refine ⟨⟨_, rfl, ?_⟩, HB.out.trans HB3.out⟩
      rw [← HE.out, e1.out]
      exact HO3.out
    · go_wp2_with (at_builtin; refine appB1 rfl _ _ rfl w.heap.size cs _ _ (k % 128 + 128) (by rfl) (by rfl) (by omega) (by omega) HO.out hsz (by have := HLEN.out; have := hlen'.out; omega) ?_; (intro v' w3 ho3 hb3; have HO3 := (show Hid _ from ho3); have HB3 := (show Hid _ from hb3); clear ho3 hb3))
      refine ⟨⟨k / 128, cs ++ [k % 128 + 128], by omega, ?_, by go_num, HO3.out, HB.out.trans HB3.out, ?_⟩, by simp [intOf]; omega⟩
      · have h1 := HLEN.out
        rw [enc_hi (n := k) h128] at h1
        simp at h1 ⊢
        omega
      · show _ = _
        rw [enc_step (by omega)]
        exact HE.out
theorem rint_ok (n : Int) (w : World) (hn : -9223372036854775808 ≤ n ∧ n ≤ 9223372036854775807) :
    Calls Tryd.prog 33 #[.int .i64 n] w fun e w' => (∃ u, e = .returned u ∧ OwnB w' w.heap.size u (enc (zz n))) ∧ Below w.heap.size w w' := by
  by_cases h0 : n < 0
  · have HZ : Hid (zz n = (-2 * n - 1).toNat) := by show _ = _; unfold zz; rw [if_pos h0]
    go_enter Tryd.func33, Tryd.ntmps33
    go_wp2_with fail
    refine (ruint_ok _ _ (by omega)).mono ?_
    rintro e w1 ⟨⟨x, rfl, ho⟩, hb⟩
    have HO := (show Hid _ from ho)
    have HB := (show Hid _ from hb)
    clear ho hb
    go_wp2_with fail
    go_ret
    refine ⟨⟨_, rfl, ?_⟩, HB.out⟩
    have h1 := HO.out
    rw [HZ.out]
    rwa [show (2 * -(n + 1) + 1) = -2 * n - 1 by omega] at h1
  · have HZ : Hid (zz n = (2 * n).toNat) := by show _ = _; unfold zz; rw [if_neg h0]
    go_enter Tryd.func33, Tryd.ntmps33
    go_wp2_with fail
    refine (ruint_ok _ _ (by omega)).mono ?_
    rintro e w1 ⟨⟨x, rfl, ho⟩, hb⟩
    have HO := (show Hid _ from ho)
    have HB := (show Hid _ from hb)
    clear ho hb
    go_wp2_with fail
    go_ret
    refine ⟨⟨_, rfl, ?_⟩, HB.out⟩
    rw [HZ.out]
    exact HO.out
/-- front: yes -/
theorem front_t (v u : Value) (xs ys : List Nat) (w : World) (h : Bs w v xs) (hu : Bs w u ys) (hp : ys <+: xs) :
    Calls Tryd.prog 38 #[v, u] w fun e w' => e = .returned (.bool true) ∧ Below w.heap.size w w' := by
  have H := (show Hid _ from h)
  have HU := (show Hid _ from hu)
  obtain ⟨hby, a, c, rfl, hlc, hc9, hno, hx⟩ := h
  obtain ⟨hby2, a2, c2, rfl, hlc2, hc92, hno2, hx2⟩ := hu
  clear hby hno hx hby2 hno2 hx2
  have hle := hp.length_le
  have HP : Hid (xs.take ys.length = ys) := by
    obtain ⟨t, rfl⟩ := hp
    show _ = _
    simp
  clear hp
  obtain ⟨L, hL⟩ : ∃ L, L = xs.length := ⟨_, rfl⟩
  obtain ⟨M, hM⟩ : ∃ M, M = ys.length := ⟨_, rfl⟩
  rw [← hL] at hlc H hle ⊢
  rw [← hM] at hlc2 HU hle HP ⊢
  have C := (show Hid _ from H.out.cut M (by omega))
  rw [HP.out] at C
  have i3 : M ≤ c := by omega
  have d1 : decide (M ≤ L) = true := decide_eq_true hle
  clear hL hM H
  go_enter Tryd.func38, Tryd.ntmps38
  go_wp2_with fail
  refine (same_ok _ _ ys ys _ C.out HU.out).mono ?_
  rintro e w1 ⟨rfl, hb⟩
  rw [show decide (ys = ys) = true by simp]
  have HB := (show Hid _ from hb)
  clear hb
  go_wp2_with fail
  go_ret
  exact ⟨rfl, HB.out⟩
/-- front: no -/
theorem front_f (v u : Value) (xs ys : List Nat) (w : World) (h : Bs w v xs) (hu : Bs w u ys) (hp : ¬ ys <+: xs) :
    Calls Tryd.prog 38 #[v, u] w fun e w' => e = .returned (.bool false) ∧ Below w.heap.size w w' := by
  have H := (show Hid _ from h)
  have HU := (show Hid _ from hu)
  obtain ⟨hby, a, c, rfl, hlc, hc9, hno, hx⟩ := h
  obtain ⟨hby2, a2, c2, rfl, hlc2, hc92, hno2, hx2⟩ := hu
  clear hby hno hx hby2 hno2 hx2
  have HP : Hid (¬ xs.take ys.length = ys) := fun e => hp (by rw [← e]; exact List.take_prefix _ _)
  clear hp
  obtain ⟨L, hL⟩ : ∃ L, L = xs.length := ⟨_, rfl⟩
  obtain ⟨M, hM⟩ : ∃ M, M = ys.length := ⟨_, rfl⟩
  rw [← hL] at hlc H ⊢
  rw [← hM] at hlc2 HU HP ⊢
  by_cases hle : M ≤ L
  · have C := (show Hid _ from H.out.cut M (by omega))
    have i3 : M ≤ c := by omega
    have d1 : decide (M ≤ L) = true := decide_eq_true hle
    clear hL hM H
    go_enter Tryd.func38, Tryd.ntmps38
    go_wp2_with fail
    refine (same_ok _ _ (xs.take M) ys _ C.out HU.out).mono ?_
    rintro e w1 ⟨rfl, hb⟩
    rw [decide_eq_false HP.out]
    have HB := (show Hid _ from hb)
    clear hb
    go_wp2_with fail
    go_ret
    exact ⟨rfl, HB.out⟩
  · have d1 : decide (M ≤ L) = false := decide_eq_false hle
    clear hL hM H HU HP
    go_enter Tryd.func38, Tryd.ntmps38
    go_wp2_with fail
    go_ret
    exact ⟨rfl, Below.refl _ _⟩
end Go.Proofs.YtcognhhbpapibaaDoor
