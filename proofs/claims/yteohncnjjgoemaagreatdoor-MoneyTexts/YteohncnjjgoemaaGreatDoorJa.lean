/- digits: tenth; the text of a coefficient in plain numbers. -/
import Derived.Test.YteohncnjjgoemaaGreatDoorM7
import Derived.Test.YteohncnjjgoemaaGreatDoorIa
import Derived.Test.YteohncnjjgoemaaGreatDoorGy
import Derived.Deep.DeepCutAuto
import Derived.Laws.BytesArg
import Derived.ChangeKeysEq
namespace Go.Proofs.YteohncnjjgoemaaGreatDoor.dg
open Go.RowKit
set_option linter.unusedVariables false

theorem infoD : (Tryz.prog.info? 41).map (·.size) = some 3 := by kernel_rfl
/-- a decimal's cells -/
def dcs (c : Int) (s : Nat) : List Value := [.int .i64 (dhi c), .int .u64 (dlo c), .int .i64 s]
theorem dcs_one (c : Int) (s : Nat) : ∀ v ∈ dcs c s, v.oneCell' = true := by intro v hv; simp [dcs] at hv; rcases hv with rfl | rfl | rfl <;> rfl
theorem infoZ : (Tryz.prog.info? 77).map (·.size) = some 2 := by kernel_rfl
def zc (a b : Nat) : List Value := [.int .u64 (a : Int), .int .u64 (b : Int)]
theorem zc_one (a b : Nat) : ∀ v ∈ zc a b, v.oneCell' = true := by intro v hv; simp [zc] at hv; rcases hv with rfl | rfl <;> rfl
set_option maxHeartbeats 1000000 in
set_option maxRecDepth 100000 in
theorem tenth_ok (lo hi : Nat) (w : World) (h1 : lo < 18446744073709551616) (h2 : hi < 18446744073709551616) (x d : Nat) (hx : x = (hi % 10 * 18446744073709551616 + lo) / 10) (hd : d = (hi % 10 * 18446744073709551616 + lo) % 10) :
    Calls Tryz.prog 31 #[.agg (zc lo hi).toArray] w fun e w' => e = .returned (.tuple #[.agg (zc x (hi / 10)).toArray, .int .u64 (d : Int)]) ∧ Below w.heap.size w w' := by
  have D1 : ∀ w, Calls Tryz.prog 58 #[.int .u64 0, .int .u64 (hi : Int), .int .u64 10] w fun e w' => e = .returned (.tuple #[.int .u64 ((hi / 10 : Nat) : Int), .int .u64 ((hi % 10 : Nat) : Int)]) ∧ Below w.heap.size w w' := fun w => div64_small hi 10 w (by decide) (by decide) (by omega)
  obtain ⟨r, hr⟩ : ∃ r, r = hi % 10 := ⟨_, rfl⟩
  obtain ⟨y, hy⟩ : ∃ y, y = hi / 10 := ⟨_, rfl⟩
  have rb : r < 10 := by omega
  rw [← hr] at hx hd D1
  rw [← hy] at D1
  rw [← hy]
  have D2 : ∀ w, Calls Tryz.prog 58 #[.int .u64 (r : Int), .int .u64 (lo : Int), .int .u64 10] w fun e w' => e = .returned (.tuple #[.int .u64 (x : Int), .int .u64 (d : Int)]) ∧ Below w.heap.size w w' := fun w => by
    have h := div64_any r lo 10 w rb (by decide) h1
    rw [hx, hd]
    exact h
  have HD1 := (show Hid _ from D1)
  have HD2 := (show Hid _ from D2)
  have VN_0 := (show Hid _ from (va_new w (zc lo hi) 77).alloc (.cells (zc 0 0).toArray 77))
  have VR_0 := (show Hid _ from va_new (w.alloc (.cells (zc lo hi).toArray 77)) (zc 0 0) 77)
  rw [show (w.alloc (.cells (zc lo hi).toArray 77)).heap.size = w.heap.size + 1 by simp] at VR_0
  have BB_0 := (show Hid _ from ((Below.refl w.heap.size w).alloc (Nat.le_refl _) (.cells (zc lo hi).toArray 77)).alloc (by simp) (.cells (zc 0 0).toArray 77))
  clear D1 D2 hx hd hr hy h1 h2 rb
  go_enter Tryz.func31, Tryz.ntmps31
  have n1 := VN_0.out.cell 1 (v := .int .u64 (hi : Int)) rfl
  go_upto_region 1 with fail
  change Code.wp _ _ _ _ ((w.alloc (.cells (zc lo hi).toArray 77)).alloc (.cells (zc 0 0).toArray 77))
  generalize (w.alloc (.cells (zc lo hi).toArray 77)).alloc (.cells (zc 0 0).toArray 77) = wa at *
  go_wp2_with fail
  clear n1
  refine (HD1.out _).mono ?_
  rintro e w1 ⟨rfl, b1⟩
  have VN_1 := (show Hid _ from VN_0.out.step b1)
  have VR_1 := (show Hid _ from VR_0.out.step b1)
  have BB_1 := (show Hid _ from BB_0.out.trans (b1.mono BB_0.out.size))
  clear b1 VN_0 VR_0 BB_0
  have n1 := VN_1.out.cell 1 (v := .int .u64 (hi : Int)) rfl
  have n0 := VN_1.out.cell 0 (v := .int .u64 (lo : Int)) rfl
  have f1 := VN_1.out.free 1
  go_upto_region 3 with fail
  clear n1 n0 f1
  have VN_2 : Hid (VA (w1.setCell ⟨w.heap.size, 1, none⟩ (.int .u64 (y : Int))) w.heap.size (zc lo y) 77) := VN_1.out.set 1 (.int .u64 (y : Int))
  have VR_2 := (show Hid _ from VR_1.out.set_other (q := w.heap.size) (by omega) 1 (.int .u64 (y : Int)))
  have BB_2 := (show Hid _ from BB_1.out.setCell (p := ⟨w.heap.size, 1, none⟩) (Nat.le_refl _) (.int .u64 (y : Int)))
  clear VN_1 VR_1 BB_1
  generalize w1.setCell ⟨w.heap.size, 1, none⟩ (.int .u64 (y : Int)) = w2 at *
  have n0 := VN_2.out.cell 0 (v := .int .u64 (lo : Int)) rfl
  go_wp2_with fail
  clear n0
  refine (HD2.out _).mono ?_
  rintro e w3 ⟨rfl, b3⟩
  have VN_3 := (show Hid _ from VN_2.out.step b3)
  have VR_3 := (show Hid _ from VR_2.out.step b3)
  have BB_3 := (show Hid _ from BB_2.out.trans (b3.mono BB_2.out.size))
  clear b3 VN_2 VR_2 BB_2
  have n0 := VN_3.out.cell 0 (v := .int .u64 (lo : Int)) rfl
  have f0 := VN_3.out.free 0
  go_upto_region 4 with fail
  clear n0 f0
  have VN_4 : Hid (VA (w3.setCell ⟨w.heap.size, 0, none⟩ (.int .u64 (x : Int))) w.heap.size (zc x y) 77) := VN_3.out.set 0 (.int .u64 (x : Int))
  have VR_4 := (show Hid _ from VR_3.out.set_other (q := w.heap.size) (by omega) 0 (.int .u64 (x : Int)))
  have BB_4 := (show Hid _ from BB_3.out.setCell (p := ⟨w.heap.size, 0, none⟩) (Nat.le_refl _) (.int .u64 (x : Int)))
  clear VN_3 VR_3 BB_3
  generalize w3.setCell ⟨w.heap.size, 0, none⟩ (.int .u64 (x : Int)) = w4 at *
  go_wp2_with (first | (refine ldA rfl 77 _ rfl w.heap.size (by rfl) (zc x y) _ VN_4.out _ Tryz.underlying77 rfl infoZ ?_) | (refine stA rfl 77 _ _ rfl (w.heap.size + 1) (by rfl) (zc 0 0) (zc x y) (by rfl) 77 VR_4.out infoZ rfl (zc_one _ _) ?_; intro wf vf uf))
  have hld := run_loadVar_row (P := Tryz.prog) wf (w.heap.size + 1) 77 77 _ (0, 0) _ vf.blk Tryz.underlying77 rfl infoZ
  exact bodyPost_ret (v := .tuple #[.agg (zc x y).toArray, .int .u64 (d : Int)]) (by simp [results, Tryz.results31, asAddr, hld]) rfl ⟨rfl, uf.bel BB_4.out (by omega)⟩

/-- a size, as its two words -/
def zw (M : Nat) : List Value := zc (M % 18446744073709551616) (M / 18446744073709551616)
theorem zw_one (M : Nat) : ∀ v ∈ zw M, v.oneCell' = true := zc_one _ _
theorem tenth_w (M : Nat) (w : World) (h : M < 340282366920938463463374607431768211456) :
    Calls Tryz.prog 31 #[.agg (zw M).toArray] w fun e w' => e = .returned (.tuple #[.agg (zw (M / 10)).toArray, .int .u64 ((M % 10 : Nat) : Int)]) ∧ Below w.heap.size w w' := by
  have hb : M / 18446744073709551616 < 18446744073709551616 := by omega
  have := tenth_ok (M % 18446744073709551616) (M / 18446744073709551616) w (by omega) hb (M / 10 % 18446744073709551616) (M % 10) (by omega) (by omega)
  rw [show M / 18446744073709551616 / 10 = M / 10 / 18446744073709551616 by omega] at this
  exact this
theorem eq_size (a0 a1 b0 b1 : Int) (w : World) : (Op.equalIn 10000 77 (.agg #[.int .u64 a0, .int .u64 a1]) (.agg #[.int .u64 b0, .int .u64 b1])).run Tryz.prog w = .ok ((a0 == b0) && (a1 == b1)) w := by
  obtain ⟨i, hi⟩ : ∃ i, Tryz.prog.info? 39 = some i := Option.isSome_iff_exists.1 (by kernel_rfl)
  rw [show (10000 : Nat) = 9999 + 1 from rfl, run_equalIn_array (P := Tryz.prog) w 9999 _ _ Tryz.underlying77 hi]
  have hc : Tryz.prog.cellsOf 39 = 1 := by kernel_rfl
  rw [hc]
  simp [Op.eqItems, List.range, List.range.loop, go_sem]
  by_cases h0 : a0 = b0 <;> by_cases h1 : a1 = b1 <;> simp [h0, h1]
/-- the letters of the last k places of N, a point ahead of the last s -/
def wrt (s N : Nat) : Nat → List Nat
  | 0 => []
  | k + 1 => (48 + N / 10 ^ k % 10) :: (if k = s ∧ 0 < k then 46 :: wrt s N k else wrt s N k)
theorem wrt_lo (s N : Nat) : ∀ k, k ≤ s → (wrt s N k).length = k
  | 0, _ => rfl
  | k + 1, h => by
    have : ¬ (k = s ∧ 0 < k) := by omega
    simp [wrt, this, wrt_lo s N k (by omega)]
theorem wrt_le (s N : Nat) : ∀ k, (wrt s N k).length ≤ k + 1
  | 0 => by simp [wrt]
  | k + 1 => by
    by_cases h : k = s ∧ 0 < k
    · have := wrt_lo s N k (by omega)
      rw [wrt, if_pos h]
      simp
      omega
    · have := wrt_le s N k
      simp [wrt, h]
      omega
/-- the cells of the text's room: what is written stands at its end -/
def cb (L : List Nat) : List Value := (List.replicate (41 - L.length) 0 ++ L).map (fun x : Nat => Value.int .u8 (x : Int))
theorem cb_len {L : List Nat} (h : L.length ≤ 41) : (cb L).length = 41 := by simp [cb]; omega
theorem cb_zero {L : List Nat} {p : Nat} (h : p + 1 + L.length = 41) : (cb L)[p]? = some (.int .u8 0) := by
  have : p < 41 - L.length := by omega
  simp [cb, List.getElem?_append, this]
theorem cb_set {L : List Nat} {p : Nat} (h : p + 1 + L.length = 41) (x : Nat) : (cb L).set p (.int .u8 (x : Int)) = cb (x :: L) := by
  have e : 41 - L.length = p + 1 := by omega
  have e2 : 41 - (x :: L).length = p := by simp; omega
  unfold cb
  rw [e, e2, List.replicate_succ']
  simp
theorem cb_at {L : List Nat} {p : Nat} (h : p + L.length = 41) (i : Nat) (hi : i < L.length) : (cb L)[p + i]? = some (.int .u8 ((L.getD i 0 : Nat) : Int)) := by
  have e : 41 - L.length = p := by omega
  unfold cb
  rw [e]
  simp [hi]
end Go.Proofs.YteohncnjjgoemaaGreatDoor.dg
