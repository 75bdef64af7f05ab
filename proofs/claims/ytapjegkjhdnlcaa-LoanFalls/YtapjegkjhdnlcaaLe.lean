/- loan: payments out of form; the document's payments; awake. -/
import Derived.Test.YtapjegkjhdnlcaaLd
namespace Go.Proofs.Ytapjegkjhdnlcaa
open Go.RowKit
set_option linter.unusedVariables false

instance (n : Int) : Decidable (Mi n) := by unfold Mi; exact inferInstance
def AllMi (y f i p : Int) : Prop := Mi y ∧ Mi f ∧ Mi i ∧ Mi p
instance (y f i p : Int) : Decidable (AllMi y f i p) := by unfold AllMi; exact inferInstance
theorem Pays_no (y f i p : Int) (w : World) (h : ¬ AllMi y f i p) :
    Calls Try.prog 16 #[.int .i64 y, .int .i64 f, .int .i64 i, .int .i64 p] w fun e w' => e = .returned (.tuple #[.agg (pc 0 0 0 0).toArray, .int .i64 1]) ∧ Below w.heap.size w w' := by
  have V0 := (show Hid _ from va_new w (pc 0 0 0 0) 38)
  have B0 := (show Hid _ from (Below.refl w.heap.size w).alloc (Nat.le_refl _) (.cells (pc 0 0 0 0).toArray 38))
  by_cases hy : Mi y
  rotate_left
  · have ey : decide (0 ≤ y ∧ y ≤ 10000000000000) = false := decide_eq_false hy
    clear h hy
    go_enter Try.func16, Try.ntmps16
    go_wp2_with fail
    refine (isMinor_ok y _).mono ?_; rintro e w1 ⟨rfl, hw⟩; obtain rfl := hw.symm; rw [ey]
    clear ey
    go_wp2_with (refine stA rfl 38 _ _ rfl w.heap.size (by rfl) (pc 0 0 0 0) (pc 0 0 0 0) (by rfl) 38 V0.out infoP4 rfl (pc_one _ _ _ _) ?_; intro w9 V9 U9)
    have hld := run_loadVar_row (P := Try.prog) w9 w.heap.size 38 38 _ (0, 0) _ V9.blk Try.underlying38 rfl infoP4
    refine bodyPost_ret (v := .tuple #[.agg (pc 0 0 0 0).toArray, .int .i64 1]) (by simp [results, Try.results16, asAddr, hld]) rfl ⟨rfl, U9.bel B0.out (Nat.le_refl _)⟩
  · skip
    by_cases hf : Mi f
    rotate_left
    · have ey : decide (0 ≤ y ∧ y ≤ 10000000000000) = true := decide_eq_true hy
      have ef : decide (0 ≤ f ∧ f ≤ 10000000000000) = false := decide_eq_false hf
      clear h hy hf
      go_enter Try.func16, Try.ntmps16
      go_wp2_with fail
      refine (isMinor_ok y _).mono ?_; rintro e w1 ⟨rfl, hw⟩; obtain rfl := hw.symm; rw [ey]
      go_wp2_with fail
      refine (isMinor_ok f _).mono ?_; rintro e w1 ⟨rfl, hw⟩; obtain rfl := hw.symm; rw [ef]
      clear ey ef
      go_wp2_with (refine stA rfl 38 _ _ rfl w.heap.size (by rfl) (pc 0 0 0 0) (pc 0 0 0 0) (by rfl) 38 V0.out infoP4 rfl (pc_one _ _ _ _) ?_; intro w9 V9 U9)
      have hld := run_loadVar_row (P := Try.prog) w9 w.heap.size 38 38 _ (0, 0) _ V9.blk Try.underlying38 rfl infoP4
      refine bodyPost_ret (v := .tuple #[.agg (pc 0 0 0 0).toArray, .int .i64 1]) (by simp [results, Try.results16, asAddr, hld]) rfl ⟨rfl, U9.bel B0.out (Nat.le_refl _)⟩
    · skip
      by_cases hi : Mi i
      rotate_left
      · have ey : decide (0 ≤ y ∧ y ≤ 10000000000000) = true := decide_eq_true hy
        have ef : decide (0 ≤ f ∧ f ≤ 10000000000000) = true := decide_eq_true hf
        have ei : decide (0 ≤ i ∧ i ≤ 10000000000000) = false := decide_eq_false hi
        clear h hy hf hi
        go_enter Try.func16, Try.ntmps16
        go_wp2_with fail
        refine (isMinor_ok y _).mono ?_; rintro e w1 ⟨rfl, hw⟩; obtain rfl := hw.symm; rw [ey]
        go_wp2_with fail
        refine (isMinor_ok f _).mono ?_; rintro e w1 ⟨rfl, hw⟩; obtain rfl := hw.symm; rw [ef]
        go_wp2_with fail
        refine (isMinor_ok i _).mono ?_; rintro e w1 ⟨rfl, hw⟩; obtain rfl := hw.symm; rw [ei]
        clear ey ef ei
        go_wp2_with (refine stA rfl 38 _ _ rfl w.heap.size (by rfl) (pc 0 0 0 0) (pc 0 0 0 0) (by rfl) 38 V0.out infoP4 rfl (pc_one _ _ _ _) ?_; intro w9 V9 U9)
        have hld := run_loadVar_row (P := Try.prog) w9 w.heap.size 38 38 _ (0, 0) _ V9.blk Try.underlying38 rfl infoP4
        refine bodyPost_ret (v := .tuple #[.agg (pc 0 0 0 0).toArray, .int .i64 1]) (by simp [results, Try.results16, asAddr, hld]) rfl ⟨rfl, U9.bel B0.out (Nat.le_refl _)⟩
      · skip
        have hp : ¬ Mi p := fun hp => h ⟨hy, hf, hi, hp⟩
        have ey : decide (0 ≤ y ∧ y ≤ 10000000000000) = true := decide_eq_true hy
        have ef : decide (0 ≤ f ∧ f ≤ 10000000000000) = true := decide_eq_true hf
        have ei : decide (0 ≤ i ∧ i ≤ 10000000000000) = true := decide_eq_true hi
        have ep : decide (0 ≤ p ∧ p ≤ 10000000000000) = false := decide_eq_false hp
        clear h hy hf hi hp
        go_enter Try.func16, Try.ntmps16
        go_wp2_with fail
        refine (isMinor_ok y _).mono ?_; rintro e w1 ⟨rfl, hw⟩; obtain rfl := hw.symm; rw [ey]
        go_wp2_with fail
        refine (isMinor_ok f _).mono ?_; rintro e w1 ⟨rfl, hw⟩; obtain rfl := hw.symm; rw [ef]
        go_wp2_with fail
        refine (isMinor_ok i _).mono ?_; rintro e w1 ⟨rfl, hw⟩; obtain rfl := hw.symm; rw [ei]
        go_wp2_with fail
        refine (isMinor_ok p _).mono ?_; rintro e w1 ⟨rfl, hw⟩; obtain rfl := hw.symm; rw [ep]
        clear ey ef ei ep
        go_wp2_with (refine stA rfl 38 _ _ rfl w.heap.size (by rfl) (pc 0 0 0 0) (pc 0 0 0 0) (by rfl) 38 V0.out infoP4 rfl (pc_one _ _ _ _) ?_; intro w9 V9 U9)
        have hld := run_loadVar_row (P := Try.prog) w9 w.heap.size 38 38 _ (0, 0) _ V9.blk Try.underlying38 rfl infoP4
        refine bodyPost_ret (v := .tuple #[.agg (pc 0 0 0 0).toArray, .int .i64 1]) (by simp [results, Try.results16, asAddr, hld]) rfl ⟨rfl, U9.bel B0.out (Nat.le_refl _)⟩
set_option maxRecDepth 100000 in
set_option maxHeartbeats 1000000 in
theorem DocPays_any (y f i p : Int) (w : World) :
    Calls Try.prog 17 #[.int .i64 y, .int .i64 f, .int .i64 i, .int .i64 p] w fun e w' => (AllMi y f i p ∧ e = .returned (.tuple #[.agg (pc (pf y f) (pq y f i) (pp y f i p) (pr y f i p)).toArray, .int .i64 0]) ∨ ¬ AllMi y f i p ∧ e = .returned (.tuple #[.agg (pc 0 0 0 0).toArray, .int .i64 1])) ∧ Below w.heap.size w w' := by
  have V0 := (show Hid _ from (va_new w (pc 0 0 0 0) 41).alloc (.cells (ci [y, f, i, p]).toArray 2))
  have B0 := (show Hid _ from ((Below.refl w.heap.size w).alloc (Nat.le_refl _) (.cells (pc 0 0 0 0).toArray 41)).alloc (by simp) (.cells (ci [y, f, i, p]).toArray 2))
  have I0 := (show Hid _ from va_new (w.alloc (.cells (pc 0 0 0 0).toArray 41)) (ci [y, f, i, p]) 2)
  rw [show (w.alloc (.cells (pc 0 0 0 0).toArray 41)).heap.size = w.heap.size + 1 by simp] at I0
  go_enter Try.func17, Try.ntmps17
  go_wp2_with fail
  go_loopw [21] (fun s wr => ∃ k : Nat, k ≤ 4 ∧ s = .int .i64 k ∧ Hid (VA wr w.heap.size (pc 0 0 0 0) 41) ∧ Hid (VA wr (w.heap.size + 1) (ci [y, f, i, p]) 2) ∧ Hid (Below w.heap.size w wr) ∧ Hid (∀ j, j < k → Mi ([y, f, i, p].getD j 0))) (fun s _ => 4 - (intOf s).toNat)
  case atStart => exact ⟨0, by omega, rfl, V0, I0, B0, fun j hj => by omega⟩
  case round =>
    obtain ⟨k, hk, rfl, v0, i0, b0, hall⟩ := hrel
    by_cases hk4 : k = 4
    · subst hk4
      have HA : Hid (AllMi y f i p) := ⟨hall.out 0 (by omega), hall.out 1 (by omega), hall.out 2 (by omega), hall.out 3 (by omega)⟩
      clear hall i0
      have HY : Hid (0 ≤ y ∧ y ≤ 10000000000000) := HA.out.1
      have HF : Hid (0 ≤ f ∧ f ≤ 10000000000000) := HA.out.2.1
      have HI : Hid (0 ≤ i ∧ i ≤ 10000000000000) := HA.out.2.2.1
      have HP : Hid (0 ≤ p ∧ p ≤ 10000000000000) := HA.out.2.2.2
      have x1 : 0 ≤ pf y f ∧ pf y f ≤ y := by have := HY.out; have := HF.out; unfold pf; omega
      have x2 : 0 ≤ pq y f i ∧ pq y f i ≤ y - pf y f := by have := HI.out; unfold pq; omega
      have x3 : 0 ≤ pp y f i p ∧ pp y f i p ≤ y - pf y f - pq y f i := by have := HP.out; unfold pp; omega
      have e1 : Hid (min y f = pf y f) := Int.min_comm _ _
      have e2 : Hid (min (y - pf y f) i = pq y f i) := Int.min_comm _ _
      have e3 : Hid (min (y - pf y f - pq y f i) p = pp y f i p) := Int.min_comm _ _
      have y2 := HY.out.2
      have y1 := HY.out.1
      have EQ : Hid (∀ F I P, F = pf y f → I = pq y f i → P = pp y f i p → pr y f i p = y - F - I - P) := by rintro F I P rfl rfl rfl; rfl
      rw [show ((4 : Nat) : Int) = 4 from rfl]
      obtain ⟨F, hF⟩ : ∃ F, F = pf y f := ⟨_, rfl⟩
      rw [← hF] at x1 x2 x3 e1 e2 e3
      obtain ⟨I, hI⟩ : ∃ I, I = pq y f i := ⟨_, rfl⟩
      rw [← hI] at x2 x3 e2 e3
      obtain ⟨P, hP⟩ : ∃ P, P = pp y f i p := ⟨_, rfl⟩
      rw [← hP] at x3 e3
      have HE := (show Hid _ from And.intro hF (And.intro hI hP))
      clear hF hI hP
      obtain ⟨x11, x12⟩ := x1
      obtain ⟨x21, x22⟩ := x2
      obtain ⟨x31, x32⟩ := x3
      go_wp2_with fail
      refine (less_ok y f _).mono ?_; rintro e w1 ⟨rfl, hw⟩; obtain rfl := hw.symm; rw [e1.out]
      go_wp2_with fail
      refine (less_ok (y - F) i _).mono ?_; rintro e w1 ⟨rfl, hw⟩; obtain rfl := hw.symm; rw [e2.out]
      go_wp2_with fail
      refine (less_ok (y - F - I) p _).mono ?_; rintro e w1 ⟨rfl, hw⟩; obtain rfl := hw.symm; rw [e3.out]
      go_wp2_with (refine stA rfl 41 _ _ rfl w.heap.size (by rfl) (pc 0 0 0 0) (pc F I P (y - F - I - P)) (by rfl) 41 v0.out infoR4 rfl (pc_one _ _ _ _) ?_; intro w9 V9 U9)
      have hld := run_loadVar_row (P := Try.prog) w9 w.heap.size 41 41 _ (0, 0) _ V9.blk Try.underlying41 rfl infoR4
      refine bodyPost_ret (v := .tuple #[.agg (pc F I P (y - F - I - P)).toArray, .int .i64 0]) (by simp [results, Try.results17, asAddr, hld]) rfl ⟨Or.inl ⟨HA.out, ?_⟩, U9.bel b0.out (Nat.le_refl _)⟩
      rw [EQ.out F I P HE.out.1 HE.out.2.1 HE.out.2.2, ← HE.out.1, ← HE.out.2.1, ← HE.out.2.2]
    have hk' : k < 4 := by omega
    have hcell := i0.out.cell k (v := .int .i64 ([y, f, i, p].getD k 0)) (ci_get [y, f, i, p] k (by simpa using hk'))
    have hlt := i0.out.lt
    have HG : Hid (∀ n, n = [y, f, i, p].getD k 0 → AllMi y f i p → Mi n) := by
      rintro n rfl ⟨h1, h2, h3, h4⟩
      obtain rfl | rfl | rfl | rfl : k = 0 ∨ k = 1 ∨ k = 2 ∨ k = 3 := by omega
      · exact h1
      · exact h2
      · exact h3
      · exact h4
    have HN : Hid (∀ n, n = [y, f, i, p].getD k 0 → Mi n → ∀ j, j < k + 1 → Mi ([y, f, i, p].getD j 0)) := by
      rintro n rfl hn j hj
      rcases Nat.lt_or_ge j k with h | h
      · exact hall.out j h
      · obtain rfl : j = k := by omega
        exact hn
    obtain ⟨n, hn⟩ : ∃ n, n = [y, f, i, p].getD k 0 := ⟨_, rfl⟩
    have HNN := (show Hid _ from hn)
    rw [← hn] at hcell
    clear hn hall
    have hlk : decide ((k : Int) < 4) = true := decide_eq_true (by omega)
    by_cases hM : Mi n
    · have hnext := (show Hid _ from HN.out n HNN.out hM)
      have d1 : decide (n < 0) = false := decide_eq_false (by have := hM.1; omega)
      have d2 : decide (10000000000000 < n) = false := decide_eq_false (by have := hM.2; omega)
      clear hM HN HG HNN
      go_wp2_with fail
      exact ⟨⟨k + 1, by omega, by simp, v0, i0, b0, hnext⟩, by simp [intOf]; omega⟩
    · have HNO : Hid (¬ AllMi y f i p) := fun h => hM (HG.out n HNN.out h)
      by_cases hn0 : n < 0
      · have d1 : decide (n < 0) = true := decide_eq_true hn0
        clear hM HN HG HNN hn0
        go_wp2_with (refine stA rfl 41 _ _ rfl w.heap.size (by rfl) (pc 0 0 0 0) (pc 0 0 0 0) (by rfl) 41 v0.out infoR4 rfl (pc_one _ _ _ _) ?_; intro w9 V9 U9)
        have hld := run_loadVar_row (P := Try.prog) w9 w.heap.size 41 41 _ (0, 0) _ V9.blk Try.underlying41 rfl infoR4
        exact bodyPost_ret (v := .tuple #[.agg (pc 0 0 0 0).toArray, .int .i64 1]) (by simp [results, Try.results17, asAddr, hld]) rfl ⟨Or.inr ⟨HNO.out, rfl⟩, U9.bel b0.out (Nat.le_refl _)⟩
      · have d1 : decide (n < 0) = false := decide_eq_false hn0
        have d2 : decide (10000000000000 < n) = true := decide_eq_true (by have : ¬ n ≤ 10000000000000 := fun h => hM ⟨by omega, h⟩; omega)
        clear hM HN HG HNN hn0
        go_wp2_with (refine stA rfl 41 _ _ rfl w.heap.size (by rfl) (pc 0 0 0 0) (pc 0 0 0 0) (by rfl) 41 v0.out infoR4 rfl (pc_one _ _ _ _) ?_; intro w9 V9 U9)
        have hld := run_loadVar_row (P := Try.prog) w9 w.heap.size 41 41 _ (0, 0) _ V9.blk Try.underlying41 rfl infoR4
        exact bodyPost_ret (v := .tuple #[.agg (pc 0 0 0 0).toArray, .int .i64 1]) (by simp [results, Try.results17, asAddr, hld]) rfl ⟨Or.inr ⟨HNO.out, rfl⟩, U9.bel b0.out (Nat.le_refl _)⟩
end Go.Proofs.Ytapjegkjhdnlcaa
