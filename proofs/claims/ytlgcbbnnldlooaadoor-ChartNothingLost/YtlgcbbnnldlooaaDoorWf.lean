/- The contract of a wide number times a power of ten (package dec). -/
import Derived.Test.YtlgcbbnnldlooaaDoorWe
namespace Go.Proofs.YtlgcbbnnldlooaaDoor
open Go.RowKit
set_option linter.unusedVariables false

set_option maxHeartbeats 400000 in
set_option maxRecDepth 100000 in
theorem ten_any (m n : Nat) (a0 a1 a2 a3 a4 : Int) (w : World) (ha : IsW m a0 a1 a2 a3 a4) (hn : n ≤ 1000) :
    Calls Tryd.prog 73 #[.agg #[.int .u64 a0, .int .u64 a1, .int .u64 a2, .int .u64 a3, .int .u64 a4], .int .i64 n] w
      fun e w' => e = .returned (.agg #[.int .u64 (wd (m * 10 ^ n) 0), .int .u64 (wd (m * 10 ^ n) 1), .int .u64 (wd (m * 10 ^ n) 2), .int .u64 (wd (m * 10 ^ n) 3), .int .u64 (wd (m * 10 ^ n) 4)]) ∧ Below w.heap.size w w' := by
  obtain ⟨rfl, rfl, rfl, rfl, rfl⟩ := ha
  go_enter Tryd.func73, Tryd.ntmps73
  go_wp2
  go_loopw [6] (fun i wr => ∃ k : Nat, k ≤ n ∧ i = .int .i64 k ∧ Row5 wr w.heap.size 0 (m * 10 ^ k) ∧ Row5 wr (w.heap.size + 1) 0 0 ∧ w.heap.size + 2 ≤ wr.heap.size ∧ Below w.heap.size w wr)
    (fun i _ => n - (intOf i).toNat)
  case atStart =>
    refine ⟨0, by omega, rfl, ?_, ?_, ?_, ?_⟩
    · rw [Nat.pow_zero, Nat.mul_one]; constructor <;> simp [go_sem]
    · constructor <;> simp [go_sem, wd_zero]
    · simp
    · repeat (first | exact Below.refl _ _ | refine Below.drew ?_ | refine below_drewN ?_ _ | refine bel_alloc ?_ _ | refine bel_ext ?_ _ | (refine Below.setCell ?_ ?_ _; rotate_left; (simp <;> omega)))
  case round =>
    obtain ⟨k, hk, rfl, R1, R2, hsz, hbel⟩ := hrel
    by_cases hlt : k < n
    · obtain ⟨c0, c1, c2, c3, c4, f0, f1, f2, f3, f4⟩ := R1.zero
      go_wp2_with fail
      clear c0 c1 c2 c3 c4 f0 f1 f2 f3 f4
      refine (timesWord_any (m * 10 ^ k) 10 _ _ _ _ _ wr (IsW.self _) (by decide)).mono ?_
      rintro e w1 ⟨rfl, hb1⟩
      have S1 := R1.below hb1 (by omega)
      have S2 := R2.below hb1 (by omega)
      have hz1 := hb1.size
      have hbel1 := hbel.trans (hb1.mono (by omega))
      clear R1 R2 hbel hb1
      obtain ⟨c0, c1, c2, c3, c4, f0, f1, f2, f3, f4⟩ := S1.zero
      go_wp2
      go_roundw
      case rel =>
        refine ⟨k + 1, by omega, by go_num, (S1.laid (m * 10 ^ k * 10)).congr (by rw [Nat.pow_succ, Nat.mul_assoc]), S2.laid_other (by omega) 0 _, ?_, ?_⟩
        · simp; omega
        · exact below_set5 hbel1 (Nat.le_refl _) 0 _
      case measure => simp [intOf]; omega
    · have hkn : k = n := by omega
      subst hkn
      obtain ⟨c0, c1, c2, c3, c4, f0, f1, f2, f3, f4⟩ := R1.zero
      obtain ⟨d0, d1, d2, d3, d4, g0, g1, g2, g3, g4⟩ := R2.zero
      go_wp2
      refine bodyPost_ret (v := .agg _) (by simp [results, Tryd.results73, go_sem, d0, d1, d2, d3, d4]) rfl ⟨rfl, ?_⟩
      exact below_set5 hbel (by omega) 0 _
end Go.Proofs.YtlgcbbnnldlooaaDoor
