/- The document's decimals: the contracts of At, DocSign, DocNeg, DocCmp, DocAdd. -/
import Derived.Test.YtegooagmlapngaaUm
namespace Go.Proofs.Ytegooagmlapngaa
open Go.RowKit
set_option linter.unusedVariables false
attribute [local go_sem ↓] Go.wp_at_zero Go.wp_at_succ

theorem ten_z (K : Int) (w : World) (h0 : 0 ≤ K) (h1 : K ≤ 38) :
    Calls Try.prog 18 #[.int .i64 K] w fun e w' => (∃ r, e = .returned r ∧ Nm w' r (10 ^ K.toNat)) ∧ Below w.heap.size w w' := by
  obtain ⟨N, rfl⟩ := Int.eq_ofNat_of_zero_le h0
  rw [Int.toNat_natCast]
  exact ten_ok N w (by omega)
theorem inr_mi {c : Int} (h : InR c) : Mi c := mi_of (k := 127) (by have := inr_abs h; rw [M127_eq] at this; omega) (by omega)
theorem ten_mi (k : Nat) (h : k ≤ 40) : Mi ((10 : Int) ^ k) := by
  have e : ((10 : Int) ^ k).natAbs = 10 ^ k := by rw [Int.natAbs_pow]; rfl
  unfold Mi
  rw [e]
  exact ten_md k h
theorem ten_abs (k : Nat) : ((10 : Int) ^ k).natAbs = 10 ^ k := by rw [Int.natAbs_pow]; rfl
theorem ten_pos (k : Nat) : (0 : Int) < 10 ^ k := Int.pow_pos (by decide)
end Go.Proofs.Ytegooagmlapngaa
