/- The document's decimals: the contracts of DocCmp and DocAdd in form. -/
import Derived.Test.YtegooagmlapngaaUo
namespace Go.Proofs.Ytegooagmlapngaa
open Go.RowKit
set_option linter.unusedVariables false
attribute [local go_sem ↓] Go.wp_at_zero Go.wp_at_succ

theorem tv_at (ca cb : Int) (sa sb : Nat) (M : Int) (hM : M = max (sa : Int) sb) : ca * 10 ^ (M - sa).toNat = ca * (10 : Int) ^ (max sa sb - sa) ∧ cb * 10 ^ (M - sb).toNat = cb * (10 : Int) ^ (max sa sb - sb) := by
  have e1 : (M - sa).toNat = max sa sb - sa := by omega
  have e2 : (M - sb).toNat = max sa sb - sb := by omega
  rw [e1, e2]
  exact ⟨rfl, rfl⟩
theorem up_mi {c : Int} (h : InR c) (k : Nat) (hk : k ≤ 40) : Mi (c * 10 ^ k) := by
  have h1 := inr_abs h
  rw [M127_eq] at h1
  refine mi_of (k := 300) ?_ (by omega)
  rw [Int.natAbs_mul, ten_abs]
  have h2 : (10 : Nat) ^ k ≤ 10 ^ 40 := Nat.pow_le_pow_right (by decide) hk
  have h3 : c.natAbs * 10 ^ k ≤ 170141183460469231731687303715884105728 * 10 ^ 40 := Nat.mul_le_mul (by omega) h2
  exact Nat.lt_of_le_of_lt h3 (by decide +kernel)
end Go.Proofs.Ytegooagmlapngaa
