/- The contracts of Of and Mul (package dec). -/
import Derived.Test.YtlgcbbnnldlooaaDoorPe
namespace Go.Proofs.YtlgcbbnnldlooaaDoor
open Go.RowKit
set_option linter.unusedVariables false
attribute [local go_sem] ext_cell ext_frozen ext_drew ext_of_drew ext_of_drewN ext_setCell ext_lt ext_lt1 ext_lt2 ext_lt3 lt_n2 lt_n3 lt_n4 lt_n5 lt_n6 ext_ext

theorem mul_bounds {ca cb : Int} {sa sb t mode : Nat} (neg : Bool) (ia : InR ca) (ib : InR cb) (hsa : (sa : Int) ≤ 18) (hsb : (sb : Int) ≤ 18) (ht : (t : Int) ≤ 18) :
    rnum (ca.natAbs * cb.natAbs) ((t : Int) - sa - sb) < B ^ 5 ∧ 0 < rden 1 ((t : Int) - sa - sb) ∧ 2 * rden 1 ((t : Int) - sa - sb) ≤ B ^ 5 ∧ rquo neg (ca.natAbs * cb.natAbs) 1 ((t : Int) - sa - sb) mode < B ^ 5 := by
  have e1 : rnum (ca.natAbs * cb.natAbs) ((t : Int) - sa - sb) ≤ 2 ^ 127 * 2 ^ 127 * 10 ^ 18 := by
    unfold rnum; exact Nat.mul_le_mul (Nat.mul_le_mul (Nat.le_of_lt (natAbs_lt ia)) (Nat.le_of_lt (natAbs_lt ib))) (pow_le18 (by omega))
  have e2 : rden 1 ((t : Int) - sa - sb) ≤ 1 * 10 ^ 36 := by
    unfold rden; exact Nat.mul_le_mul (Nat.le_refl _) (pow_le36 (by omega))
  refine ⟨Nat.lt_of_le_of_lt e1 (by decide), ?_, Nat.le_trans (Nat.mul_le_mul_left 2 e2) (by decide), ?_⟩
  · unfold rden; exact Nat.mul_pos (by omega) (Nat.pow_pos (by decide))
  · exact Nat.lt_of_le_of_lt (Nat.le_trans (rquo_le _ _ _ _ _) (Nat.add_le_add_right e1 1)) (by decide)

theorem of_words (n : Int) (h1 : -9223372036854775808 ≤ n) (h2 : n ≤ 9223372036854775807) : n / 9223372036854775808 = dhi n ∧ IntKind.u64.wrap n = dlo n := by
  rw [IntKind.wrap_u64]; unfold dhi dlo; omega
end Go.Proofs.YtlgcbbnnldlooaaDoor
