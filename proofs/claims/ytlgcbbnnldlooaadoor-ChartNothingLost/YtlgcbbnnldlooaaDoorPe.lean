/- The contract of Rescale (package dec). -/
import Derived.Test.YtlgcbbnnldlooaaDoorPd
namespace Go.Proofs.YtlgcbbnnldlooaaDoor
open Go.RowKit
set_option linter.unusedVariables false
attribute [local go_sem] ext_cell ext_frozen ext_drew ext_of_drew ext_of_drewN ext_setCell ext_lt ext_lt1 ext_lt2 ext_lt3 lt_n2 lt_n3 lt_n4 lt_n5 lt_n6

theorem res_bounds {c : Int} {s t mode : Nat} (neg : Bool) (ic : InR c) (hs : (s : Int) ≤ 18) (ht : (t : Int) ≤ 18) :
    rnum c.natAbs ((t : Int) - s) < B ^ 5 ∧ 0 < rden 1 ((t : Int) - s) ∧ 2 * rden 1 ((t : Int) - s) ≤ B ^ 5 ∧ rquo neg c.natAbs 1 ((t : Int) - s) mode < B ^ 5 := by
  have e1 : rnum c.natAbs ((t : Int) - s) ≤ 2 ^ 127 * 10 ^ 18 := by
    unfold rnum; exact Nat.mul_le_mul (Nat.le_of_lt (natAbs_lt ic)) (pow_le18 (by omega))
  have e2 : rden 1 ((t : Int) - s) ≤ 1 * 10 ^ 18 := by
    unfold rden; exact Nat.mul_le_mul (Nat.le_refl _) (pow_le18 (by omega))
  refine ⟨Nat.lt_of_le_of_lt e1 (by decide), ?_, Nat.le_trans (Nat.mul_le_mul_left 2 e2) (by decide), ?_⟩
  · unfold rden; exact Nat.mul_pos (by omega) (Nat.pow_pos (by decide))
  · exact Nat.lt_of_le_of_lt (Nat.le_trans (rquo_le _ _ _ _ _) (Nat.add_le_add_right e1 1)) (by decide)

end Go.Proofs.YtlgcbbnnldlooaaDoor
