/- The contracts of awayFromNought and ratio (package dec). -/
import Derived.Test.YtlgcbbnnldlooaaDoorNd
namespace Go.Proofs.YtlgcbbnnldlooaaDoor
open Go.RowKit
set_option linter.unusedVariables false
attribute [local go_sem] ext_cell ext_frozen ext_drew ext_of_drew ext_of_drewN ext_setCell ext_lt ext_lt1 ext_lt2 ext_lt3 lt_n2 lt_n3 lt_n4 lt_n5 lt_n6

/-- Is a quotient with that rest rounded away from nought? -/
def away (neg : Bool) (q r d mode : Nat) : Bool :=
  if r = 0 then false else
  match mode with
  | 1 => true
  | 2 => neg
  | 3 => !neg
  | 4 => !decide (r + r < d)
  | 5 => decide (d < r + r)
  | 6 => decide (d < r + r) || (decide (r + r = d) && decide (q % 2 = 1))
  | _ => false
theorem odd_word (q : Nat) : (bits .and .u64 (wd q 0) 1 == 1) = decide (q % 2 = 1) := by
  have h := bit_word q 0 0 (by decide)
  simp only [Int.pow_zero, Int.ediv_one, Nat.mul_zero, Nat.add_zero, Nat.pow_zero, Nat.div_one] at h
  rw [h, Bool.eq_iff_iff, beq_iff_eq, decide_eq_true_eq]
  omega

end Go.Proofs.YtlgcbbnnldlooaaDoor
