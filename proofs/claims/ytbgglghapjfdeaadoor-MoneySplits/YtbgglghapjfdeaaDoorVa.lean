/- The calls Rescale, Mul, Quo of package dec, of all arguments: what they answer, in true numbers. -/
import Derived.Test.YtbgglghapjfdeaaDoorPg
import Derived.Test.YtbgglghapjfdeaaDoorM7
namespace Go.Proofs.YtbgglghapjfdeaaDoor
open Go.RowKit
set_option linter.unusedVariables false
attribute [local go_sem] ext_cell ext_frozen ext_drew ext_of_drew ext_of_drewN ext_setCell ext_lt ext_lt1 ext_lt2 ext_lt3 lt_n2 lt_n3 lt_n4 lt_n5 lt_n6

/-- the coefficient of a number at another scale -/
def rv (c : Int) (s t mode : Nat) : Int := sv (decide (c < 0)) (rquo (decide (c < 0)) c.natAbs 1 ((t : Int) - s) mode)
/-- of a product -/
def mv (a : Int) (s : Nat) (b : Int) (u t mode : Nat) : Int := sv ((decide (a < 0)) != (decide (b < 0))) (rquo ((decide (a < 0)) != (decide (b < 0))) (a.natAbs * b.natAbs) 1 ((t : Int) - s - u) mode)
/-- of a quotient -/
def qv (a : Int) (s : Nat) (b : Int) (u t mode : Nat) : Int := sv ((decide (a < 0)) != (decide (b < 0))) (rquo ((decide (a < 0)) != (decide (b < 0))) a.natAbs b.natAbs ((t : Int) + u - s) mode)
theorem sv_out {neg : Bool} {n : Nat} (h : ¬ InR (sv neg n)) : M127 ≤ (n : Int) := by
  apply Classical.byContradiction
  intro hn
  exact h (sv_in.2 (by omega))
end Go.Proofs.YtbgglghapjfdeaaDoor
