/- money: MoneyNothingLost, both ways. -/
import Derived.Test.YtbgglghapjfdeaaDoorSsp
import Derived.Test.YtbgglghapjfdeaaDoorSsq
namespace Go.Proofs.YtbgglghapjfdeaaDoor
open Go.RowKit
set_option linter.unusedVariables false

theorem lost_walk (c m : Int) (v : Value) (us : List Nat) (w : World) (T : Cu w) (N : Cn w) (HU : U16s w v us) (wc : (Lit.int .i64 c).wf = true) (wm : (Lit.int .i64 m).wf = true) :
    Calls Tryd.prog 4 #[.agg #[.int .i64 c, .int .i64 m], v] w fun e w' => e = .returned (.bool true) ∧ Below w.heap.size w w' := by
  simp [Lit.wf, IntKind.min, IntKind.max, IntKind.signed, IntKind.bits] at wm wc
  by_cases h : Int.tmod m 10000000000001 < 0
  · exact lost_neg c m v us w T N HU (by omega) (by omega) (by omega) (by omega) h
  · exact lost_pos c m v us w T N HU (by omega) (by omega) (by omega) (by omega) h
end Go.Proofs.YtbgglghapjfdeaaDoor
