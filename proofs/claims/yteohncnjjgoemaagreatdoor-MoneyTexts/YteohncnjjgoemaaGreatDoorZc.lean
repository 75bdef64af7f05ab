/- digits: the document's DocWrite; DigitsWrites' walk. -/
import Derived.Test.YteohncnjjgoemaaGreatDoorZb
namespace Go.Proofs.YteohncnjjgoemaaGreatDoor.dg
open Go.RowKit
set_option linter.unusedVariables false
set_option linter.unusedSimpArgs false

theorem sg_abs (c : Int) : sg (decide (c < 0)) c.natAbs = c := by
  unfold sg
  by_cases h : c < 0
  · simp [h]; omega
  · simp [h]; omega
end Go.Proofs.YteohncnjjgoemaaGreatDoor.dg
