/- The contracts of the document's calendar (passbookref03), of right arguments. -/
import Derived.Test.YtmaikgebdegkgabCc
namespace Go.Proofs.Ytmaikgebdegkgab.cb
open Go.RowKit
set_option linter.unusedVariables false

theorem first_cent (a : Int) : first (1 + 400 * a) = 146097 * a := by unfold first; omega
end Go.Proofs.Ytmaikgebdegkgab.cb
