/- money: the contracts of the document's DocTwo, DocCmp, DocDigits. -/
import Derived.Test.YtbgglghapjfdeaaDoorBd
import Derived.Deep.DeepCutAuto
namespace Go.Proofs.YtbgglghapjfdeaaDoor
open Go.RowKit
set_option linter.unusedVariables false

end Go.Proofs.YtbgglghapjfdeaaDoor
