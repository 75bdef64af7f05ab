/- The contract of the quotient and the rest of two wide numbers (package dec). -/
import Derived.Test.YtlgcbbnnldlooaaDoorWi
import Derived.Test.YtlgcbbnnldlooaaDoorWb
import Derived.Test.YtlgcbbnnldlooaaDoorEx
import Derived.Test.YtlgcbbnnldlooaaDoorMe
namespace Go.Proofs.YtlgcbbnnldlooaaDoor
open Go.RowKit
set_option linter.unusedVariables false
attribute [local go_sem] ext_cell ext_frozen ext_drew ext_of_drew ext_of_drewN ext_setCell ext_lt ext_lt1 ext_lt2 ext_lt3 lt_n2 lt_n3 lt_n4 lt_n5 lt_n6

end Go.Proofs.YtlgcbbnnldlooaaDoor
