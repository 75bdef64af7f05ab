/- The contract of math/bits' Div64 (the library's own Go text, Knuth's division by halves). -/
import Derived.Test.YtlgcbbnnldlooaaDoorMd
namespace Go.Proofs.YtlgcbbnnldlooaaDoor
open Go.RowKit
set_option linter.unusedVariables false

end Go.Proofs.YtlgcbbnnldlooaaDoor
