/- sum: the walk of SumBytes. -/
import Derived.Test.YtbgmepepcdpkfaaDoorRg
namespace Go.Proofs.YtbgmepepcdpkfaaDoor
open Go.RowKit
theorem rsha_holds : RSha := fun v bs w h hl => rsha_ok v bs w h (by omega)
theorem sumbytes_walk (v : Value) (bs xs : List Nat) (w : World) (T : Tb w) (h : Bs w v bs) (hl : bs.length ≤ 140737488351232) (hx : xs.length = 32) (hby : By xs) :
    Calls Tryd.prog 3 #[v, .agg (cl xs).toArray] w fun e w' => e = .returned (.bool true) ∧ Below w.heap.size w w' := bytes_walk rsha_holds v bs xs w T h hl hx hby
end Go.Proofs.YtbgmepepcdpkfaaDoor
