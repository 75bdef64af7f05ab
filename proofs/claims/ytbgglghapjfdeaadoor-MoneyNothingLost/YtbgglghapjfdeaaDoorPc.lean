/- The contracts of Sub and Cmp (package dec). -/
import Derived.Test.YtbgglghapjfdeaaDoorM7
import Derived.Test.YtbgglghapjfdeaaDoorEz
namespace Go.Proofs.YtbgglghapjfdeaaDoor
open Go.RowKit
set_option linter.unusedVariables false
attribute [local go_sem] ext_cell ext_frozen ext_drew ext_of_drew ext_of_drewN ext_setCell ext_lt ext_lt1 ext_lt2 ext_lt3 lt_n2 lt_n3 lt_n4 lt_n5 lt_n6

theorem setCell_at {w : World} {b i : Nat} {c : Array Value} {t : TypeId} (h : w.heap[b]? = some (.cells c t)) (v : Value) : (w.setCell ⟨b, i, none⟩ v).heap[b]? = some (.cells (c.setIfInBounds i v) t) := by
  simp [World.setCell, Array.getElem?_modify, h]
theorem set6_at {w : World} {b : Nat} (h : w.heap[b]? = some (.cells #[.bool false, .int .u64 0, .int .u64 0, .int .u64 0, .int .u64 0, .int .u64 0] 101)) (neg : Bool) (n : Nat) :
    (set6 w b neg n).heap[b]? = some (.cells #[.bool neg, .int .u64 (wd n 0), .int .u64 (wd n 1), .int .u64 (wd n 2), .int .u64 (wd n 3), .int .u64 (wd n 4)] 101) :=
  setCell_at (setCell_at (setCell_at (setCell_at (setCell_at (setCell_at h _) _) _) _) _) _
end Go.Proofs.YtbgglghapjfdeaaDoor
