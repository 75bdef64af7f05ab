/- The contract of awake (package passbooklaw01). -/
import Derived.Test.YtbgglghapjfdeaaDoorM7
import Derived.Test.YtbgglghapjfdeaaDoorEz
namespace Go.Proofs.YtbgglghapjfdeaaDoor
open Go.RowKit
set_option linter.unusedVariables false
attribute [local go_sem] ext_cell ext_frozen ext_drew ext_of_drew ext_of_drewN ext_setCell ext_lt ext_lt1 ext_lt2 ext_lt3 lt_n2 lt_n3 lt_n4 lt_n5 lt_n6

/-- Three cells hold these. -/
structure At3 (w : World) (b : Nat) (x y z : Value) : Prop where
  c0 : w.cell? ⟨b, 0, none⟩ = some x
  c1 : w.cell? ⟨b, 1, none⟩ = some y
  c2 : w.cell? ⟨b, 2, none⟩ = some z
  lt : b < w.heap.size
theorem At3.step {w w' : World} {b : Nat} {x y z : Value} (h : At3 w b x y z) (k : Below w.heap.size w w') : At3 w' b x y z :=
  ⟨by rw [k.cell h.lt]; exact h.c0, by rw [k.cell h.lt]; exact h.c1, by rw [k.cell h.lt]; exact h.c2, Nat.lt_of_lt_of_le h.lt k.size⟩
theorem At3.alloc {w : World} {b : Nat} {x y z : Value} (h : At3 w b x y z) (O : Obj) : At3 (w.alloc O) b x y z := h.step ((Below.refl _ _).alloc (Nat.le_refl _) O)
theorem at3_new (w : World) (x y z : Value) (t : TypeId) : At3 (w.alloc (.cells #[x, y, z] t)) w.heap.size x y z := by
  constructor <;> simp [go_sem]
theorem below_over {w w' : World} {O : Obj} (k : Below (w.alloc O).heap.size (w.alloc O) w') : Below w.heap.size w w' :=
  ((Below.refl _ _).alloc (Nat.le_refl _) O).trans (k.mono (by simp))

end Go.Proofs.YtbgglghapjfdeaaDoor
