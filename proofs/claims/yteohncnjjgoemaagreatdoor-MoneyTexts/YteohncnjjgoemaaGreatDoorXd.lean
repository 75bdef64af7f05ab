/- money: a text cut at its first blank. -/
import Derived.Test.YteohncnjjgoemaaGreatDoorN8
import Derived.Test.YteohncnjjgoemaaGreatDoorN1
import Derived.Shelf.Lay
import Derived.Ground.NamesProg
import Derived.Shelf.LaysM
import Derived.Shelf.Strings.Cut
namespace Go.Proofs.YteohncnjjgoemaaGreatDoor
open Go.RowKit Go.Shelf
set_option linter.unusedVariables false
set_option linter.unusedSimpArgs false

shelf_lay LaysM.n145 Nm 145 at Tryz as laysM145
/-- the library's bound -/
structure Mx (w : World) : Prop where
  c : ∃ m, w.cell? ⟨3, 0, none⟩ = some (.int .i64 m)
theorem Mx.step {w w' : World} (h : Mx w) (k : Below w.heap.size w w') : Mx w' := by
  obtain ⟨m, hm⟩ := h.c
  exact ⟨m, (k.cell (p := ⟨3, 0, none⟩) (World.block_lt_of_cell? w _ hm)).trans hm⟩
theorem Mx.alloc {w : World} (h : Mx w) (o : Obj) : Mx (w.alloc o) := h.step ((Below.refl _ _).alloc (Nat.le_refl _) o)
def ct (s : ByteArray) : List UInt8 × List UInt8 × Bool := Lib.cut s.data.toList [32]
theorem mcut (s : ByteArray) (w : World) (hs : s.size ≤ 64) (hM : Mx w) :
    Calls Tryz.prog 18 #[.string s, .string ⟨#[32]⟩] w fun e w' => e = .returned (.tuple #[.string ⟨(ct s).1.toArray⟩, .string ⟨(ct s).2.1.toArray⟩, .bool (ct s).2.2]) ∧ Below w.heap.size w w' := by
  obtain ⟨m, hm⟩ := hM.c
  refine (Any.strings_Cut { laysM145 with } s ⟨#[32]⟩ m w (by omega) hm).mono ?_
  rintro e w' ⟨rfl, n, rfl⟩
  exact ⟨rfl, below_drewN (Below.refl _ _) n⟩
end Go.Proofs.YteohncnjjgoemaaGreatDoor
