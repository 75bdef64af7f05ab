/- texts of the model: Uj Uk Um Un -/
import Derived.Test.YtjkiplndbcmmbaaGreatDoorV05
import Derived.Test.YtjkiplndbcmmbaaGreatDoorV12
set_option linter.unusedVariables false
set_option linter.unusedSimpArgs false
set_option maxHeartbeats 16000000
namespace Go.Proofs.YtjkiplndbcmmbaaGreatDoor
open Go.RowKit
attribute [local go_sem ↓] Go.wp_at_zero Go.wp_at_succ
structure In (w : World) (v : Value) (z : Int) : Prop where
 ex : ∃ m, Wn w v m z.natAbs ∧ (0 < z → m = false) ∧ (z < 0 → m = true)
theorem In.step {w w' : World} {v : Value} {z : Int} (h : In w v z) (k : Below w.heap.size w w') : In w' v z := by
 obtain ⟨m, n, a, b⟩ := h
 exact ⟨m, n.step k, a, b⟩
theorem In.drew {w : World} {v : Value} {z : Int} (h : In w v z) : In w.drew v z := h.step ((Below.refl _ _).drew)
theorem In.alloc {w : World} {v : Value} {z : Int} (h : In w v z) (o : Obj) : In (w.alloc o) v z := h.step ((Below.refl _ _).alloc (Nat.le_refl _) o)
structure V3 (w : World) (p : Nat) (x y z : Value) (T : TypeId) : Prop where
 blk : w.heap[p]? = some (.cells #[x, y, z] T (0, 0))
theorem V3.c0 {w : World} {p : Nat} {x y z : Value} {T : TypeId} (h : V3 w p x y z T) : w.cell? ⟨p, 0, none⟩ = some x := by rw [cell_of_row w p 0 _ _ _ h.blk]; rfl
theorem V3.c1 {w : World} {p : Nat} {x y z : Value} {T : TypeId} (h : V3 w p x y z T) : w.cell? ⟨p, 1, none⟩ = some y := by rw [cell_of_row w p 1 _ _ _ h.blk]; rfl
theorem V3.c2 {w : World} {p : Nat} {x y z : Value} {T : TypeId} (h : V3 w p x y z T) : w.cell? ⟨p, 2, none⟩ = some z := by rw [cell_of_row w p 2 _ _ _ h.blk]; rfl
theorem V3.free {w : World} {p : Nat} {x y z : Value} {T : TypeId} (h : V3 w p x y z T) (o : Nat) : w.frozen? ⟨p, o, none⟩ = false := frozen_of_row w p o _ _ h.blk
theorem V3.lt {w : World} {p : Nat} {x y z : Value} {T : TypeId} (h : V3 w p x y z T) : p < w.heap.size := by
 rcases Nat.lt_or_ge p w.heap.size with hlt | hge
 ·exact hlt
 ·have := h.blk; rw [Array.getElem?_eq_none hge] at this; cases this
theorem V3.step {w w' : World} {p : Nat} {x y z : Value} {T : TypeId} (h : V3 w p x y z T) (k : Below w.heap.size w w') : V3 w' p x y z T := ⟨by rw [k.block p h.lt]; exact h.blk⟩
theorem V3.alloc {w : World} {p : Nat} {x y z : Value} {T : TypeId} (h : V3 w p x y z T) (o : Obj) : V3 (w.alloc o) p x y z T := h.step ((Below.refl _ _).alloc (Nat.le_refl _) o)
theorem V3.drew {w : World} {p : Nat} {x y z : Value} {T : TypeId} (h : V3 w p x y z T) : V3 w.drew p x y z T := ⟨h.blk⟩
def h64 (x : Nat) : Int := ((x / 18446744073709551616 : Nat) : Int)
theorem sX (k : Nat) : (0 : Int) < 10 ^ k := Int.pow_pos (by decide)
end Go.Proofs.YtjkiplndbcmmbaaGreatDoor