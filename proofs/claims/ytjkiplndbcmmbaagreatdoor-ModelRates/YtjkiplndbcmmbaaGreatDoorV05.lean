/- texts of the model: Ui -/
import Derived.Test.YtjkiplndbcmmbaaGreatDoorV04
import Derived.Deep.RegionHeld3
import Derived.Deep.DrawnRows
set_option linter.unusedVariables false
set_option linter.unusedSimpArgs false
set_option maxHeartbeats 16000000
namespace Go.Proofs.YtjkiplndbcmmbaaGreatDoor
open Go.RowKit
attribute [local go_sem ↓] Go.wp_at_zero Go.wp_at_succ
structure Wn (w : World) (v : Value) (m : Bool) (x : Nat) : Prop where
 ex : ∃ s, v = .agg #[.bool m, s] ∧ Nm w s x
theorem Wn.step {w w' : World} {v : Value} {m : Bool} {x : Nat} (h : Wn w v m x) (k : Below w.heap.size w w') : Wn w' v m x := by
 obtain ⟨s, e, n⟩ := h
 exact ⟨s, e, n.step k⟩
theorem gn {a w : World} (h : Below a.heap.size a w) (o : Obj) : Below a.heap.size a (w.alloc o) := h.alloc h.size o
structure V2 (w : World) (p : Nat) (x y : Value) (T : TypeId) : Prop where
 blk : w.heap[p]? = some (.cells #[x, y] T (0, 0))
theorem V2.c0 {w : World} {p : Nat} {x y : Value} {T : TypeId} (h : V2 w p x y T) : w.cell? ⟨p, 0, none⟩ = some x := by rw [cell_of_row w p 0 _ _ _ h.blk]; rfl
theorem V2.c1 {w : World} {p : Nat} {x y : Value} {T : TypeId} (h : V2 w p x y T) : w.cell? ⟨p, 1, none⟩ = some y := by rw [cell_of_row w p 1 _ _ _ h.blk]; rfl
theorem V2.free {w : World} {p : Nat} {x y : Value} {T : TypeId} (h : V2 w p x y T) (o : Nat) : w.frozen? ⟨p, o, none⟩ = false := frozen_of_row w p o _ _ h.blk
theorem V2.lt {w : World} {p : Nat} {x y : Value} {T : TypeId} (h : V2 w p x y T) : p < w.heap.size := by
 rcases Nat.lt_or_ge p w.heap.size with hlt | hge
 ·exact hlt
 ·have := h.blk; rw [Array.getElem?_eq_none hge] at this; cases this
theorem V2.step {w w' : World} {p : Nat} {x y : Value} {T : TypeId} (h : V2 w p x y T) (k : Below w.heap.size w w') : V2 w' p x y T := ⟨by rw [k.block p h.lt]; exact h.blk⟩
theorem hZ (w : World) (x y : Value) (T : TypeId) : V2 (w.alloc (.cells #[x, y] T)) w.heap.size x y T := ⟨heap_alloc_new w _⟩
theorem V2.alloc {w : World} {p : Nat} {x y : Value} {T : TypeId} (h : V2 w p x y T) (o : Obj) : V2 (w.alloc o) p x y T := h.step ((Below.refl _ _).alloc (Nat.le_refl _) o)
theorem V2.drew {w : World} {p : Nat} {x y : Value} {T : TypeId} (h : V2 w p x y T) : V2 w.drew p x y T := ⟨h.blk⟩
theorem Nm.drew {w : World} {v : Value} {x : Nat} (h : Nm w v x) : Nm w.drew v x := h.step ((Below.refl _ _).drew)
theorem Nm.alloc {w : World} {v : Value} {x : Nat} (h : Nm w v x) (o : Obj) : Nm (w.alloc o) v x := h.step ((Below.refl _ _).alloc (Nat.le_refl _) o)
theorem gd (w : World) (o : Obj) : (w.alloc o).heap.size = w.heap.size + 1 := by simp
theorem wR (w : World) (a b c d e f : Value) (T U : TypeId) :
  V2 (((w.alloc (.cells #[a, b] T)).alloc (.cells #[c, d] T)).alloc (.cells #[e, f] U)) w.heap.size a b T ∧
  V2 (((w.alloc (.cells #[a, b] T)).alloc (.cells #[c, d] T)).alloc (.cells #[e, f] U)) (w.heap.size + 1) c d T ∧
  V2 (((w.alloc (.cells #[a, b] T)).alloc (.cells #[c, d] T)).alloc (.cells #[e, f] U)) (w.heap.size + 2) e f U ∧
  Below w.heap.size w (((w.alloc (.cells #[a, b] T)).alloc (.cells #[c, d] T)).alloc (.cells #[e, f] U)) := by
 refine ⟨((hZ w a b T).alloc _).alloc _, ?_, ?_, gn (gn (gn (Below.refl _ _) _) _) _⟩
 ·have := (hZ (w.alloc (.cells #[a, b] T)) c d T).alloc (.cells #[e, f] U)
  rw [gd] at this
  exact this
 ·have := hZ ((w.alloc (.cells #[a, b] T)).alloc (.cells #[c, d] T)) e f U
  rw [gd, gd] at this
  exact this
end Go.Proofs.YtjkiplndbcmmbaaGreatDoor