/- Arrays and structs in a block of their own, known whole (for any seat): loads and stores of all of it. -/
import Derived.Test.YtcognhhbpapibaaDoorAb
import Derived.Laws.Rows
import Derived.Laws.Tables
import Derived.BigQuiet
import Derived.Deep.MidRow
namespace Go.Proofs.YtcognhhbpapibaaDoor
open Go.RowKit
set_option linter.unusedVariables false

/-- a block known whole -/
structure VA (w : World) (p : Nat) (cs : List Value) (T : TypeId) : Prop where
  blk : w.heap[p]? = some (.cells cs.toArray T (0, 0))
theorem VA.lt {w : World} {p : Nat} {cs : List Value} {T : TypeId} (h : VA w p cs T) : p < w.heap.size := by
  rcases Nat.lt_or_ge p w.heap.size with hlt | hge
  · exact hlt
  · have := h.blk; rw [Array.getElem?_eq_none hge] at this; cases this
theorem VA.cell {w : World} {p : Nat} {cs : List Value} {T : TypeId} (h : VA w p cs T) (k : Nat) {v : Value} (hv : cs[k]? = some v) : w.cell? ⟨p, k, none⟩ = some v := by
  rw [cell_of_row w p k _ _ _ h.blk]; simpa using hv
theorem VA.free {w : World} {p : Nat} {cs : List Value} {T : TypeId} (h : VA w p cs T) (k : Nat) : w.frozen? ⟨p, k, none⟩ = false := frozen_of_row w p k _ _ h.blk
theorem VA.step {w w' : World} {p : Nat} {cs : List Value} {T : TypeId} (h : VA w p cs T) (k : Below w.heap.size w w') : VA w' p cs T := ⟨by rw [k.block p h.lt]; exact h.blk⟩
theorem VA.alloc {w : World} {p : Nat} {cs : List Value} {T : TypeId} (h : VA w p cs T) (o : Obj) : VA (w.alloc o) p cs T := h.step ((Below.refl _ _).alloc (Nat.le_refl _) o)
theorem VA.drew {w : World} {p : Nat} {cs : List Value} {T : TypeId} (h : VA w p cs T) : VA w.drew p cs T := ⟨h.blk⟩
theorem VA.drewN {w : World} {p : Nat} {cs : List Value} {T : TypeId} (h : VA w p cs T) (n : Nat) : VA (w.drewN n) p cs T := ⟨h.blk⟩
theorem va_new (w : World) (cs : List Value) (T : TypeId) : VA (w.alloc (.cells cs.toArray T)) w.heap.size cs T := ⟨Go.heap_alloc_new w _⟩
theorem VA.set {w : World} {p : Nat} {cs : List Value} {T : TypeId} (h : VA w p cs T) (k : Nat) (u : Value) : VA (w.setCell ⟨p, k, none⟩ u) p (cs.set k u) T := ⟨by rw [Go.heap_setCell_same w p k _ _ u h.blk]; simp⟩
theorem VA.set_other {w : World} {p q : Nat} {cs : List Value} {T : TypeId} (h : VA w p cs T) (hq : p ≠ q) (k : Nat) (u : Value) : VA (w.setCell ⟨q, k, none⟩ u) p cs T := ⟨by rw [Go.heap_setCell_other w _ p u hq]; exact h.blk⟩
/-- only the block p is another -/
structure Upd (p : Nat) (w w' : World) : Prop where
  os : w'.os = w.os
  tape : w'.tape = w.tape
  output : w'.output = w.output
  size : w'.heap.size = w.heap.size
  block : ∀ k, k ≠ p → w'.heap[k]? = w.heap[k]?
theorem VA.upd {w w' : World} {p q : Nat} {cs : List Value} {T : TypeId} (h : VA w q cs T) (k : Upd p w w') (hq : q ≠ p) : VA w' q cs T := ⟨by rw [k.block q hq]; exact h.blk⟩
theorem Upd.bel {p B : Nat} {w0 w w' : World} (k : Upd p w w') (h : Below B w0 w) (hp : B ≤ p) : Below B w0 w' :=
  ⟨k.os.trans h.os, k.tape.trans h.tape, k.output.trans h.output, by rw [k.size]; exact h.size, fun b hb => (k.block b (by omega)).trans (h.block b hb)⟩
theorem upd_setRow (w : World) (p : Nat) (cs : Array Value) : Upd p w (w.setRow p cs) :=
  ⟨rfl, rfl, rfl, by simp, fun k hk => by simp only [World.setRow, Array.getElem?_modify]; rw [if_neg (fun e => hk e.symm)]⟩
/-- all of an array or a struct is loaded -/
theorem ldA {w : World} {ops : Array Oper} {rest : List Oper} {o : Oper} {a : Act} {Q : Exit → Act → World → Prop} (hgd : o.guard = none) (t : TypeId) (x : Operand) (ho : o.op = .load t x)
    (p : Nat) (hx : a.eval x = .pointer (some ⟨p, 0, none⟩)) (cs : List Value) (T : TypeId) (h : VA w p cs T) (d : TypeDesc) (hu : Tryd.prog.underlying t = some d) (hd : d.isRow = true) (hi : (Tryd.prog.info? t).map (·.size) = some cs.length)
    (k : wpList Tryd.prog ops Q rest (a.put o.dst (.agg cs.toArray)) w) : wpList Tryd.prog ops Q (o :: rest) a w :=
  wpList_load_mid hgd t x ho p 0 hx cs d (fun j v hv => by rw [Nat.zero_add]; exact h.cell j hv) hu hd hi k
/-- all of an array is stored -/
theorem stA {w : World} {ops : Array Oper} {rest : List Oper} {o : Oper} {a : Act} {Q : Exit → Act → World → Prop} (hgd : o.guard = none) (t : TypeId) (x y : Operand) (ho : o.op = .store t x y)
    (p : Nat) (hx : a.eval x = .pointer (some ⟨p, 0, none⟩)) (cs ds : List Value) (hy : a.eval y = .agg ds.toArray) (T : TypeId) (h : VA w p cs T) (hi : (Tryd.prog.info? t).map (·.size) = some ds.length) (hl : cs.length = ds.length) (h1 : ∀ v ∈ ds, v.oneCell' = true)
    (k : ∀ w', VA w' p ds T → Upd p w w' → wpList Tryd.prog ops Q rest (a.put o.dst undef) w') : wpList Tryd.prog ops Q (o :: rest) a w := by
  refine wpList_plain hgd fun K hK' => ?_
  have hrun := run_storeVar_row (P := Tryd.prog) w p T t cs.toArray ds.toArray h.blk (by simpa using hi) (by simpa using hl) (Array.all_eq_true_iff_forall_mem.2 (fun v hv => h1 v (by simpa using hv)))
  unfold Oper.wp execOp
  simp only [ho, hx, hy, Instr.storeAt, Instr.sureAddr, Sem.run_bind, Sem.run_pure, Result.andThen_ok, hrun]
  exact hK' _ _ (k _ ⟨setRow_heap w p _ _ _ _ h.blk⟩ (upd_setRow w p _))
theorem upd_set (w : World) (p k : Nat) (u : Value) : Upd p w (w.setCell ⟨p, k, none⟩ u) := ⟨rfl, rfl, rfl, by simp, fun j hj => Go.heap_setCell_other _ _ j _ hj⟩
theorem Upd.trans {p : Nat} {w w' w'' : World} (h : Upd p w w') (k : Upd p w' w'') : Upd p w w'' := ⟨k.os.trans h.os, k.tape.trans h.tape, k.output.trans h.output, k.size.trans h.size, fun j hj => (k.block j hj).trans (h.block j hj)⟩
end Go.Proofs.YtcognhhbpapibaaDoor
