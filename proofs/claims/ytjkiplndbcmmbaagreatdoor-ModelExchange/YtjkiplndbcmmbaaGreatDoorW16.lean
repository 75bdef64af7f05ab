/- texts of the model: Ia Rwa Ib -/
import Derived.Test.YtjkiplndbcmmbaaGreatDoorProg
import Derived.WalkKit
import Derived.WalkSpells
import Derived.WalkLawsBesides
import Derived.Laws.AppendOwn
import Derived.Laws.AppendOwnNone
import Derived.Laws.CopyOwn
import Derived.OwnWalk
import Derived.LoopTactic
import Derived.Below
import Derived.Handy
import Derived.Laws.Rows
import Derived.Laws.Tables
import Derived.BigQuiet
import Derived.Deep.MidRow
import Derived.Deep.QuietTactic
set_option linter.unusedVariables false
set_option linter.unusedSimpArgs false
set_option maxHeartbeats 16000000
set_option maxRecDepth 100000
namespace Go.Proofs.YtjkiplndbcmmbaaGreatDoor
open Tryz
open Go.RowKit
structure VA (w : World) (p : Nat) (cs : List Value) (T : TypeId) : Prop where
 blk : w.heap[p]? = some (.cells cs.toArray T (0, 0))
theorem VA.lt {w : World} {p : Nat} {cs : List Value} {T : TypeId} (h : VA w p cs T) : p < w.heap.size := by
 rcases Nat.lt_or_ge p w.heap.size with hlt | hge
 ·exact hlt
 ·have := h.blk; rw [Array.getElem?_eq_none hge] at this; cases this
theorem VA.cell {w : World} {p : Nat} {cs : List Value} {T : TypeId} (h : VA w p cs T) (k : Nat) {v : Value} (hv : cs[k]? = some v) : w.cell? ⟨p, k, none⟩ = some v := by
 rw [cell_of_row w p k _ _ _ h.blk]; simpa using hv
theorem VA.free {w : World} {p : Nat} {cs : List Value} {T : TypeId} (h : VA w p cs T) (k : Nat) : w.frozen? ⟨p, k, none⟩ = false := frozen_of_row w p k _ _ h.blk
theorem VA.step {w w' : World} {p : Nat} {cs : List Value} {T : TypeId} (h : VA w p cs T) (k : Below w.heap.size w w') : VA w' p cs T := ⟨by rw [k.block p h.lt]; exact h.blk⟩
theorem VA.alloc {w : World} {p : Nat} {cs : List Value} {T : TypeId} (h : VA w p cs T) (o : Obj) : VA (w.alloc o) p cs T := h.step ((Below.refl _ _).alloc (Nat.le_refl _) o)
theorem VA.drew {w : World} {p : Nat} {cs : List Value} {T : TypeId} (h : VA w p cs T) : VA w.drew p cs T := ⟨h.blk⟩
theorem VA.drewN {w : World} {p : Nat} {cs : List Value} {T : TypeId} (h : VA w p cs T) (n : Nat) : VA (w.drewN n) p cs T := ⟨h.blk⟩
theorem aa (w : World) (cs : List Value) (T : TypeId) : VA (w.alloc (.cells cs.toArray T)) w.heap.size cs T := ⟨Go.heap_alloc_new w _⟩
theorem VA.set {w : World} {p : Nat} {cs : List Value} {T : TypeId} (h : VA w p cs T) (k : Nat) (u : Value) : VA (w.setCell ⟨p, k, none⟩ u) p (cs.set k u) T := ⟨by rw [Go.heap_setCell_same w p k _ _ u h.blk]; simp⟩
theorem VA.set_other {w : World} {p q : Nat} {cs : List Value} {T : TypeId} (h : VA w p cs T) (hq : p ≠ q) (k : Nat) (u : Value) : VA (w.setCell ⟨q, k, none⟩ u) p cs T := ⟨by rw [Go.heap_setCell_other w _ p u hq]; exact h.blk⟩
structure Upd (p : Nat) (w w' : World) : Prop where
 os : w'.os = w.os
 tape : w'.tape = w.tape
 output : w'.output = w.output
 size : w'.heap.size = w.heap.size
 block : ∀ k, k ≠ p → w'.heap[k]? = w.heap[k]?
theorem VA.upd {w w' : World} {p q : Nat} {cs : List Value} {T : TypeId} (h : VA w q cs T) (k : Upd p w w') (hq : q ≠ p) : VA w' q cs T := ⟨by rw [k.block q hq]; exact h.blk⟩
theorem Upd.bel {p B : Nat} {w0 w w' : World} (k : Upd p w w') (h : Below B w0 w) (hp : B ≤ p) : Below B w0 w' :=
 ⟨k.os.trans h.os, k.tape.trans h.tape, k.output.trans h.output, by rw [k.size]; exact h.size, fun b hb => (k.block b (by omega)).trans (h.block b hb)⟩
theorem cK (w : World) (p : Nat) (cs : Array Value) : Upd p w (w.setRow p cs) :=
 ⟨rfl, rfl, rfl, by simp, fun k hk => by simp only [World.setRow, Array.getElem?_modify]; rw [if_neg (fun e => hk e.symm)]⟩
theorem ldA {w : World} {ops : Array Oper} {rest : List Oper} {o : Oper} {a : Act} {Q : Exit → Act → World → Prop} (hgd : o.guard = none) (t : TypeId) (x : Operand) (ho : o.op = .load t x)
  (p : Nat) (hx : a.eval x = .pointer (some ⟨p, 0, none⟩)) (cs : List Value) (T : TypeId) (h : VA w p cs T) (d : TypeDesc) (hu : prog.underlying t = some d) (hd : d.isRow = true) (hi : (prog.info? t).map (·.size) = some cs.length)
  (k : wpList prog ops Q rest (a.put o.dst (.agg cs.toArray)) w) : wpList prog ops Q (o :: rest) a w :=
 wpList_load_mid hgd t x ho p 0 hx cs d (fun j v hv => by rw [Nat.zero_add]; exact h.cell j hv) hu hd hi k
theorem stA {w : World} {ops : Array Oper} {rest : List Oper} {o : Oper} {a : Act} {Q : Exit → Act → World → Prop} (hgd : o.guard = none) (t : TypeId) (x y : Operand) (ho : o.op = .store t x y)
  (p : Nat) (hx : a.eval x = .pointer (some ⟨p, 0, none⟩)) (cs ds : List Value) (hy : a.eval y = .agg ds.toArray) (T : TypeId) (h : VA w p cs T) (hi : (prog.info? t).map (·.size) = some ds.length) (hl : cs.length = ds.length) (h1 : ∀ v ∈ ds, v.oneCell' = true)
  (k : ∀ w', VA w' p ds T → Upd p w w' → wpList prog ops Q rest (a.put o.dst undef) w') : wpList prog ops Q (o :: rest) a w := by
 refine wpList_plain hgd fun K hK' => ?_
 have hrun := run_storeVar_row (P := prog) w p T t cs.toArray ds.toArray h.blk (by simpa using hi) (by simpa using hl) (Array.all_eq_true_iff_forall_mem.2 (fun v hv => h1 v (by simpa using hv)))
 unfold Oper.wp execOp
 simp only [ho, hx, hy, Instr.storeAt, Instr.sureAddr, Sem.run_bind, Sem.run_pure, Result.andThen_ok, hrun]
 exact hK' _ _ (k _ ⟨setRow_heap w p _ _ _ _ h.blk⟩ (cK w p _))
theorem au (w : World) (p k : Nat) (u : Value) : Upd p w (w.setCell ⟨p, k, none⟩ u) := ⟨rfl, rfl, rfl, by simp, fun j hj => Go.heap_setCell_other _ _ j _ hj⟩
theorem Upd.trans {p : Nat} {w w' w'' : World} (h : Upd p w w') (k : Upd p w' w'') : Upd p w w'' := ⟨k.os.trans h.os, k.tape.trans h.tape, k.output.trans h.output, k.size.trans h.size, fun j hj => (k.block j hj).trans (h.block j hj)⟩
def ci (zs : List Int) : List Value := zs.map fun d => Value.int .i64 d
structure OwnI (w : World) (B : Nat) (v : Value) (zs : List Int) : Prop where
 own : w.ownsRow B 2 1 v zs.length (ci zs)
theorem OwnI.block {w : World} {B : Nat} {v : Value} {cs : List Int} (h : OwnI w B v cs) : ∀ k, v.ownBlock = some k → B ≤ k := by
 obtain ⟨hl, h2⟩ := h.own
 rcases h2 with ⟨rfl, h0⟩ | ⟨g, cap, cur, rfl, hb, _⟩
 ·intro k hk; simp [Value.ownBlock] at hk
 ·intro k hk; simp [Value.ownBlock] at hk; omega
theorem OwnI.step {w w' : World} {B : Nat} {v : Value} {cs : List Int} (h : OwnI w B v cs) (k : Below w.heap.size w w') : OwnI w' B v cs := by
 refine ⟨h.own.1, ?_⟩
 rcases h.own.2 with h2 | ⟨g, cap, cur, e, hb, hg, r⟩
 ·exact Or.inl h2
 ·have hlt : g < w.heap.size := by
   rcases Nat.lt_or_ge g w.heap.size with hlt | hge
   ·exact hlt
   ·rw [Array.getElem?_eq_none hge] at hg; cases hg
  exact Or.inr ⟨g, cap, cur, e, hb, (k.block g hlt).trans hg, r⟩
theorem OwnI.at {w : World} {B : Nat} {a : Option Addr} {n c : Nat} {cs : List Int} (h : OwnI w B (.slice a n c) cs) (k : Nat) (hk : k < cs.length) : ∃ g, a = some ⟨g, 0, none⟩ ∧ g < w.heap.size ∧ w.cell? ⟨g, k, none⟩ = some (.int .i64 (cs.getD k 0)) := by
 have ho := h.own
 rcases h.own.2 with ⟨e, h0⟩ | ⟨g, cap, cur, e, hb, hg, hcap, hcm, hcs, htk⟩
 ·omega
 ·cases e
  refine ⟨g, rfl, ?_, ?_⟩
  ·rcases Nat.lt_or_ge g w.heap.size with hlt | hge
   ·exact hlt
   ·rw [Array.getElem?_eq_none hge] at hg; cases hg
  ·rw [ho.cellAt k (by omega)]
   simp [ci, List.getD, hk]
theorem vC (zs : List Int) (k : Nat) (d : Int) : ci (zs.set k d) = (ci zs).set k (.int .i64 d) := by simp [ci, List.map_set]
theorem OwnI.len {w : World} {B n c : Nat} {a : Option Addr} {cs : List Int} (h : OwnI w B (.slice a n c) cs) : cs.length = n := by
 obtain ⟨_, h2⟩ := h.own
 rcases h2 with ⟨h, h0⟩ | ⟨g', cap, cur, h, _⟩
 ·cases h; exact h0
 ·injection h with _ h _; exact h.symm
theorem OwnI.set {w : World} {B g n c : Nat} {cs : List Int} (h : OwnI w B (.slice (some ⟨g, 0, none⟩) n c) cs) (j : Nat) (d : Int) :
  OwnI (w.setCell ⟨g, j, none⟩ (.int .i64 d)) B (.slice (some ⟨g, 0, none⟩) n c) (cs.set j d) := by
 obtain rfl := h.len
 have := (World.ownsRow.stored h.own j (.int .i64 d)).1
 refine ⟨?_⟩
 rw [List.length_set, vC]
 exact this
theorem OwnI.free {w : World} {B g n c : Nat} {cs : List Int} (h : OwnI w B (.slice (some ⟨g, 0, none⟩) n c) cs) (j : Nat) : w.frozen? ⟨g, j, none⟩ = false := by
 obtain rfl := h.len
 exact World.ownsRow.frozenAt h.own j
structure Is (w : World) (v : Value) (zs : List Int) : Prop where
 form : ∃ a c, v = .slice a zs.length c ∧ zs.length ≤ c ∧ c ≤ 9223372036854775807 ∧ (0 < zs.length → ∃ b off, a = some ⟨b, off, none⟩ ∧ b < w.heap.size ∧ ∀ k, k < zs.length → w.cell? ⟨b, off + k, none⟩ = some (.int .i64 (zs.getD k 0)))
theorem Is.step {w w' : World} {v : Value} {zs : List Int} (h : Is w v zs) (k : Below w.heap.size w w') : Is w' v zs := by
 obtain ⟨a, c, e, h1, h2, h3⟩ := h
 refine ⟨a, c, e, h1, h2, fun h0 => ?_⟩
 obtain ⟨b, off, e, hb, hx⟩ := h3 h0
 exact ⟨b, off, e, Nat.lt_of_lt_of_le hb k.size, fun j hj => (k.cell (p := ⟨b, off + j, none⟩) hb).trans (hx j hj)⟩
structure Kd (α : Type) where
 T : TypeId
 S : TypeId
 k : Nat
 bt : Nat
 enc : α → List Value
 info : ∃ i z, prog.info? T = some i ∧ i.zero = some z ∧ i.size = k ∧ i.bytes = bt ∧ z.cells.size = k
 und : prog.underlying S = some (.slice T)
 pos : 0 < k
 len : ∀ x, (enc x).length = k
 one : ∀ x, ∀ v ∈ enc x, v.oneCell' = true
variable {α : Type}
def Kd.cells (K : Kd α) (xs : List α) : List Value := xs.flatMap K.enc
theorem Kd.cells_len (K : Kd α) (xs : List α) : (K.cells xs).length = xs.length * K.k := by
 induction xs with
 | nil => simp [Kd.cells]
 | cons x xs ih =>
  show (K.enc x ++ K.cells xs).length = _
  rw [List.length_append, ih, K.len, List.length_cons, Nat.add_mul, Nat.one_mul, Nat.add_comm]
theorem Kd.cells_app (K : Kd α) (xs ys : List α) : K.cells (xs ++ ys) = K.cells xs ++ K.cells ys := by simp [Kd.cells]
theorem Kd.cells_mem (K : Kd α) {xs : List α} {u : Value} (h : u ∈ K.cells xs) : u.oneCell' = true := by
 obtain ⟨x, _, hx⟩ := List.mem_flatMap.1 h
 exact K.one x u hx
theorem Kd.cells_get (K : Kd α) (xs : List α) : ∀ (i : Nat) (x : α), xs[i]? = some x → ∀ j, j < K.k → (K.cells xs)[i * K.k + j]? = (K.enc x)[j]? := by
 induction xs with
 | nil => intro i x h; simp at h
 | cons y ys ih =>
  intro i x h j hj
  show (K.enc y ++ K.cells ys)[i * K.k + j]? = _
  cases i with
  | zero =>
   simp at h
   subst h
   rw [Nat.zero_mul, Nat.zero_add, List.getElem?_append_left (by rw [K.len]; exact hj)]
  | succ i =>
   rw [List.getElem?_append_right (by rw [K.len, Nat.add_mul]; omega), K.len, show (i + 1) * K.k + j - K.k = i * K.k + j by rw [Nat.add_mul]; omega]
   exact ih i x (by simpa using h) j hj
theorem Kd.cells_inv (K : Kd α) (xs : List α) (p : Nat) (u : Value) (h : (K.cells xs)[p]? = some u) : ∃ i j x, p = i * K.k + j ∧ j < K.k ∧ xs[i]? = some x ∧ (K.enc x)[j]? = some u := by
 have hp : p < xs.length * K.k := by rw [← K.cells_len]; exact (List.getElem?_eq_some_iff.1 h).1
 have e : p = p / K.k * K.k + p % K.k := by rw [Nat.mul_comm]; exact (Nat.div_add_mod p K.k).symm
 have hj : p % K.k < K.k := Nat.mod_lt _ K.pos
 have hi : p / K.k < xs.length := Nat.div_lt_of_lt_mul (by rw [Nat.mul_comm]; exact hp)
 obtain ⟨x, hx⟩ : ∃ x, xs[p / K.k]? = some x := ⟨xs[p / K.k], by simp [hi]⟩
 refine ⟨p / K.k, p % K.k, x, e, hj, hx, ?_⟩
 rw [← K.cells_get xs _ x hx _ hj, ← e, h]
structure Sl (K : Kd α) (w : World) (v : Value) (xs : List α) : Prop where
 form : ∃ a c, v = .slice a xs.length c ∧ xs.length ≤ c ∧ c ≤ 9223372036854775807 ∧ (0 < xs.length → ∃ b off, a = some ⟨b, off, none⟩ ∧ b < w.heap.size ∧
  ∀ i x, xs[i]? = some x → ∀ j u, (K.enc x)[j]? = some u → w.cell? ⟨b, off + i * K.k + j, none⟩ = some u)
theorem Sl.step {K : Kd α} {w w' : World} {v : Value} {xs : List α} (h : Sl K w v xs) (k : Below w.heap.size w w') : Sl K w' v xs := by
 obtain ⟨a, c, e, h1, h2, h3⟩ := h
 refine ⟨a, c, e, h1, h2, fun h0 => ?_⟩
 obtain ⟨b, off, ea, hb, hx⟩ := h3 h0
 exact ⟨b, off, ea, Nat.lt_of_lt_of_le hb k.size, fun i x hi j u hj => (k.cell (p := ⟨b, off + i * K.k + j, none⟩) hb).trans (hx i x hi j u hj)⟩
theorem Sl.alloc {K : Kd α} {w : World} {v : Value} {xs : List α} (h : Sl K w v xs) (o : Obj) : Sl K (w.alloc o) v xs := h.step ((Below.refl _ _).alloc (Nat.le_refl _) o)
theorem Sl.at {K : Kd α} {w : World} {a : Option Addr} {n c : Nat} {xs : List α} (h : Sl K w (.slice a n c) xs) (i : Nat) (x : α) (hi : xs[i]? = some x) : ∃ b off, a = some ⟨b, off, none⟩ ∧ b < w.heap.size ∧ ∀ j u, (K.enc x)[j]? = some u → w.cell? ⟨b, off + i * K.k + j, none⟩ = some u := by
 obtain ⟨a', c', e, h1, h2, h3⟩ := h
 cases e
 have hlt : i < xs.length := (List.getElem?_eq_some_iff.1 hi).1
 obtain ⟨b, off, ea, hb, hx⟩ := h3 (by omega)
 exact ⟨b, off, ea, hb, hx i x hi⟩
theorem Sl.front {K : Kd α} {w : World} {a : Option Addr} {n c : Nat} {xs ys : List α} (h : Sl K w (.slice a n c) (xs ++ ys)) : Sl K w (.slice a xs.length c) xs := by
 obtain ⟨a', c', e, h1, h2, h3⟩ := h
 cases e
 rw [List.length_append] at h1 h3
 refine ⟨a, c, rfl, by omega, h2, fun h0 => ?_⟩
 obtain ⟨b, off, ea, hb, hx⟩ := h3 (by omega)
 exact ⟨b, off, ea, hb, fun i x hi => hx i x (by rw [List.getElem?_append_left (List.getElem?_eq_some_iff.1 hi).1]; exact hi)⟩
structure Own (K : Kd α) (w : World) (B : Nat) (v : Value) (xs : List α) : Prop where
 own : w.ownsRow B K.T K.k v xs.length (K.cells xs)
theorem jE (K : Kd α) (w : World) (B : Nat) : Own K w B (.slice none 0 0) [] := ⟨World.ownsRow_nil _ _ _ _⟩
theorem Own.block {K : Kd α} {w : World} {B : Nat} {v : Value} {xs : List α} (h : Own K w B v xs) : ∀ k, v.ownBlock = some k → B ≤ k := by
 obtain ⟨hl, h2⟩ := h.own
 rcases h2 with ⟨rfl, h0⟩ | ⟨g, cap, cur, rfl, hb, _⟩
 ·intro k hk; simp [Value.ownBlock] at hk
 ·intro k hk; simp [Value.ownBlock] at hk; omega
theorem Own.lower {K : Kd α} {w : World} {B B' : Nat} {v : Value} {xs : List α} (h : Own K w B v xs) (hB : B' ≤ B) : Own K w B' v xs := by
 refine ⟨h.own.1, ?_⟩
 rcases h.own.2 with h2 | ⟨g, cap, cur, e, hb, r⟩
 ·exact Or.inl h2
 ·exact Or.inr ⟨g, cap, cur, e, by omega, r⟩
theorem Own.blk {K : Kd α} {w w' : World} {B : Nat} {v : Value} {xs : List α} (h : Own K w B v xs) (k : ∀ g, v.ownBlock = some g → w'.heap[g]? = w.heap[g]?) : Own K w' B v xs := by
 refine ⟨h.own.1, ?_⟩
 rcases h.own.2 with h2 | ⟨g, cap, cur, e, hb, hg, r⟩
 ·exact Or.inl h2
 ·exact Or.inr ⟨g, cap, cur, e, hb, (k g (by rw [e]; rfl)).trans hg, r⟩
theorem Own.lt {K : Kd α} {w : World} {B : Nat} {v : Value} {xs : List α} (h : Own K w B v xs) : ∀ k, v.ownBlock = some k → k < w.heap.size := by
 rcases h.own.2 with ⟨rfl, h0⟩ | ⟨g, cap, cur, rfl, hb, hg, _⟩
 ·intro k hk; simp [Value.ownBlock] at hk
 ·intro k hk
  simp [Value.ownBlock] at hk
  subst hk
  rcases Nat.lt_or_ge g w.heap.size with hlt | hge
  ·exact hlt
  ·rw [Array.getElem?_eq_none hge] at hg; cases hg
theorem Own.step {K : Kd α} {w w' : World} {B : Nat} {v : Value} {xs : List α} (h : Own K w B v xs) (k : Below w.heap.size w w') : Own K w' B v xs := h.blk fun g hg => k.block g (h.lt g hg)
theorem Own.alloc {K : Kd α} {w : World} {B : Nat} {v : Value} {xs : List α} (h : Own K w B v xs) (o : Obj) : Own K (w.alloc o) B v xs := h.step ((Below.refl _ _).alloc (Nat.le_refl _) o)
theorem Own.form {K : Kd α} {w : World} {B : Nat} {v : Value} {xs : List α} (h : Own K w B v xs) : ∃ a c, v = .slice a xs.length c ∧ xs.length ≤ c ∧ c ≤ 9223372036854775807 := by
 rcases h.own.2 with ⟨rfl, h0⟩ | ⟨g, cap, cur, rfl, hb, hg, hcap, hcm, _⟩
 ·exact ⟨none, 0, by rw [h0], by omega, by omega⟩
 ·exact ⟨_, cap, rfl, hcap, by unfold maxLen at hcm; omega⟩
theorem Own.sl {K : Kd α} {w : World} {B : Nat} {v : Value} {xs : List α} (h : Own K w B v xs) : Sl K w v xs := by
 have ho := h.own
 have hlt := h.lt
 refine ⟨?_⟩
 rcases h.own.2 with ⟨rfl, h0⟩ | ⟨g, cap, cur, rfl, hb, hg, hcap, hcm, hcs, htk⟩
 ·exact ⟨none, 0, by rw [h0], by omega, by omega, fun h => by omega⟩
 ·refine ⟨some ⟨g, 0, none⟩, cap, rfl, hcap, by unfold maxLen at hcm; omega, fun h0 => ⟨g, 0, rfl, hlt g rfl, fun i x hi j u hj => ?_⟩⟩
  have hjk : j < K.k := by rw [← K.len x]; exact (List.getElem?_eq_some_iff.1 hj).1
  have e := K.cells_get xs i x hi j hjk
  have hp : i * K.k + j < (K.cells xs).length := (List.getElem?_eq_some_iff.1 (e.trans hj)).1
  rw [K.cells_len] at hp
  rw [Nat.zero_add, ho.cellAt (i * K.k + j) hp, e, hj]
theorem yi {K : Kd α} {w : World} {y : Nat → Option Bool} {o : Oper} {a : Act} {Q : Exit → Act → World → Prop} {KK : Act → World → Prop} {k0 : Prop} (hgd : Region.wanted o y = true) (s x : Operand)
  (ho : o.op = .call { callee := .builtin .append, args := #[s, x], argTypes := #[K.S, K.S] })
  (B : Nat) (xs ys : List α) (v : Value) (ad : Addr) (c : Nat) (hs : a.eval s = v) (hx : a.eval x = .slice (some ad) ys.length c)
  (hown : Own K w B v xs) (hcell : ∀ j u, (K.cells ys)[j]? = some u → w.cell? (ad.add j) = some u) (hB : B ≤ w.heap.size) (hl : (xs.length + ys.length) * K.bt ≤ 140737488355328) (hl2 : xs.length + ys.length ≤ 140737488355328)
  (h : ∀ v' w', Own K w' B v' (xs ++ ys) → Below B w w' → w.grownBy w' v.ownBlock → KK (a.put o.dst v') w') :
  if Region.wanted o y then o.wp prog a w KK Q else k0 := by
 obtain ⟨i0, z, hi, hz0, hz1, hz2, hz3⟩ := K.info
 rw [if_pos hgd]
 refine wp_append_own _ s x K.S ho B K.T i0 z K.k K.bt K.und hi hz0 hz1 hz2 hz3 K.pos v xs.length (K.cells xs) hs hown.own ad ys.length c (K.cells ys) hx (K.cells_len ys) hcell (fun u hu => K.cells_mem hu) (by unfold maxLen; omega) hl hB (fun v' w' g1 g2 _ => h v' w' ⟨?_⟩ ((Below.refl _ _).grown g2 hB hown.block) g2)
 rw [List.length_append, K.cells_app]
 exact g1
theorem uX {K : Kd α} {w : World} {ops : Array Oper} {rest : List Oper} {o : Oper} {a : Act} {Q : Exit → Act → World → Prop} (hgd : o.guard = none) (s x : Operand)
  (ho : o.op = .call { callee := .builtin .append, args := #[s, x], argTypes := #[K.S, K.S] })
  (B : Nat) (xs ys : List α) (v : Value) (ad : Addr) (c : Nat) (hs : a.eval s = v) (hx : a.eval x = .slice (some ad) ys.length c)
  (hown : Own K w B v xs) (hcell : ∀ j u, (K.cells ys)[j]? = some u → w.cell? (ad.add j) = some u) (hB : B ≤ w.heap.size) (hl : (xs.length + ys.length) * K.bt ≤ 140737488355328) (hl2 : xs.length + ys.length ≤ 140737488355328)
  (h : ∀ v' w', Own K w' B v' (xs ++ ys) → Below B w w' → w.grownBy w' v.ownBlock → wpList prog ops Q rest (a.put o.dst v') w') :
  wpList prog ops Q (o :: rest) a w :=
 wpList_step fun KK hK => yi (by simp [Region.wanted, hgd]) s x ho B xs ys v ad c hs hx hown hcell hB hl hl2 (fun v' w' p q r => hK _ _ (h v' w' p q r))
theorem pj {K : Kd α} {w : World} {ops : Array Oper} {rest : List Oper} {o : Oper} {a : Act} {Q : Exit → Act → World → Prop} {T : TypeId} (hgd : o.guard = none) (s x : Operand)
  (ho : o.op = .call { callee := .builtin .append, args := #[s, x], argTypes := #[K.S, K.S] })
  (B : Nat) (xs : List α) (v : Value) (d : α) (hs : a.eval s = v) (hx : a.eval x = .slice (some ⟨w.heap.size, 0, none⟩) 1 1)
  (hown : Own K w B v xs) (hB : B ≤ w.heap.size) (hl : (xs.length + 1) * K.bt ≤ 140737488355328) (hl2 : xs.length + 1 ≤ 140737488355328)
  (cs : Array Value) (hcs : cs = (K.enc d).toArray)
  (h : ∀ v' w', Own K w' B v' (xs ++ [d]) → Below B w w' → wpList prog ops Q rest (a.put o.dst v') w') :
  wpList prog ops Q (o :: rest) a (w.alloc (.cells cs T)) := by
 subst hcs
 refine uX hgd s x ho B xs [d] v ⟨w.heap.size, 0, none⟩ 1 hs hx (hown.alloc _) ?_ (by simp; omega) (by simpa using hl) (by simpa using hl2) (fun v' w' p q r => h v' w' p ?_)
 ·intro j u hj
  have : (K.enc d)[j]? = some u := by simpa [Kd.cells] using hj
  rw [Go.WideShapes.add_plain, Nat.zero_add]
  exact (aa w (K.enc d) T).cell j this
 ·exact ((Below.refl _ _).alloc hB _).trans q
theorem yj {K : Kd α} {w : World} {ops : Array Oper} {rest : List Oper} {o : Oper} {a : Act} {Q : Exit → Act → World → Prop} (hgd : o.guard = none) (s x : Operand)
  (ho : o.op = .call { callee := .builtin .append, args := #[s, x], argTypes := #[K.S, K.S] })
  (B : Nat) (xs ys : List α) (v u : Value) (hs : a.eval s = v) (hx : a.eval x = u)
  (hown : Own K w B v xs) (hu : Sl K w u ys) (hno : ∀ n c, u = .slice none n c → c = 0) (hB : B ≤ w.heap.size) (hl : (xs.length + ys.length) * K.bt ≤ 140737488355328) (hl2 : xs.length + ys.length ≤ 140737488355328)
  (h : ∀ v' w', Own K w' B v' (xs ++ ys) → Below B w w' → w.grownBy w' v.ownBlock → wpList prog ops Q rest (a.put o.dst v') w') :
  wpList prog ops Q (o :: rest) a w := by
 obtain ⟨ad, c, rfl, h1, h2, h4⟩ := hu
 by_cases h0 : ys = []
 ·subst h0
  cases ad with
  | none =>
   obtain rfl : c = 0 := hno _ _ rfl
   obtain ⟨i0, z, hi, hz0, hz1, hz2, hz3⟩ := K.info
   refine wpList_append_own_none hgd s x K.S ho B K.T i0 K.k K.und hi v xs.length (K.cells xs) hs hown.own hx ?_
   exact h v w (by simpa using hown) (Below.refl _ _) (World.grownBy.refl _ _)
  | some ad =>
   exact uX hgd s x ho B xs [] v ad c hs hx hown (fun j u hj => by simp [Kd.cells] at hj) hB hl hl2 h
 ·have hp : 0 < ys.length := List.length_pos_iff.2 h0
  obtain ⟨b, off, rfl, hb, hcell⟩ := h4 hp
  refine uX hgd s x ho B xs ys v ⟨b, off, none⟩ c hs hx hown (fun p u hp => ?_) hB hl hl2 h
  obtain ⟨i, j, y, rfl, hj, hy, hu⟩ := K.cells_inv ys p u hp
  rw [Go.WideShapes.add_plain, ← Nat.add_assoc]
  exact hcell i y hy j u hu
end Go.Proofs.YtjkiplndbcmmbaaGreatDoor
namespace Go.Proofs.YtjkiplndbcmmbaaGreatDoor
open Go.RowKit
theorem um (x m : Int) (h0 : 0 < m) (h1 : m ≤ 9000000000000000000) : 0 ≤ wrap64 ((IntKind.u64.wrap x).tmod m) ∧ wrap64 ((IntKind.u64.wrap x).tmod m) < m := by
 have hw : 0 ≤ IntKind.u64.wrap x := by
  show 0 ≤ x % 2 ^ 64
  exact Int.emod_nonneg _ (by decide)
 rw [Int.tmod_eq_emod_of_nonneg hw]
 have a := Int.emod_nonneg (IntKind.u64.wrap x) (show m ≠ 0 by omega)
 have b := Int.emod_lt_of_pos (IntKind.u64.wrap x) h0
 generalize IntKind.u64.wrap x % m = z at *
 have : wrap64 z = z := by unfold wrap64; omega
 omega
end Go.Proofs.YtjkiplndbcmmbaaGreatDoor