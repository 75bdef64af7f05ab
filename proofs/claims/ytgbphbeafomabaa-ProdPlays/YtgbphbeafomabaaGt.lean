/- Blocks known whole; slices of tiers; rows of tiers that a call makes itself. -/
import Derived.Test.YtgbphbeafomabaaGa
import Derived.Laws.AppendOwn
import Derived.Laws.AppendOwnNone
import Derived.OwnWalk
import Derived.LoopTactic
import Derived.Below
import Derived.Handy
import Derived.Laws.Rows
import Derived.Laws.Tables
import Derived.BigQuiet
import Derived.Deep.MidRow
import Derived.Deep.RegionHeld3
import Derived.Deep.DeepCutAuto
import Derived.Deep.RegionLaw
namespace Go.Proofs.Ytgbphbeafomabaa
open Go.RowKit
set_option linter.unusedVariables false

theorem bel_drewN {B : Nat} {a w : World} (h : Below B a w) (n : Nat) : Below B a (w.drewN n) := ⟨h.os, h.tape, h.output, h.size, h.block⟩
/-- a block known whole -/
structure VA (w : World) (p : Nat) (cs : List Value) (T : TypeId) : Prop where
  blk : w.heap[p]? = some (.cells cs.toArray T (0, 0))
theorem VA.lt {w : World} {p : Nat} {cs : List Value} {T : TypeId} (h : VA w p cs T) : p < w.heap.size := by
  rcases Nat.lt_or_ge p w.heap.size with hlt | hge
  · exact hlt
  · have := h.blk; rw [Array.getElem?_eq_none hge] at this; cases this
theorem VA.cell {w : World} {p : Nat} {cs : List Value} {T : TypeId} (h : VA w p cs T) (k : Nat) {v : Value} (hv : cs[k]? = some v) : w.cell? ⟨p, k, none⟩ = some v := by
  rw [cell_of_row w p k _ _ _ h.blk]; simpa using hv
theorem VA.free {w : World} {p : Nat} {cs : List Value} {T : TypeId} (h : VA w p cs T) (k : Nat) : w.frozen? ⟨p, k, none⟩ = false := frozen_of_row w p k _ _ h.blk
theorem VA.step {w w' : World} {p : Nat} {cs : List Value} {T : TypeId} (h : VA w p cs T) (k : Below w.heap.size w w') : VA w' p cs T := ⟨by rw [k.block p h.lt]; exact h.blk⟩
theorem VA.alloc {w : World} {p : Nat} {cs : List Value} {T : TypeId} (h : VA w p cs T) (o : Obj) : VA (w.alloc o) p cs T := h.step ((Below.refl _ _).alloc (Nat.le_refl _) o)
theorem VA.drew {w : World} {p : Nat} {cs : List Value} {T : TypeId} (h : VA w p cs T) : VA w.drew p cs T := ⟨h.blk⟩
theorem VA.drewN {w : World} {p : Nat} {cs : List Value} {T : TypeId} (h : VA w p cs T) (n : Nat) : VA (w.drewN n) p cs T := ⟨h.blk⟩
theorem va_new (w : World) (cs : List Value) (T : TypeId) : VA (w.alloc (.cells cs.toArray T)) w.heap.size cs T := ⟨Go.heap_alloc_new w _⟩
theorem VA.set {w : World} {p : Nat} {cs : List Value} {T : TypeId} (h : VA w p cs T) (k : Nat) (u : Value) : VA (w.setCell ⟨p, k, none⟩ u) p (cs.set k u) T := ⟨by rw [Go.heap_setCell_same w p k _ _ u h.blk]; simp⟩
theorem VA.set_other {w : World} {p q : Nat} {cs : List Value} {T : TypeId} (h : VA w p cs T) (hq : p ≠ q) (k : Nat) (u : Value) : VA (w.setCell ⟨q, k, none⟩ u) p cs T := ⟨by rw [Go.heap_setCell_other w _ p u hq]; exact h.blk⟩
/-- only the block p is another -/
structure Upd (p : Nat) (w w' : World) : Prop where
  os : w'.os = w.os
  tape : w'.tape = w.tape
  output : w'.output = w.output
  size : w'.heap.size = w.heap.size
  block : ∀ k, k ≠ p → w'.heap[k]? = w.heap[k]?
theorem VA.upd {w w' : World} {p q : Nat} {cs : List Value} {T : TypeId} (h : VA w q cs T) (k : Upd p w w') (hq : q ≠ p) : VA w' q cs T := ⟨by rw [k.block q hq]; exact h.blk⟩
theorem Upd.bel {p B : Nat} {w0 w w' : World} (k : Upd p w w') (h : Below B w0 w) (hp : B ≤ p) : Below B w0 w' :=
  ⟨k.os.trans h.os, k.tape.trans h.tape, k.output.trans h.output, by rw [k.size]; exact h.size, fun b hb => (k.block b (by omega)).trans (h.block b hb)⟩
theorem upd_setRow (w : World) (p : Nat) (cs : Array Value) : Upd p w (w.setRow p cs) :=
  ⟨rfl, rfl, rfl, by simp, fun k hk => by simp only [World.setRow, Array.getElem?_modify]; rw [if_neg (fun e => hk e.symm)]⟩
/-- all of an array or a struct is loaded -/
theorem ldA {w : World} {ops : Array Oper} {rest : List Oper} {o : Oper} {a : Act} {Q : Exit → Act → World → Prop} (hgd : o.guard = none) (t : TypeId) (x : Operand) (ho : o.op = .load t x)
    (p : Nat) (hx : a.eval x = .pointer (some ⟨p, 0, none⟩)) (cs : List Value) (T : TypeId) (h : VA w p cs T) (d : TypeDesc) (hu : Try.prog.underlying t = some d) (hd : d.isRow = true) (hi : (Try.prog.info? t).map (·.size) = some cs.length)
    (k : wpList Try.prog ops Q rest (a.put o.dst (.agg cs.toArray)) w) : wpList Try.prog ops Q (o :: rest) a w :=
  wpList_load_mid hgd t x ho p 0 hx cs d (fun j v hv => by rw [Nat.zero_add]; exact h.cell j hv) hu hd hi k
/-- all of an array is stored -/
theorem stA {w : World} {ops : Array Oper} {rest : List Oper} {o : Oper} {a : Act} {Q : Exit → Act → World → Prop} (hgd : o.guard = none) (t : TypeId) (x y : Operand) (ho : o.op = .store t x y)
    (p : Nat) (hx : a.eval x = .pointer (some ⟨p, 0, none⟩)) (cs ds : List Value) (hy : a.eval y = .agg ds.toArray) (T : TypeId) (h : VA w p cs T) (hi : (Try.prog.info? t).map (·.size) = some ds.length) (hl : cs.length = ds.length) (h1 : ∀ v ∈ ds, v.oneCell' = true)
    (k : ∀ w', VA w' p ds T → Upd p w w' → wpList Try.prog ops Q rest (a.put o.dst undef) w') : wpList Try.prog ops Q (o :: rest) a w := by
  refine wpList_plain hgd fun K hK' => ?_
  have hrun := run_storeVar_row (P := Try.prog) w p T t cs.toArray ds.toArray h.blk (by simpa using hi) (by simpa using hl) (Array.all_eq_true_iff_forall_mem.2 (fun v hv => h1 v (by simpa using hv)))
  unfold Oper.wp execOp
  simp only [ho, hx, hy, Instr.storeAt, Instr.sureAddr, Sem.run_bind, Sem.run_pure, Result.andThen_ok, hrun]
  exact hK' _ _ (k _ ⟨setRow_heap w p _ _ _ _ h.blk⟩ (upd_setRow w p _))
theorem upd_set (w : World) (p k : Nat) (u : Value) : Upd p w (w.setCell ⟨p, k, none⟩ u) := ⟨rfl, rfl, rfl, by simp, fun j hj => Go.heap_setCell_other _ _ j _ hj⟩
theorem Upd.trans {p : Nat} {w w' w'' : World} (h : Upd p w w') (k : Upd p w' w'') : Upd p w w'' := ⟨k.os.trans h.os, k.tape.trans h.tape, k.output.trans h.output, k.size.trans h.size, fun j hj => (k.block j hj).trans (h.block j hj)⟩
def I64 (n : Int) : Prop := -9223372036854775808 ≤ n ∧ n ≤ 9223372036854775807
/-- tiers: two numbers each -/
structure Tr (w : World) (v : Value) (ts : List (Int × Int)) : Prop where
  wf : ∀ t ∈ ts, (-9223372036854775808 ≤ t.1 ∧ t.1 ≤ 9223372036854775807) ∧ -9223372036854775808 ≤ t.2 ∧ t.2 ≤ 9223372036854775807
  form : ∃ a c, v = .slice a ts.length c ∧ ts.length ≤ c ∧ c ≤ 9223372036854775807 ∧ (0 < ts.length → ∃ b off, a = some ⟨b, off, none⟩ ∧ b < w.heap.size ∧ ∀ k, k < ts.length → w.cell? ⟨b, off + 2 * k, none⟩ = some (.int .i64 (ts.getD k (0, 0)).1) ∧ w.cell? ⟨b, off + 2 * k + 1, none⟩ = some (.int .i64 (ts.getD k (0, 0)).2))
theorem Tr.step {w w' : World} {v : Value} {ts : List (Int × Int)} (h : Tr w v ts) (k : Below w.heap.size w w') : Tr w' v ts := by
  obtain ⟨hw, a, c, e, h1, h2, h3⟩ := h
  refine ⟨hw, a, c, e, h1, h2, fun h0 => ?_⟩
  obtain ⟨b, off, ea, hb, hx⟩ := h3 h0
  exact ⟨b, off, ea, Nat.lt_of_lt_of_le hb k.size, fun j hj => ⟨(k.cell (p := ⟨b, off + 2 * j, none⟩) hb).trans (hx j hj).1, (k.cell (p := ⟨b, off + 2 * j + 1, none⟩) hb).trans (hx j hj).2⟩⟩
theorem Tr.at {w : World} {a : Option Addr} {n c : Nat} {ts : List (Int × Int)} (h : Tr w (.slice a n c) ts) (k : Nat) (hk : k < n) : ∃ b off, a = some ⟨b, off, none⟩ ∧ b < w.heap.size ∧ w.cell? ⟨b, off + 2 * k, none⟩ = some (.int .i64 (ts.getD k (0, 0)).1) ∧ w.cell? ⟨b, off + 2 * k + 1, none⟩ = some (.int .i64 (ts.getD k (0, 0)).2) := by
  obtain ⟨_, a', c', e, h1, h2, h3⟩ := h
  cases e
  obtain ⟨b, off, ea, hb, hx⟩ := h3 (by omega)
  exact ⟨b, off, ea, hb, hx k hk⟩
/-- tiers as cells -/
def tcs (ts : List (Int × Int)) : List Value := ts.flatMap (fun t => [Value.int .i64 t.1, Value.int .i64 t.2])
theorem tcs_len (ts : List (Int × Int)) : (tcs ts).length = 2 * ts.length := by
  induction ts with
  | nil => rfl
  | cons a t ih => simp [tcs] at *; omega
theorem info44 : (Try.prog.info? 36).map (fun i => (i.zero, i.size, i.bytes)) = some (some (.agg #[.int .i64 0, .int .i64 0]), 2, 16) := by kernel_rfl
theorem info44_parts : ∃ i, Try.prog.info? 36 = some i ∧ i.zero = some (.agg #[.int .i64 0, .int .i64 0]) ∧ i.size = 2 ∧ i.bytes = 16 := by
  obtain ⟨i, hi, hz⟩ := Option.map_eq_some_iff.1 info44
  simp only [Prod.mk.injEq] at hz
  exact ⟨i, hi, hz.1, hz.2.1, hz.2.2⟩
theorem tcs_get (ts : List (Int × Int)) : ∀ (j : Nat), j < ts.length → (tcs ts)[2 * j]? = some (.int .i64 (ts.getD j (0, 0)).1) ∧ (tcs ts)[2 * j + 1]? = some (.int .i64 (ts.getD j (0, 0)).2) := by
  induction ts with
  | nil => intro j h; simp at h
  | cons a ts ih =>
    intro j h
    cases j with
    | zero => exact ⟨rfl, rfl⟩
    | succ j =>
      have := ih j (by simpa using h)
      show (Value.int .i64 a.1 :: Value.int .i64 a.2 :: tcs ts)[2 * (j + 1)]? = _ ∧ (Value.int .i64 a.1 :: Value.int .i64 a.2 :: tcs ts)[2 * (j + 1) + 1]? = _
      rw [show 2 * (j + 1) = 2 * j + 1 + 1 by omega]
      simpa using this
/-- the row v of the call's own holds the tiers ts -/
structure OwnT (w : World) (B : Nat) (v : Value) (ts : List (Int × Int)) : Prop where
  wf : ∀ t ∈ ts, I64 t.1 ∧ I64 t.2
  own : w.ownsRow B 36 2 v ts.length (tcs ts)
theorem ownT_nil (w : World) (B : Nat) : OwnT w B (.slice none 0 0) [] := ⟨fun t h => (by cases h), World.ownsRow_nil _ _ _ _⟩
theorem OwnT.block {w : World} {B : Nat} {v : Value} {cs : List (Int × Int)} (h : OwnT w B v cs) : ∀ k, v.ownBlock = some k → B ≤ k := by
  obtain ⟨hl, h2⟩ := h.own
  rcases h2 with ⟨rfl, h0⟩ | ⟨g, cap, cur, rfl, hb, _⟩
  · intro k hk; simp [Value.ownBlock] at hk
  · intro k hk; simp [Value.ownBlock] at hk; omega
theorem OwnT.lower {w : World} {B B' : Nat} {v : Value} {cs : List (Int × Int)} (h : OwnT w B v cs) (hB : B' ≤ B) : OwnT w B' v cs := by
  refine ⟨h.wf, h.own.1, ?_⟩
  rcases h.own.2 with h2 | ⟨g, cap, cur, e, hb, r⟩
  · exact Or.inl h2
  · exact Or.inr ⟨g, cap, cur, e, by omega, r⟩
theorem OwnT.step {w w' : World} {B : Nat} {v : Value} {cs : List (Int × Int)} (h : OwnT w B v cs) (k : Below w.heap.size w w') : OwnT w' B v cs := by
  refine ⟨h.wf, h.own.1, ?_⟩
  rcases h.own.2 with h2 | ⟨g, cap, cur, e, hb, hg, r⟩
  · exact Or.inl h2
  · have hlt : g < w.heap.size := by
      rcases Nat.lt_or_ge g w.heap.size with hlt | hge
      · exact hlt
      · rw [Array.getElem?_eq_none hge] at hg; cases hg
    exact Or.inr ⟨g, cap, cur, e, hb, (k.block g hlt).trans hg, r⟩
theorem tcs_app (a b : List (Int × Int)) : tcs (a ++ b) = tcs a ++ tcs b := by simp [tcs]
theorem tcs_mem {ts : List (Int × Int)} {u : Value} (h : u ∈ tcs ts) : u.oneCell' = true := by
  unfold tcs at h
  obtain ⟨t, _, ht⟩ := List.mem_flatMap.1 h
  simp at ht
  rcases ht with rfl | rfl <;> rfl
theorem OwnT.tr {w : World} {B : Nat} {v : Value} {ts : List (Int × Int)} (h : OwnT w B v ts) : Tr w v ts := by
  refine ⟨h.wf, ?_⟩
  have ho := h.own
  rcases h.own.2 with ⟨rfl, h0⟩ | ⟨g, cap, cur, rfl, hb, hg, hcap, hcm, hcs, htk⟩
  · exact ⟨none, 0, by rw [h0], by omega, by omega, fun h => by omega⟩
  · refine ⟨some ⟨g, 0, none⟩, cap, rfl, hcap, by unfold maxLen at hcm; omega, fun h0 => ⟨g, 0, rfl, ?_, fun k hk => ?_⟩⟩
    · rcases Nat.lt_or_ge g w.heap.size with hlt | hge
      · exact hlt
      · rw [Array.getElem?_eq_none hge] at hg; cases hg
    · have hlt1 : 2 * k + 1 < (tcs ts).length := by rw [tcs_len]; omega
      have e1 := ho.cellAt (2 * k) (by omega)
      have e2 := ho.cellAt (2 * k + 1) (by omega)
      rw [Nat.zero_add]
      exact ⟨by rw [e1, (tcs_get ts k hk).1], by rw [e2, (tcs_get ts k hk).2]⟩
/-- append(l, t...) as a region that draws its order meets it -/
theorem appTk {w : World} {y : Nat → Option Bool} {o : Oper} {a : Act} {Q : Exit → Act → World → Prop} {K : Act → World → Prop} {k0 : Prop} (hgd : Region.wanted o y = true) (s x : Operand)
    (ho : o.op = .call { callee := .builtin .append, args := #[s, x], argTypes := #[22, 22] })
    (B : Nat) (cs bs : List (Int × Int)) (v : Value) (b off c : Nat) (hs : a.eval s = v) (hx : a.eval x = .slice (some ⟨b, off, none⟩) bs.length c)
    (hown : OwnT w B v cs) (hwf : ∀ t ∈ bs, I64 t.1 ∧ I64 t.2) (hcell : ∀ k, k < bs.length → w.cell? ⟨b, off + 2 * k, none⟩ = some (.int .i64 (bs.getD k (0, 0)).1) ∧ w.cell? ⟨b, off + 2 * k + 1, none⟩ = some (.int .i64 (bs.getD k (0, 0)).2)) (hB : B ≤ w.heap.size) (hl : cs.length + bs.length ≤ 8796093022208)
    (h : ∀ v' w', OwnT w' B v' (cs ++ bs) → Below B w w' → w.grownBy w' v.ownBlock → K (a.put o.dst v') w') :
    if Region.wanted o y then o.wp Try.prog a w K Q else k0 := by
  obtain ⟨i0, hi, hz0, hz1, hz2⟩ := info44_parts
  rw [if_pos hgd]
  refine wp_append_own _ s x 22 ho B 36 i0 (.agg #[.int .i64 0, .int .i64 0]) 2 16 Try.underlying22 hi hz0 hz1 hz2 rfl (by decide) v cs.length (tcs cs) hs hown.own ⟨b, off, none⟩ bs.length c (tcs bs) hx (by rw [tcs_len]; omega) ?_ (fun u hu => tcs_mem hu) (by unfold maxLen; omega) (by omega) hB (fun v' w' g1 g2 _ => h v' w' ⟨fun t ht => ?_, ?_⟩ ((Below.refl _ _).grown g2 hB hown.block) g2)
  · intro j u hj
    have hj' : j < (tcs bs).length := (List.getElem?_eq_some_iff.1 hj).1
    rw [tcs_len] at hj'
    rw [Go.WideShapes.add_plain]
    have e : j = 2 * (j / 2) ∨ j = 2 * (j / 2) + 1 := by omega
    have hk := hcell (j / 2) (by omega)
    have hg := tcs_get bs (j / 2) (by omega)
    rcases e with e | e
    · rw [e] at hj ⊢
      rw [hk.1, ← hg.1, hj]
    · rw [e] at hj ⊢
      rw [← Nat.add_assoc, hk.2, ← hg.2, hj]
  · rcases List.mem_append.1 ht with ht | ht
    · exact hown.wf t ht
    · exact hwf t ht
  · rw [List.length_append, tcs_app]
    exact g1
theorem appTg {w : World} {ops : Array Oper} {rest : List Oper} {o : Oper} {a : Act} {Q : Exit → Act → World → Prop} (hgd : o.guard = none) (s x : Operand)
    (ho : o.op = .call { callee := .builtin .append, args := #[s, x], argTypes := #[22, 22] })
    (B : Nat) (cs bs : List (Int × Int)) (v : Value) (b off c : Nat) (hs : a.eval s = v) (hx : a.eval x = .slice (some ⟨b, off, none⟩) bs.length c)
    (hown : OwnT w B v cs) (hwf : ∀ t ∈ bs, I64 t.1 ∧ I64 t.2) (hcell : ∀ k, k < bs.length → w.cell? ⟨b, off + 2 * k, none⟩ = some (.int .i64 (bs.getD k (0, 0)).1) ∧ w.cell? ⟨b, off + 2 * k + 1, none⟩ = some (.int .i64 (bs.getD k (0, 0)).2)) (hB : B ≤ w.heap.size) (hl : cs.length + bs.length ≤ 8796093022208)
    (h : ∀ v' w', OwnT w' B v' (cs ++ bs) → Below B w w' → w.grownBy w' v.ownBlock → wpList Try.prog ops Q rest (a.put o.dst v') w') :
    wpList Try.prog ops Q (o :: rest) a w :=
  wpList_step fun K hK => appTk (by simp [Region.wanted, hgd]) s x ho B cs bs v b off c hs hx hown hwf hcell hB hl (fun v' w' p q r => hK _ _ (h v' w' p q r))
/-- a block of another type stays when tiers are appended -/
theorem VA.grownT {w w' : World} {p B : Nat} {cs : List Value} {T : TypeId} {v : Value} {bs : List (Int × Int)} (h : VA w p cs T) (g : w.grownBy w' v.ownBlock) (o : OwnT w B v bs) (hT : T ≠ 36) : VA w' p cs T := by
  refine ⟨(g.block p h.lt (fun e => ?_)).trans h.blk⟩
  rcases o.own.2 with ⟨rfl, _⟩ | ⟨q, cap, cur, rfl, _, hq, _⟩
  · cases e
  · cases e
    have := h.blk.symm.trans hq
    simp at this
    exact hT this.2

/-! what is read is what there is -/
/-- append(l, t...) of any tiers -/
theorem appTr {w : World} {ops : Array Oper} {rest : List Oper} {o : Oper} {a : Act} {Q : Exit → Act → World → Prop} (hgd : o.guard = none) (s x : Operand)
    (ho : o.op = .call { callee := .builtin .append, args := #[s, x], argTypes := #[22, 22] })
    (B : Nat) (cs bs : List (Int × Int)) (v u : Value) (hs : a.eval s = v) (hx : a.eval x = u)
    (hown : OwnT w B v cs) (hu : Tr w u bs) (hno : ∀ n c, u = .slice none n c → c = 0) (hB : B ≤ w.heap.size) (hl : cs.length + bs.length ≤ 8796093022208)
    (h : ∀ v' w', OwnT w' B v' (cs ++ bs) → Below B w w' → w.grownBy w' v.ownBlock → wpList Try.prog ops Q rest (a.put o.dst v') w') :
    wpList Try.prog ops Q (o :: rest) a w := by
  obtain ⟨i0, hi, hz0, hz1, hz2⟩ := info44_parts
  obtain ⟨hwf, ad, c, rfl, h1, h2, h4⟩ := hu
  by_cases h0 : bs = []
  · subst h0
    cases ad with
    | none =>
      obtain rfl : c = 0 := hno _ _ rfl
      refine wpList_append_own_none hgd s x 22 ho B 36 i0 2 Try.underlying22 hi v cs.length (tcs cs) hs hown.own hx ?_
      exact h v w (by simpa using hown) (Below.refl _ _) (World.grownBy.refl _ _)
    | some ad =>
      refine wpList_append_own _ hgd s x 22 ho B 36 i0 (.agg #[.int .i64 0, .int .i64 0]) 2 16 Try.underlying22 hi hz0 hz1 hz2 rfl (by decide) v cs.length (tcs cs) hs hown.own ad 0 c [] hx rfl (fun j u hj => by simp at hj) (fun u hu => by simp at hu) (by unfold maxLen; omega) (by simp at hl; omega) hB (fun v' w' g1 g2 _ => h v' w' ⟨by simpa using hown.wf, by simpa using g1⟩ ((Below.refl _ _).grown g2 hB hown.block) g2)
  · have hp : 0 < bs.length := List.length_pos_iff.2 h0
    obtain ⟨b, off, rfl, hb, hcell⟩ := h4 hp
    exact appTg hgd s x ho B cs bs v b off c hs hx hown hwf hcell hB hl h
theorem ownT_made (w : World) : OwnT (w.alloc (.cells #[] 36)) w.heap.size (.slice (some ⟨w.heap.size, 0, none⟩) 0 0) [] :=
  ⟨fun t h => (by cases h), World.ownsRow_made w #[] 0 (Nat.le_refl _) (by unfold maxLen; omega) rfl⟩
theorem Tr.front {w : World} {a : Option Addr} {n c : Nat} {ts ms : List (Int × Int)} (h : Tr w (.slice a n c) (ts ++ ms)) : Tr w (.slice a ts.length c) ts := by
  obtain ⟨hw, a', c', e, h1, h2, h3⟩ := h
  cases e
  rw [List.length_append] at h1 h3
  refine ⟨fun t ht => hw t (List.mem_append_left _ ht), a, c, rfl, by omega, h2, fun h0 => ?_⟩
  obtain ⟨b, off, ea, hb, hx⟩ := h3 (by omega)
  refine ⟨b, off, ea, hb, fun k hk => ?_⟩
  have := hx k (by omega)
  have e : (ts ++ ms).getD k (0, 0) = ts.getD k (0, 0) := by simp [List.getD, List.getElem?_append_left hk]
  rwa [e] at this
end Go.Proofs.Ytgbphbeafomabaa
