/- Rows of int64, and blocks known whole, for any seat: make, append, load, store. -/
import Derived.Test.YtmaikgebdegkgaaProg
import Derived.WalkKit
import Derived.WalkSpells
import Derived.WalkLawsBesides
import Derived.Laws.AppendOwn
import Derived.Laws.AppendOwnNone
import Derived.Laws.CopyOwn
import Derived.OwnWalk
import Derived.LoopTactic
import Derived.Below
import Derived.Handy
import Derived.Laws.Rows
import Derived.Laws.Tables
import Derived.BigQuiet
import Derived.Deep.MidRow
import Derived.Deep.QuietTactic
import Derived.Deep.RegionHeld3
import Derived.Deep.DeepCutAuto
import Derived.Deep.RegionLaw
import Derived.OpenShut
import Derived.WideShapes
namespace Go.Proofs.Ytmaikgebdegkgaa
open Go.RowKit
set_option linter.unusedVariables false

/-- a block known whole -/
structure VA (w : World) (p : Nat) (cs : List Value) (T : TypeId) : Prop where
  blk : w.heap[p]? = some (.cells cs.toArray T (0, 0))
theorem VA.lt {w : World} {p : Nat} {cs : List Value} {T : TypeId} (h : VA w p cs T) : p < w.heap.size := by
  rcases Nat.lt_or_ge p w.heap.size with hlt | hge
  · exact hlt
  · have := h.blk; rw [Array.getElem?_eq_none hge] at this; cases this
theorem VA.cell {w : World} {p : Nat} {cs : List Value} {T : TypeId} (h : VA w p cs T) (k : Nat) {v : Value} (hv : cs[k]? = some v) : w.cell? ⟨p, k, none⟩ = some v := by
  rw [cell_of_row w p k _ _ _ h.blk]; simpa using hv
theorem VA.free {w : World} {p : Nat} {cs : List Value} {T : TypeId} (h : VA w p cs T) (k : Nat) : w.frozen? ⟨p, k, none⟩ = false := frozen_of_row w p k _ _ h.blk
theorem VA.step {w w' : World} {p : Nat} {cs : List Value} {T : TypeId} (h : VA w p cs T) (k : Below w.heap.size w w') : VA w' p cs T := ⟨by rw [k.block p h.lt]; exact h.blk⟩
theorem VA.alloc {w : World} {p : Nat} {cs : List Value} {T : TypeId} (h : VA w p cs T) (o : Obj) : VA (w.alloc o) p cs T := h.step ((Below.refl _ _).alloc (Nat.le_refl _) o)
theorem VA.drew {w : World} {p : Nat} {cs : List Value} {T : TypeId} (h : VA w p cs T) : VA w.drew p cs T := ⟨h.blk⟩
theorem VA.drewN {w : World} {p : Nat} {cs : List Value} {T : TypeId} (h : VA w p cs T) (n : Nat) : VA (w.drewN n) p cs T := ⟨h.blk⟩
theorem va_new (w : World) (cs : List Value) (T : TypeId) : VA (w.alloc (.cells cs.toArray T)) w.heap.size cs T := ⟨Go.heap_alloc_new w _⟩
theorem VA.set {w : World} {p : Nat} {cs : List Value} {T : TypeId} (h : VA w p cs T) (k : Nat) (u : Value) : VA (w.setCell ⟨p, k, none⟩ u) p (cs.set k u) T := ⟨by rw [Go.heap_setCell_same w p k _ _ u h.blk]; simp⟩
theorem VA.set_other {w : World} {p q : Nat} {cs : List Value} {T : TypeId} (h : VA w p cs T) (hq : p ≠ q) (k : Nat) (u : Value) : VA (w.setCell ⟨q, k, none⟩ u) p cs T := ⟨by rw [Go.heap_setCell_other w _ p u hq]; exact h.blk⟩
/-- only the block p is another -/
structure Upd (p : Nat) (w w' : World) : Prop where
  os : w'.os = w.os
  tape : w'.tape = w.tape
  output : w'.output = w.output
  size : w'.heap.size = w.heap.size
  block : ∀ k, k ≠ p → w'.heap[k]? = w.heap[k]?
theorem VA.upd {w w' : World} {p q : Nat} {cs : List Value} {T : TypeId} (h : VA w q cs T) (k : Upd p w w') (hq : q ≠ p) : VA w' q cs T := ⟨by rw [k.block q hq]; exact h.blk⟩
theorem Upd.bel {p B : Nat} {w0 w w' : World} (k : Upd p w w') (h : Below B w0 w) (hp : B ≤ p) : Below B w0 w' :=
  ⟨k.os.trans h.os, k.tape.trans h.tape, k.output.trans h.output, by rw [k.size]; exact h.size, fun b hb => (k.block b (by omega)).trans (h.block b hb)⟩
theorem upd_setRow (w : World) (p : Nat) (cs : Array Value) : Upd p w (w.setRow p cs) :=
  ⟨rfl, rfl, rfl, by simp, fun k hk => by simp only [World.setRow, Array.getElem?_modify]; rw [if_neg (fun e => hk e.symm)]⟩
/-- all of an array or a struct is loaded -/
theorem ldA {w : World} {ops : Array Oper} {rest : List Oper} {o : Oper} {a : Act} {Q : Exit → Act → World → Prop} (hgd : o.guard = none) (t : TypeId) (x : Operand) (ho : o.op = .load t x)
    (p : Nat) (hx : a.eval x = .pointer (some ⟨p, 0, none⟩)) (cs : List Value) (T : TypeId) (h : VA w p cs T) (d : TypeDesc) (hu : Try.prog.underlying t = some d) (hd : d.isRow = true) (hi : (Try.prog.info? t).map (·.size) = some cs.length)
    (k : wpList Try.prog ops Q rest (a.put o.dst (.agg cs.toArray)) w) : wpList Try.prog ops Q (o :: rest) a w :=
  wpList_load_mid hgd t x ho p 0 hx cs d (fun j v hv => by rw [Nat.zero_add]; exact h.cell j hv) hu hd hi k
/-- all of an array is stored -/
theorem stA {w : World} {ops : Array Oper} {rest : List Oper} {o : Oper} {a : Act} {Q : Exit → Act → World → Prop} (hgd : o.guard = none) (t : TypeId) (x y : Operand) (ho : o.op = .store t x y)
    (p : Nat) (hx : a.eval x = .pointer (some ⟨p, 0, none⟩)) (cs ds : List Value) (hy : a.eval y = .agg ds.toArray) (T : TypeId) (h : VA w p cs T) (hi : (Try.prog.info? t).map (·.size) = some ds.length) (hl : cs.length = ds.length) (h1 : ∀ v ∈ ds, v.oneCell' = true)
    (k : ∀ w', VA w' p ds T → Upd p w w' → wpList Try.prog ops Q rest (a.put o.dst undef) w') : wpList Try.prog ops Q (o :: rest) a w := by
  refine wpList_plain hgd fun K hK' => ?_
  have hrun := run_storeVar_row (P := Try.prog) w p T t cs.toArray ds.toArray h.blk (by simpa using hi) (by simpa using hl) (Array.all_eq_true_iff_forall_mem.2 (fun v hv => h1 v (by simpa using hv)))
  unfold Oper.wp execOp
  simp only [ho, hx, hy, Instr.storeAt, Instr.sureAddr, Sem.run_bind, Sem.run_pure, Result.andThen_ok, hrun]
  exact hK' _ _ (k _ ⟨setRow_heap w p _ _ _ _ h.blk⟩ (upd_setRow w p _))
theorem upd_set (w : World) (p k : Nat) (u : Value) : Upd p w (w.setCell ⟨p, k, none⟩ u) := ⟨rfl, rfl, rfl, by simp, fun j hj => Go.heap_setCell_other _ _ j _ hj⟩
theorem Upd.trans {p : Nat} {w w' w'' : World} (h : Upd p w w') (k : Upd p w' w'') : Upd p w w'' := ⟨k.os.trans h.os, k.tape.trans h.tape, k.output.trans h.output, k.size.trans h.size, fun j hj => (k.block j hj).trans (h.block j hj)⟩
theorem infoI : (Try.prog.info? 2).map (fun i => (i.zero, i.size, i.bytes)) = some (some (.int .i64 0), 1, 8) := by kernel_rfl
theorem infoI_parts : ∃ i, Try.prog.info? 2 = some i ∧ i.zero = some (.int .i64 0) ∧ i.size = 1 ∧ i.bytes = 8 := by
  obtain ⟨i, hi, hz⟩ := Option.map_eq_some_iff.1 infoI
  simp only [Prod.mk.injEq] at hz
  exact ⟨i, hi, hz.1, hz.2.1, hz.2.2⟩
/-- numbers as cells -/
def ci (zs : List Int) : List Value := zs.map fun d => Value.int .i64 d
/-- the row v of the call's own holds the numbers zs -/
structure OwnI (w : World) (B : Nat) (v : Value) (zs : List Int) : Prop where
  own : w.ownsRow B 2 1 v zs.length (ci zs)
theorem ownI_nil (w : World) (B : Nat) : OwnI w B (.slice none 0 0) [] := ⟨World.ownsRow_nil _ _ _ _⟩
theorem OwnI.block {w : World} {B : Nat} {v : Value} {cs : List Int} (h : OwnI w B v cs) : ∀ k, v.ownBlock = some k → B ≤ k := by
  obtain ⟨hl, h2⟩ := h.own
  rcases h2 with ⟨rfl, h0⟩ | ⟨g, cap, cur, rfl, hb, _⟩
  · intro k hk; simp [Value.ownBlock] at hk
  · intro k hk; simp [Value.ownBlock] at hk; omega
theorem OwnI.step {w w' : World} {B : Nat} {v : Value} {cs : List Int} (h : OwnI w B v cs) (k : Below w.heap.size w w') : OwnI w' B v cs := by
  refine ⟨h.own.1, ?_⟩
  rcases h.own.2 with h2 | ⟨g, cap, cur, e, hb, hg, r⟩
  · exact Or.inl h2
  · have hlt : g < w.heap.size := by
      rcases Nat.lt_or_ge g w.heap.size with hlt | hge
      · exact hlt
      · rw [Array.getElem?_eq_none hge] at hg; cases hg
    exact Or.inr ⟨g, cap, cur, e, hb, (k.block g hlt).trans hg, r⟩
theorem OwnI.lower {w : World} {B B' : Nat} {v : Value} {cs : List Int} (h : OwnI w B v cs) (hB : B' ≤ B) : OwnI w B' v cs := by
  refine ⟨h.own.1, ?_⟩
  rcases h.own.2 with h2 | ⟨g, cap, cur, e, hb, r⟩
  · exact Or.inl h2
  · exact Or.inr ⟨g, cap, cur, e, by omega, r⟩
theorem OwnI.form {w : World} {B : Nat} {v : Value} {cs : List Int} (h : OwnI w B v cs) : ∃ a c, v = .slice a cs.length c ∧ cs.length ≤ c ∧ c ≤ 9223372036854775807 := by
  rcases h.own.2 with ⟨rfl, h0⟩ | ⟨g, cap, cur, rfl, hb, hg, hcap, hcm, _⟩
  · exact ⟨none, 0, by rw [h0], by omega, by omega⟩
  · exact ⟨_, cap, rfl, hcap, by unfold maxLen at hcm; omega⟩
theorem OwnI.at {w : World} {B : Nat} {a : Option Addr} {n c : Nat} {cs : List Int} (h : OwnI w B (.slice a n c) cs) (k : Nat) (hk : k < cs.length) : ∃ g, a = some ⟨g, 0, none⟩ ∧ g < w.heap.size ∧ w.cell? ⟨g, k, none⟩ = some (.int .i64 (cs.getD k 0)) := by
  have ho := h.own
  rcases h.own.2 with ⟨e, h0⟩ | ⟨g, cap, cur, e, hb, hg, hcap, hcm, hcs, htk⟩
  · omega
  · cases e
    refine ⟨g, rfl, ?_, ?_⟩
    · rcases Nat.lt_or_ge g w.heap.size with hlt | hge
      · exact hlt
      · rw [Array.getElem?_eq_none hge] at hg; cases hg
    · rw [ho.cellAt k (by omega)]
      simp [ci, List.getD, hk]
/-- append(l, d) -/
theorem appI1 {w : World} {ops : Array Oper} {rest : List Oper} {o : Oper} {a : Act} {Q : Exit → Act → World → Prop} {T : TypeId} (hgd : o.guard = none) (s x : Operand)
    (ho : o.op = .call { callee := .builtin .append, args := #[s, x], argTypes := #[31, 31] })
    (B : Nat) (cs : List Int) (v : Value) (d : Int) (hs : a.eval s = v) (hx : a.eval x = .slice (some ⟨w.heap.size, 0, none⟩) 1 1)
    (hown : OwnI w B v cs) (hB : B ≤ w.heap.size) (hl : cs.length ≤ 1000)
    (h : ∀ v' w', OwnI w' B v' (cs ++ [d]) → Below B w w' → wpList Try.prog ops Q rest (a.put o.dst v') w') :
    wpList Try.prog ops Q (o :: rest) a (w.alloc (.cells #[.int .i64 d] T)) := by
  obtain ⟨i0, hi, hz0, hz1, hz2⟩ := infoI_parts
  refine wpList_append_own _ hgd s x 31 ho B 2 i0 (.int .i64 0) 1 8 Try.underlying31 hi hz0 hz1 hz2 rfl (by decide) v cs.length (ci cs) hs (hown.own.alloc _) ⟨w.heap.size, 0, none⟩ 1 1 [.int .i64 d] hx rfl ?_ ?_ ?_ ?_ ?_ ?_
  · intro j u hj
    match j, hj with
    | 0, hj => simp at hj; subst hj; simp [Addr.add]
  · intro u hu; simp at hu; subst hu; rfl
  · unfold maxLen; omega
  · omega
  · simp; omega
  · intro v' w' hown' hgrow _
    refine h v' w' ?_ ?_
    · refine ⟨?_⟩
      rw [List.length_append, List.length_singleton, show ci (cs ++ [d]) = ci cs ++ [.int .i64 d] by simp [ci]]
      exact hown'
    · exact ((Below.refl _ _).alloc hB _).grown hgrow (by simp; omega) hown.block
theorem ci_len (zs : List Int) : (ci zs).length = zs.length := by simp [ci]
theorem ci_get (zs : List Int) (k : Nat) (h : k < zs.length) : (ci zs)[k]? = some (.int .i64 (zs.getD k 0)) := by simp [ci, h]
theorem ci_set (zs : List Int) (k : Nat) (d : Int) : ci (zs.set k d) = (ci zs).set k (.int .i64 d) := by simp [ci, List.map_set]
/-- make([]int64, n) -/
theorem mkI {w : World} {ops : Array Oper} {rest : List Oper} {o : Oper} {a : Act} {Q : Exit → Act → World → Prop} (hgd : o.guard = none) (l c : Operand) (ho : o.op = Op.makeSlice 31 l c)
    (n : Nat) (L C : Int) (hl : a.eval l = .int .i64 L) (hc : a.eval c = .int .i64 C) (hL : L = n) (hC : C = n) (hn : n ≤ 1000)
    (h : ∀ w', OwnI w' w.heap.size (.slice (some ⟨w.heap.size, 0, none⟩) n n) (List.replicate n 0) → Below w.heap.size w w' → wpList Try.prog ops Q rest (a.put o.dst (.slice (some ⟨w.heap.size, 0, none⟩) n n)) w') :
    wpList Try.prog ops Q (o :: rest) a w := by
  obtain ⟨i0, hi, hz0, hz1, hz2⟩ := infoI_parts
  refine wpList_make_full w hgd l c 31 ho w.heap.size 2 i0 (.int .i64 0) 1 Try.underlying31 hi hz0 hz1 .i64 .i64 L C n hl hc hL hC (by rw [hz2]; omega) (by unfold maxLen; omega) (Nat.le_refl _) ?_
  intro w' hown hg
  refine h w' ?_ ((Below.refl _ _).grown hg (Nat.le_refl _) (fun k hk => by cases hk))
  have e : (madeCells (Value.int .i64 0).cells (n * 1)).toList = ci (List.replicate n 0) := by
    rw [Nat.mul_one]
    show (madeCells #[Value.int .i64 0] n).toList = _
    rw [toList_madeCells_one]
    simp [ci]
  refine ⟨?_⟩
  rw [List.length_replicate, ← e]
  exact hown
theorem OwnI.len {w : World} {B n c : Nat} {a : Option Addr} {cs : List Int} (h : OwnI w B (.slice a n c) cs) : cs.length = n := by
  obtain ⟨_, h2⟩ := h.own
  rcases h2 with ⟨h, h0⟩ | ⟨g', cap, cur, h, _⟩
  · cases h; exact h0
  · injection h with _ h _; exact h.symm
theorem OwnI.set {w : World} {B g n c : Nat} {cs : List Int} (h : OwnI w B (.slice (some ⟨g, 0, none⟩) n c) cs) (j : Nat) (d : Int) :
    OwnI (w.setCell ⟨g, j, none⟩ (.int .i64 d)) B (.slice (some ⟨g, 0, none⟩) n c) (cs.set j d) := by
  obtain rfl := h.len
  have := (World.ownsRow.stored h.own j (.int .i64 d)).1
  refine ⟨?_⟩
  rw [List.length_set, ci_set]
  exact this
theorem OwnI.free {w : World} {B g n c : Nat} {cs : List Int} (h : OwnI w B (.slice (some ⟨g, 0, none⟩) n c) cs) (j : Nat) : w.frozen? ⟨g, j, none⟩ = false := by
  obtain rfl := h.len
  exact World.ownsRow.frozenAt h.own j
/-- the slice v holds the numbers zs -/
structure Is (w : World) (v : Value) (zs : List Int) : Prop where
  form : ∃ a c, v = .slice a zs.length c ∧ zs.length ≤ c ∧ c ≤ 9223372036854775807 ∧ (0 < zs.length → ∃ b off, a = some ⟨b, off, none⟩ ∧ b < w.heap.size ∧ ∀ k, k < zs.length → w.cell? ⟨b, off + k, none⟩ = some (.int .i64 (zs.getD k 0)))
theorem Is.step {w w' : World} {v : Value} {zs : List Int} (h : Is w v zs) (k : Below w.heap.size w w') : Is w' v zs := by
  obtain ⟨a, c, e, h1, h2, h3⟩ := h
  refine ⟨a, c, e, h1, h2, fun h0 => ?_⟩
  obtain ⟨b, off, e, hb, hx⟩ := h3 h0
  exact ⟨b, off, e, Nat.lt_of_lt_of_le hb k.size, fun j hj => (k.cell (p := ⟨b, off + j, none⟩) hb).trans (hx j hj)⟩
theorem OwnI.is {w : World} {B : Nat} {v : Value} {zs : List Int} (h : OwnI w B v zs) : Is w v zs := by
  obtain ⟨a, c, rfl, h1, h2⟩ := h.form
  refine ⟨a, c, rfl, h1, h2, fun h0 => ?_⟩
  obtain ⟨g, rfl, hg, _⟩ := h.at 0 h0
  refine ⟨g, 0, rfl, hg, fun k hk => ?_⟩
  obtain ⟨g', e, _, hc⟩ := h.at k hk
  cases e
  rw [Nat.zero_add]
  exact hc
theorem is_nil (w : World) : Is w (.slice none 0 0) [] := ⟨none, 0, rfl, by simp, by omega, fun h => by simp at h⟩
/-- a slice literal -/
theorem is_new (w : World) (zs : List Int) (n : Nat) (hl : zs.length = n) (hn : n ≤ 1000) (T : TypeId) : Is (w.alloc (.cells (ci zs).toArray T)) (.slice (some ⟨w.heap.size, 0, none⟩) n n) zs := by
  subst hl
  refine ⟨_, _, rfl, Nat.le_refl _, by omega, fun h0 => ⟨w.heap.size, 0, rfl, by simp, fun k hk => ?_⟩⟩
  rw [Nat.zero_add]
  exact (va_new w (ci zs) T).cell k (ci_get zs k hk)
end Go.Proofs.Ytmaikgebdegkgaa
/- Two lists of int64 compared (SameInts), for any seat. -/
namespace Go.Proofs.Ytmaikgebdegkgaa
open Go.RowKit
set_option linter.unusedVariables false

theorem bel_drewN' {B : Nat} {w0 w : World} (h : Below B w0 w) (n : Nat) : Below B w0 (w.drewN n) := ⟨h.os, h.tape, h.output, h.size, h.block⟩
/-- int64(uint64(x) % m) -/
theorem um (x m : Int) (h0 : 0 < m) (h1 : m ≤ 9000000000000000000) : 0 ≤ wrap64 ((IntKind.u64.wrap x).tmod m) ∧ wrap64 ((IntKind.u64.wrap x).tmod m) < m := by
  have hw : 0 ≤ IntKind.u64.wrap x := by
    show 0 ≤ x % 2 ^ 64
    exact Int.emod_nonneg _ (by decide)
  rw [Int.tmod_eq_emod_of_nonneg hw]
  have a := Int.emod_nonneg (IntKind.u64.wrap x) (show m ≠ 0 by omega)
  have b := Int.emod_lt_of_pos (IntKind.u64.wrap x) h0
  generalize IntKind.u64.wrap x % m = z at *
  have : wrap64 z = z := by unfold wrap64; omega
  omega
set_option maxHeartbeats 1000000 in
theorem sameInts_ok (v u : Value) (xs : List Int) (w : World) (h : Is w v xs) (h2 : Is w u xs) :
    Calls Try.prog 14 #[v, u] w fun e w' => e = .returned (.bool true) ∧ Below w.heap.size w w' := by
  obtain ⟨a, c, rfl, hlc, hc9, hx⟩ := h
  obtain ⟨a2, c2, rfl, hlc2, hc92, hx2⟩ := h2
  have HX := (show Hid _ from hx)
  have HX2 := (show Hid _ from hx2)
  clear hx hx2
  obtain ⟨n, hn⟩ : ∃ n, n = xs.length := ⟨_, rfl⟩
  have HN : Hid (n = xs.length) := hn
  rw [← hn] at hlc hlc2 ⊢
  clear hn
  go_enter Try.func14, Try.ntmps14
  go_wp2_with fail
  go_loopw [13] (fun i wr => ∃ k : Nat, k ≤ n ∧ i = .int .i64 k ∧ Below w.heap.size w wr) (fun i _ => n - (intOf i).toNat)
  case atStart => exact ⟨0, by omega, rfl, Below.refl _ _⟩
  case round =>
    obtain ⟨k, hk, rfl, hbel⟩ := hrel
    by_cases h0 : k = n
    · subst h0
      go_wp2_with fail
      go_ret
      exact ⟨rfl, hbel⟩
    · have hkn : k < n := by omega
      have k1 : k < xs.length := by have := HN.out; omega
      obtain ⟨b, off, rfl, hb, hc⟩ := HX.out (by omega)
      obtain ⟨b2, off2, rfl, hb2, hc2⟩ := HX2.out (by omega)
      have hcell := (hbel.cell (p := ⟨b, off + k, none⟩) hb).trans (hc k k1)
      have hcell2 := (hbel.cell (p := ⟨b2, off2 + k, none⟩) hb2).trans (hc2 k k1)
      obtain ⟨x, hx⟩ : ∃ x, x = xs.getD k 0 := ⟨_, rfl⟩
      rw [← hx] at hcell hcell2
      clear hc HX hc2 HX2 k1 hx
      go_wp2_with fail
      go_quiet (fail)
      have hbel := bel_drewN' hbel nq
      generalize wr.drewN nq = wq at *
      clear hcell hcell2
      go_wp2_with fail
      exact ⟨⟨k + 1, by omega, by go_num, hbel⟩, by simp [intOf]; omega⟩
end Go.Proofs.Ytmaikgebdegkgaa
/- Slices of tiers, for any seat: what they hold, rows of the call's own; the program's check of tiers, and the document's (taken from Gt, Gb, Gd). -/
namespace Go.Proofs.Ytmaikgebdegkgaa
open Go.RowKit
set_option linter.unusedVariables false

def I64 (n : Int) : Prop := -9223372036854775808 ≤ n ∧ n ≤ 9223372036854775807
/-- tiers: two numbers each -/
structure Tr (w : World) (v : Value) (ts : List (Int × Int)) : Prop where
  wf : ∀ t ∈ ts, (-9223372036854775808 ≤ t.1 ∧ t.1 ≤ 9223372036854775807) ∧ -9223372036854775808 ≤ t.2 ∧ t.2 ≤ 9223372036854775807
  form : ∃ a c, v = .slice a ts.length c ∧ ts.length ≤ c ∧ c ≤ 9223372036854775807 ∧ (0 < ts.length → ∃ b off, a = some ⟨b, off, none⟩ ∧ b < w.heap.size ∧ ∀ k, k < ts.length → w.cell? ⟨b, off + 2 * k, none⟩ = some (.int .i64 (ts.getD k (0, 0)).1) ∧ w.cell? ⟨b, off + 2 * k + 1, none⟩ = some (.int .i64 (ts.getD k (0, 0)).2))
theorem Tr.step {w w' : World} {v : Value} {ts : List (Int × Int)} (h : Tr w v ts) (k : Below w.heap.size w w') : Tr w' v ts := by
  obtain ⟨hw, a, c, e, h1, h2, h3⟩ := h
  refine ⟨hw, a, c, e, h1, h2, fun h0 => ?_⟩
  obtain ⟨b, off, ea, hb, hx⟩ := h3 h0
  exact ⟨b, off, ea, Nat.lt_of_lt_of_le hb k.size, fun j hj => ⟨(k.cell (p := ⟨b, off + 2 * j, none⟩) hb).trans (hx j hj).1, (k.cell (p := ⟨b, off + 2 * j + 1, none⟩) hb).trans (hx j hj).2⟩⟩
theorem Tr.at {w : World} {a : Option Addr} {n c : Nat} {ts : List (Int × Int)} (h : Tr w (.slice a n c) ts) (k : Nat) (hk : k < n) : ∃ b off, a = some ⟨b, off, none⟩ ∧ b < w.heap.size ∧ w.cell? ⟨b, off + 2 * k, none⟩ = some (.int .i64 (ts.getD k (0, 0)).1) ∧ w.cell? ⟨b, off + 2 * k + 1, none⟩ = some (.int .i64 (ts.getD k (0, 0)).2) := by
  obtain ⟨_, a', c', e, h1, h2, h3⟩ := h
  cases e
  obtain ⟨b, off, ea, hb, hx⟩ := h3 (by omega)
  exact ⟨b, off, ea, hb, hx k hk⟩
/-- tiers as cells -/
def tcs (ts : List (Int × Int)) : List Value := ts.flatMap (fun t => [Value.int .i64 t.1, Value.int .i64 t.2])
theorem tcs_len (ts : List (Int × Int)) : (tcs ts).length = 2 * ts.length := by
  induction ts with
  | nil => rfl
  | cons a t ih => simp [tcs] at *; omega
theorem info44 : (Try.prog.info? 25).map (fun i => (i.zero, i.size, i.bytes)) = some (some (.agg #[.int .i64 0, .int .i64 0]), 2, 16) := by kernel_rfl
theorem info44_parts : ∃ i, Try.prog.info? 25 = some i ∧ i.zero = some (.agg #[.int .i64 0, .int .i64 0]) ∧ i.size = 2 ∧ i.bytes = 16 := by
  obtain ⟨i, hi, hz⟩ := Option.map_eq_some_iff.1 info44
  simp only [Prod.mk.injEq] at hz
  exact ⟨i, hi, hz.1, hz.2.1, hz.2.2⟩
theorem tcs_get (ts : List (Int × Int)) : ∀ (j : Nat), j < ts.length → (tcs ts)[2 * j]? = some (.int .i64 (ts.getD j (0, 0)).1) ∧ (tcs ts)[2 * j + 1]? = some (.int .i64 (ts.getD j (0, 0)).2) := by
  induction ts with
  | nil => intro j h; simp at h
  | cons a ts ih =>
    intro j h
    cases j with
    | zero => exact ⟨rfl, rfl⟩
    | succ j =>
      have := ih j (by simpa using h)
      show (Value.int .i64 a.1 :: Value.int .i64 a.2 :: tcs ts)[2 * (j + 1)]? = _ ∧ (Value.int .i64 a.1 :: Value.int .i64 a.2 :: tcs ts)[2 * (j + 1) + 1]? = _
      rw [show 2 * (j + 1) = 2 * j + 1 + 1 by omega]
      simpa using this
/-- the row v of the call's own holds the tiers ts -/
structure OwnT (w : World) (B : Nat) (v : Value) (ts : List (Int × Int)) : Prop where
  wf : ∀ t ∈ ts, I64 t.1 ∧ I64 t.2
  own : w.ownsRow B 25 2 v ts.length (tcs ts)
theorem ownT_nil (w : World) (B : Nat) : OwnT w B (.slice none 0 0) [] := ⟨fun t h => (by cases h), World.ownsRow_nil _ _ _ _⟩
theorem OwnT.block {w : World} {B : Nat} {v : Value} {cs : List (Int × Int)} (h : OwnT w B v cs) : ∀ k, v.ownBlock = some k → B ≤ k := by
  obtain ⟨hl, h2⟩ := h.own
  rcases h2 with ⟨rfl, h0⟩ | ⟨g, cap, cur, rfl, hb, _⟩
  · intro k hk; simp [Value.ownBlock] at hk
  · intro k hk; simp [Value.ownBlock] at hk; omega
theorem OwnT.lower {w : World} {B B' : Nat} {v : Value} {cs : List (Int × Int)} (h : OwnT w B v cs) (hB : B' ≤ B) : OwnT w B' v cs := by
  refine ⟨h.wf, h.own.1, ?_⟩
  rcases h.own.2 with h2 | ⟨g, cap, cur, e, hb, r⟩
  · exact Or.inl h2
  · exact Or.inr ⟨g, cap, cur, e, by omega, r⟩
theorem OwnT.step {w w' : World} {B : Nat} {v : Value} {cs : List (Int × Int)} (h : OwnT w B v cs) (k : Below w.heap.size w w') : OwnT w' B v cs := by
  refine ⟨h.wf, h.own.1, ?_⟩
  rcases h.own.2 with h2 | ⟨g, cap, cur, e, hb, hg, r⟩
  · exact Or.inl h2
  · have hlt : g < w.heap.size := by
      rcases Nat.lt_or_ge g w.heap.size with hlt | hge
      · exact hlt
      · rw [Array.getElem?_eq_none hge] at hg; cases hg
    exact Or.inr ⟨g, cap, cur, e, hb, (k.block g hlt).trans hg, r⟩
theorem tcs_app (a b : List (Int × Int)) : tcs (a ++ b) = tcs a ++ tcs b := by simp [tcs]
theorem tcs_mem {ts : List (Int × Int)} {u : Value} (h : u ∈ tcs ts) : u.oneCell' = true := by
  unfold tcs at h
  obtain ⟨t, _, ht⟩ := List.mem_flatMap.1 h
  simp at ht
  rcases ht with rfl | rfl <;> rfl
theorem OwnT.tr {w : World} {B : Nat} {v : Value} {ts : List (Int × Int)} (h : OwnT w B v ts) : Tr w v ts := by
  refine ⟨h.wf, ?_⟩
  have ho := h.own
  rcases h.own.2 with ⟨rfl, h0⟩ | ⟨g, cap, cur, rfl, hb, hg, hcap, hcm, hcs, htk⟩
  · exact ⟨none, 0, by rw [h0], by omega, by omega, fun h => by omega⟩
  · refine ⟨some ⟨g, 0, none⟩, cap, rfl, hcap, by unfold maxLen at hcm; omega, fun h0 => ⟨g, 0, rfl, ?_, fun k hk => ?_⟩⟩
    · rcases Nat.lt_or_ge g w.heap.size with hlt | hge
      · exact hlt
      · rw [Array.getElem?_eq_none hge] at hg; cases hg
    · have hlt1 : 2 * k + 1 < (tcs ts).length := by rw [tcs_len]; omega
      have e1 := ho.cellAt (2 * k) (by omega)
      have e2 := ho.cellAt (2 * k + 1) (by omega)
      rw [Nat.zero_add]
      exact ⟨by rw [e1, (tcs_get ts k hk).1], by rw [e2, (tcs_get ts k hk).2]⟩
/-- append(l, t...) as a region that draws its order meets it -/
theorem appTk {w : World} {y : Nat → Option Bool} {o : Oper} {a : Act} {Q : Exit → Act → World → Prop} {K : Act → World → Prop} {k0 : Prop} (hgd : Region.wanted o y = true) (s x : Operand)
    (ho : o.op = .call { callee := .builtin .append, args := #[s, x], argTypes := #[22, 22] })
    (B : Nat) (cs bs : List (Int × Int)) (v : Value) (b off c : Nat) (hs : a.eval s = v) (hx : a.eval x = .slice (some ⟨b, off, none⟩) bs.length c)
    (hown : OwnT w B v cs) (hwf : ∀ t ∈ bs, I64 t.1 ∧ I64 t.2) (hcell : ∀ k, k < bs.length → w.cell? ⟨b, off + 2 * k, none⟩ = some (.int .i64 (bs.getD k (0, 0)).1) ∧ w.cell? ⟨b, off + 2 * k + 1, none⟩ = some (.int .i64 (bs.getD k (0, 0)).2)) (hB : B ≤ w.heap.size) (hl : cs.length + bs.length ≤ 8796093022208)
    (h : ∀ v' w', OwnT w' B v' (cs ++ bs) → Below B w w' → w.grownBy w' v.ownBlock → K (a.put o.dst v') w') :
    if Region.wanted o y then o.wp Try.prog a w K Q else k0 := by
  obtain ⟨i0, hi, hz0, hz1, hz2⟩ := info44_parts
  rw [if_pos hgd]
  refine wp_append_own _ s x 22 ho B 25 i0 (.agg #[.int .i64 0, .int .i64 0]) 2 16 Try.underlying22 hi hz0 hz1 hz2 rfl (by decide) v cs.length (tcs cs) hs hown.own ⟨b, off, none⟩ bs.length c (tcs bs) hx (by rw [tcs_len]; omega) ?_ (fun u hu => tcs_mem hu) (by unfold maxLen; omega) (by omega) hB (fun v' w' g1 g2 _ => h v' w' ⟨fun t ht => ?_, ?_⟩ ((Below.refl _ _).grown g2 hB hown.block) g2)
  · intro j u hj
    have hj' : j < (tcs bs).length := (List.getElem?_eq_some_iff.1 hj).1
    rw [tcs_len] at hj'
    rw [Go.WideShapes.add_plain]
    have e : j = 2 * (j / 2) ∨ j = 2 * (j / 2) + 1 := by omega
    have hk := hcell (j / 2) (by omega)
    have hg := tcs_get bs (j / 2) (by omega)
    rcases e with e | e
    · rw [e] at hj ⊢
      rw [hk.1, ← hg.1, hj]
    · rw [e] at hj ⊢
      rw [← Nat.add_assoc, hk.2, ← hg.2, hj]
  · rcases List.mem_append.1 ht with ht | ht
    · exact hown.wf t ht
    · exact hwf t ht
  · rw [List.length_append, tcs_app]
    exact g1
theorem appTg {w : World} {ops : Array Oper} {rest : List Oper} {o : Oper} {a : Act} {Q : Exit → Act → World → Prop} (hgd : o.guard = none) (s x : Operand)
    (ho : o.op = .call { callee := .builtin .append, args := #[s, x], argTypes := #[22, 22] })
    (B : Nat) (cs bs : List (Int × Int)) (v : Value) (b off c : Nat) (hs : a.eval s = v) (hx : a.eval x = .slice (some ⟨b, off, none⟩) bs.length c)
    (hown : OwnT w B v cs) (hwf : ∀ t ∈ bs, I64 t.1 ∧ I64 t.2) (hcell : ∀ k, k < bs.length → w.cell? ⟨b, off + 2 * k, none⟩ = some (.int .i64 (bs.getD k (0, 0)).1) ∧ w.cell? ⟨b, off + 2 * k + 1, none⟩ = some (.int .i64 (bs.getD k (0, 0)).2)) (hB : B ≤ w.heap.size) (hl : cs.length + bs.length ≤ 8796093022208)
    (h : ∀ v' w', OwnT w' B v' (cs ++ bs) → Below B w w' → w.grownBy w' v.ownBlock → wpList Try.prog ops Q rest (a.put o.dst v') w') :
    wpList Try.prog ops Q (o :: rest) a w :=
  wpList_step fun K hK => appTk (by simp [Region.wanted, hgd]) s x ho B cs bs v b off c hs hx hown hwf hcell hB hl (fun v' w' p q r => hK _ _ (h v' w' p q r))
/-- a block of another type stays when tiers are appended -/
theorem VA.grownT {w w' : World} {p B : Nat} {cs : List Value} {T : TypeId} {v : Value} {bs : List (Int × Int)} (h : VA w p cs T) (g : w.grownBy w' v.ownBlock) (o : OwnT w B v bs) (hT : T ≠ 25) : VA w' p cs T := by
  refine ⟨(g.block p h.lt (fun e => ?_)).trans h.blk⟩
  rcases o.own.2 with ⟨rfl, _⟩ | ⟨q, cap, cur, rfl, _, hq, _⟩
  · cases e
  · cases e
    have := h.blk.symm.trans hq
    simp at this
    exact hT this.2

/-! what is read is what there is -/
/-- append(l, t...) of any tiers -/
theorem appTr {w : World} {ops : Array Oper} {rest : List Oper} {o : Oper} {a : Act} {Q : Exit → Act → World → Prop} (hgd : o.guard = none) (s x : Operand)
    (ho : o.op = .call { callee := .builtin .append, args := #[s, x], argTypes := #[22, 22] })
    (B : Nat) (cs bs : List (Int × Int)) (v u : Value) (hs : a.eval s = v) (hx : a.eval x = u)
    (hown : OwnT w B v cs) (hu : Tr w u bs) (hno : ∀ n c, u = .slice none n c → c = 0) (hB : B ≤ w.heap.size) (hl : cs.length + bs.length ≤ 8796093022208)
    (h : ∀ v' w', OwnT w' B v' (cs ++ bs) → Below B w w' → w.grownBy w' v.ownBlock → wpList Try.prog ops Q rest (a.put o.dst v') w') :
    wpList Try.prog ops Q (o :: rest) a w := by
  obtain ⟨i0, hi, hz0, hz1, hz2⟩ := info44_parts
  obtain ⟨hwf, ad, c, rfl, h1, h2, h4⟩ := hu
  by_cases h0 : bs = []
  · subst h0
    cases ad with
    | none =>
      obtain rfl : c = 0 := hno _ _ rfl
      refine wpList_append_own_none hgd s x 22 ho B 25 i0 2 Try.underlying22 hi v cs.length (tcs cs) hs hown.own hx ?_
      exact h v w (by simpa using hown) (Below.refl _ _) (World.grownBy.refl _ _)
    | some ad =>
      refine wpList_append_own _ hgd s x 22 ho B 25 i0 (.agg #[.int .i64 0, .int .i64 0]) 2 16 Try.underlying22 hi hz0 hz1 hz2 rfl (by decide) v cs.length (tcs cs) hs hown.own ad 0 c [] hx rfl (fun j u hj => by simp at hj) (fun u hu => by simp at hu) (by unfold maxLen; omega) (by simp at hl; omega) hB (fun v' w' g1 g2 _ => h v' w' ⟨by simpa using hown.wf, by simpa using g1⟩ ((Below.refl _ _).grown g2 hB hown.block) g2)
  · have hp : 0 < bs.length := List.length_pos_iff.2 h0
    obtain ⟨b, off, rfl, hb, hcell⟩ := h4 hp
    exact appTg hgd s x ho B cs bs v b off c hs hx hown hwf hcell hB hl h
theorem ownT_made (w : World) : OwnT (w.alloc (.cells #[] 25)) w.heap.size (.slice (some ⟨w.heap.size, 0, none⟩) 0 0) [] :=
  ⟨fun t h => (by cases h), World.ownsRow_made w #[] 0 (Nat.le_refl _) (by unfold maxLen; omega) rfl⟩
theorem Tr.front {w : World} {a : Option Addr} {n c : Nat} {ts ms : List (Int × Int)} (h : Tr w (.slice a n c) (ts ++ ms)) : Tr w (.slice a ts.length c) ts := by
  obtain ⟨hw, a', c', e, h1, h2, h3⟩ := h
  cases e
  rw [List.length_append] at h1 h3
  refine ⟨fun t ht => hw t (List.mem_append_left _ ht), a, c, rfl, by omega, h2, fun h0 => ?_⟩
  obtain ⟨b, off, ea, hb, hx⟩ := h3 (by omega)
  refine ⟨b, off, ea, hb, fun k hk => ?_⟩
  have := hx k (by omega)
  have e : (ts ++ ms).getD k (0, 0) = ts.getD k (0, 0) := by simp [List.getD, List.getElem?_append_left hk]
  rwa [e] at this
def wi (n l g : Int) : Bool := decide (l ≤ n ∧ n ≤ g)
theorem within64_ok (n l g : Int) (w : World) : Calls Try.prog 48 #[.int .i64 n, .int .i64 l, .int .i64 g] w fun e w' => e = .returned (.bool (wi n l g)) ∧ w' = w := by
  unfold wi
  by_cases h1 : l ≤ n
  · by_cases h2 : n ≤ g
    · rw [show decide (l ≤ n ∧ n ≤ g) = true by simp; omega]
      go_enter Try.func48, Try.ntmps48
      go_wp2_with fail
      go_ret
      exact ⟨rfl, rfl⟩
    · rw [show decide (l ≤ n ∧ n ≤ g) = false by simp; omega]
      go_enter Try.func48, Try.ntmps48
      go_wp2_with fail
      go_ret
      exact ⟨rfl, rfl⟩
  · rw [show decide (l ≤ n ∧ n ≤ g) = false by simp; omega]
    go_enter Try.func48, Try.ntmps48
    go_wp2_with fail
    go_ret
    exact ⟨rfl, rfl⟩
def tf (ts : List (Int × Int)) (i : Nat) : Int := (ts.getD i (0, 0)).1
def tr (ts : List (Int × Int)) (i : Nat) : Int := (ts.getD i (0, 0)).2
/-- is the tier number i as it should be? -/
def gdb (ts : List (Int × Int)) (i : Nat) : Bool := decide ((i = 0 → tf ts i = 0) ∧ (0 < i → tf ts (i - 1) < tf ts i) ∧ tf ts i ≤ 10000000000000 ∧ 0 ≤ tr ts i ∧ tr ts i ≤ 1000000000)
def terr (ts : List (Int × Int)) : Int := if 8 < ts.length then 2 else if ts.length = 0 then 3 else if (List.range ts.length).all (gdb ts) then 0 else 3
theorem terr_long {ts : List (Int × Int)} (h : 8 < ts.length) : terr ts = 2 := by unfold terr; rw [if_pos h]
theorem terr_none {ts : List (Int × Int)} (h : ts.length = 0) : terr ts = 3 := by unfold terr; rw [if_neg (by omega), if_pos h]
theorem terr_bad {ts : List (Int × Int)} (h : ¬ 8 < ts.length) {i : Nat} (hi : i < ts.length) (hb : gdb ts i = false) : terr ts = 3 := by
  unfold terr
  rw [if_neg h, if_neg (by omega), if_neg]
  intro e
  have := List.all_eq_true.1 e i (List.mem_range.2 hi)
  rw [hb] at this
  cases this
theorem terr_ok {ts : List (Int × Int)} (h : ¬ 8 < ts.length) (h0 : ts.length ≠ 0) (hg : ∀ i, i < ts.length → gdb ts i = true) : terr ts = 0 := by
  unfold terr
  rw [if_neg h, if_neg h0, if_pos]
  exact List.all_eq_true.2 (fun i hi => hg i (List.mem_range.1 hi))
theorem Tr.cells {w : World} {a : Option Addr} {n c : Nat} {ts : List (Int × Int)} (h : Tr w (.slice a n c) ts) (k : Nat) (hk : k < n) : ∃ b off, a = some ⟨b, off, none⟩ ∧ w.cell? ⟨b, off + k * 2, none⟩ = some (.int .i64 (tf ts k)) ∧ w.cell? ⟨b, off + k * 2 + 1, none⟩ = some (.int .i64 (tr ts k)) := by
  obtain ⟨b, off, e, _, h1, h2⟩ := h.at k hk
  rw [Nat.mul_comm 2 k] at h1 h2
  exact ⟨b, off, e, h1, h2⟩
set_option maxHeartbeats 1000000 in
set_option maxRecDepth 100000 in
theorem tiers_ok (tv : Value) (ts : List (Int × Int)) (w : World) (h : Tr w tv ts) :
    Calls Try.prog 29 #[tv] w fun e w' => e = .returned (.int .i64 (terr ts)) ∧ Below w.heap.size w w' := by
  obtain ⟨n, hn⟩ : ∃ n, n = ts.length := ⟨_, rfl⟩
  have H := (show Hid _ from h)
  obtain ⟨ta, tc, rfl, g1, g2⟩ : ∃ a c, tv = .slice a n c ∧ n ≤ c ∧ c ≤ 9223372036854775807 := by obtain ⟨_, a, c, e, h1, h2, _⟩ := h; exact ⟨a, c, by rw [hn]; exact e, by rw [hn]; exact h1, h2⟩
  have HN := (show Hid _ from hn)
  clear h hn
  by_cases h8 : 8 < n
  · rw [terr_long (by have := HN.out; omega)]
    go_enter Try.func29, Try.ntmps29
    go_wp2_with fail
    go_ret
    exact ⟨rfl, Below.refl _ _⟩
  by_cases h0 : n = 0
  · rw [terr_none (by have := HN.out; omega)]
    subst h0
    go_enter Try.func29, Try.ntmps29
    go_wp2_with fail
    go_ret
    exact ⟨rfl, Below.refl _ _⟩
  have h0' : ¬ ((n : Int) = 0) := by omega
  have hp : 0 < n := by omega
  obtain ⟨b, off, rfl, y1, y2⟩ := H.out.cells 0 hp
  rw [Nat.zero_mul, Nat.add_zero] at y1 y2
  by_cases hf : tf ts 0 = 0
  · rw [hf] at y1
    clear y2
    have HF := (show Hid _ from hf)
    clear hf
    have e1 : ((n : Int) == 0) = false := by simpa using h0'
    go_enter Try.func29, Try.ntmps29
    go_wp2_with fail
    go_loopw [20] (fun i wr => ∃ k : Nat, k ≤ n ∧ i = .int .i64 k ∧ Hid (∀ i, i < k → gdb ts i = true) ∧ Below w.heap.size w wr) (fun i _ => n - (intOf i).toNat)
    case atStart => exact ⟨0, by omega, rfl, (fun i hi => by omega), Below.refl _ _⟩
    case round =>
      obtain ⟨k, hk, rfl, HG, hbel⟩ := hrel
      have HB := (show Hid _ from hbel)
      clear hbel y1
      by_cases hkn : k = n
      · subst hkn
        go_wp2_with fail
        go_ret
        exact ⟨by rw [terr_ok (by have := HN.out; omega) (by have := HN.out; omega) (fun i hi => HG.out i (by have := HN.out; omega))]; rfl, HB.out⟩
      have hk' : k < n := by omega
      obtain ⟨b', off', e, z1, z2⟩ := (H.out.step HB.out).cells k hk'
      cases e
      have d1 : (0 : Int) ≤ (k : Int) := by omega
      have d2 : (k : Int) < (n : Int) := by omega
      have hgd : gdb ts k = decide ((k = 0 → tf ts k = 0) ∧ (0 < k → tf ts (k - 1) < tf ts k) ∧ tf ts k ≤ 10000000000000 ∧ 0 ≤ tr ts k ∧ tr ts k ≤ 1000000000) := rfl
      have HGD := (show Hid _ from hgd)
      clear hgd
      have bad : Hid (gdb ts k = false → terr ts = 3) := fun hb => terr_bad (by have := HN.out; omega) (by have := HN.out; omega) hb
      have R0 : tf ts k ≤ 10000000000000 → wi (tr ts k) 0 1000000000 = true → (k = 0 → tf ts k = 0) → (0 < k → tf ts (k - 1) < tf ts k) → gdb ts k = true := by
        intro u1 u2 u3 u4
        rw [HGD.out]
        simp only [wi, decide_eq_true_eq] at u2 ⊢
        exact ⟨u3, u4, u1, u2.1, u2.2⟩
      have N1 : ¬ tf ts k ≤ 10000000000000 → gdb ts k = false := by
        intro u
        rw [HGD.out]
        simp only [decide_eq_false_iff_not]
        exact fun v => u v.2.2.1
      have N2 : wi (tr ts k) 0 1000000000 = false → gdb ts k = false := by
        intro u
        rw [HGD.out]
        simp only [wi, decide_eq_false_iff_not] at u ⊢
        exact fun v => u ⟨v.2.2.2.1, v.2.2.2.2⟩
      have N3 : 0 < k → ¬ tf ts (k - 1) < tf ts k → gdb ts k = false := by
        intro u0 u
        rw [HGD.out]
        simp only [decide_eq_false_iff_not]
        exact fun v => u (v.2.1 u0)
      have HR0 := (show Hid _ from R0)
      have HN1 := (show Hid _ from N1)
      have HN2 := (show Hid _ from N2)
      have HN3 := (show Hid _ from N3)
      clear R0 N1 N2 N3 HGD
      by_cases hk0 : k = 0
      · subst hk0
        rw [HF.out, Nat.zero_mul, Nat.add_zero] at z1
        rw [Nat.zero_mul, Nat.add_zero] at z2
        generalize tr ts 0 = r at *
        go_wp2_with fail
        go_quiet (fail)
        go_wp2_with fail
        refine (within64_ok _ _ _ _).mono ?_
        rintro e w2 ⟨rfl, rfl⟩
        cases hr : wi r 0 1000000000
        · go_wp2_with fail
          go_ret
          exact ⟨by rw [bad.out (HN2.out hr)]; rfl, (bel_drewN' (HB.out.alloc HB.out.size _) _)⟩
        · go_wp2_with fail
          have G1 : ∀ i, i < 0 + 1 → gdb ts i = true := by
            intro i hi
            obtain rfl : i = 0 := by omega
            exact HR0.out (by rw [HF.out]; omega) hr (fun _ => HF.out) (fun h => by omega)
          exact ⟨⟨0 + 1, by omega, by go_num, G1, bel_drewN' (HB.out.alloc HB.out.size _) _⟩, by simp [intOf]; omega⟩
      · obtain ⟨m, rfl⟩ : ∃ m, k = m + 1 := ⟨k - 1, by omega⟩
        obtain ⟨b', off', e, x1, x2⟩ := (H.out.step HB.out).cells m (by omega)
        cases e
        rw [Nat.add_sub_cancel] at HR0 HN3
        generalize tf ts m = f0 at *
        generalize tf ts (m + 1) = f1 at *
        generalize tr ts (m + 1) = r at *
        have d3 : (0 : Int) < ((m + 1 : Nat) : Int) := by omega
        have d4 : ((m + 1 : Nat) : Int) - 1 = (m : Int) := by omega
        have d5 : (0 : Int) ≤ (m : Int) := by omega
        have d6 : (m : Int) < (n : Int) := by omega
        have d7 : IntKind.i64.wrap (m : Int) = (m : Int) := by rw [IntKind.wrap_i64]; omega
        have x3 : ∀ o : Obj, (wr.alloc o).cell? ⟨b, off + m * 2, none⟩ = some (.int .i64 f0) := fun o => (((Below.refl wr.heap.size wr).alloc (Nat.le_refl _) o).cell (p := ⟨b, off + m * 2, none⟩) (World.block_lt_of_cell? wr _ x1)).trans x1
        by_cases hf : f0 < f1
        · go_wp2_with fail
          go_quiet (fail)
          by_cases hM : f1 ≤ 10000000000000
          · go_wp2_with fail
            refine (within64_ok _ _ _ _).mono ?_
            rintro e w2 ⟨rfl, rfl⟩
            cases hr : wi r 0 1000000000
            · go_wp2_with fail
              go_ret
              exact ⟨by rw [bad.out (HN2.out hr)]; rfl, (bel_drewN' (HB.out.alloc HB.out.size _) _)⟩
            · go_wp2_with fail
              have G1 : ∀ i, i < m + 1 + 1 → gdb ts i = true := by
                intro i hi
                by_cases e : i = m + 1
                · subst e
                  exact HR0.out hM hr (fun h => by omega) (fun _ => hf)
                · exact HG.out i (by omega)
              exact ⟨⟨m + 1 + 1, by omega, by go_num, G1, bel_drewN' (HB.out.alloc HB.out.size _) _⟩, by simp [intOf]; omega⟩
          · go_wp2_with fail
            go_ret
            exact ⟨by rw [bad.out (HN1.out hM)]; rfl, (bel_drewN' (HB.out.alloc HB.out.size _) _)⟩
        · go_wp2_with fail
          go_quiet (fail)
          go_wp2_with fail
          go_ret
          exact ⟨by rw [bad.out (HN3.out (by omega) hf)]; rfl, (bel_drewN' (HB.out.alloc HB.out.size _) _)⟩
  · rw [terr_bad (i := 0) (by have := HN.out; omega) (by have := HN.out; omega) (by simp [gdb, hf])]
    generalize tf ts 0 = f at *
    have e1 : ((n : Int) == 0) = false := by simpa using h0'
    have e2 : (f != 0) = true := by simpa using hf
    go_enter Try.func29, Try.ntmps29
    go_wp2_with fail
    go_ret
    exact ⟨rfl, Below.refl _ _⟩
set_option maxHeartbeats 1000000 in
set_option maxRecDepth 100000 in
theorem rtiers_ok (tv : Value) (ts : List (Int × Int)) (w : World) (h : Tr w tv ts) :
    Calls Try.prog 25 #[tv] w fun e w' => e = .returned (.int .i64 (terr ts)) ∧ Below w.heap.size w w' := by
  obtain ⟨n, hn⟩ : ∃ n, n = ts.length := ⟨_, rfl⟩
  have H := (show Hid _ from h)
  obtain ⟨ta, tc, rfl, g1, g2⟩ : ∃ a c, tv = .slice a n c ∧ n ≤ c ∧ c ≤ 9223372036854775807 := by obtain ⟨_, a, c, e, h1, h2, _⟩ := h; exact ⟨a, c, by rw [hn]; exact e, by rw [hn]; exact h1, h2⟩
  have HN := (show Hid _ from hn)
  clear h hn
  by_cases h8 : 8 < n
  · rw [terr_long (by have := HN.out; omega)]
    go_enter Try.func25, Try.ntmps25
    go_wp2_with fail
    go_ret
    exact ⟨rfl, Below.refl _ _⟩
  go_enter Try.func25, Try.ntmps25
  go_wp2_with fail
  go_loopw [3, 11] (fun l i wr => ∃ k : Nat, k ≤ n ∧ i = .int .i64 k ∧ l = .int .i64 (if k = 0 then -1 else tf ts (k - 1)) ∧ Hid (∀ i, i < k → gdb ts i = true) ∧ Below w.heap.size w wr) (fun _ i _ => n - (intOf i).toNat)
  case atStart => exact ⟨0, by omega, rfl, rfl, (fun i hi => by omega), Below.refl _ _⟩
  case round =>
    obtain ⟨k, hk, rfl, rfl, HG, hbel⟩ := hrel
    have HB := (show Hid _ from hbel)
    clear hbel
    obtain ⟨l, hl⟩ : ∃ l, l = (if k = 0 then -1 else tf ts (k - 1)) := ⟨_, rfl⟩
    have HL := (show Hid _ from hl)
    rw [← hl]
    clear hl
    by_cases hkn : k = n
    · subst hkn
      by_cases h0 : k = 0
      · subst h0
        go_wp2_with fail
        go_ret
        exact ⟨by rw [terr_none (by have := HN.out; omega)]; rfl, HB.out⟩
      · have h0' : ¬ ((k : Int) = 0) := by omega
        have e1 : ((k : Int) == 0) = false := by simpa using h0'
        go_wp2_with fail
        go_ret
        exact ⟨by rw [terr_ok (by have := HN.out; omega) (by have := HN.out; omega) (fun i hi => HG.out i (by have := HN.out; omega))]; rfl, HB.out⟩
    have hk' : k < n := by omega
    obtain ⟨b', off', rfl, z1, z2⟩ := (H.out.step HB.out).cells k hk'
    have d1 : (0 : Int) ≤ (k : Int) := by omega
    have d2 : (k : Int) < (n : Int) := by omega
    have HE1 : Hid (gdb ts k = true ↔ ((k = 0 → tf ts k = 0) ∧ l < tf ts k ∧ tf ts k ≤ 10000000000000 ∧ 0 ≤ tr ts k ∧ tr ts k ≤ 1000000000)) := by
      have h1 := HL.out
      unfold gdb
      rw [decide_eq_true_eq]
      by_cases e : k = 0
      · subst e
        simp at h1
        constructor
        · rintro ⟨a, b, c⟩; have := a rfl; exact ⟨a, by omega, c⟩
        · rintro ⟨a, b, c⟩; exact ⟨a, fun h => by omega, c⟩
      · rw [if_neg e] at h1
        constructor
        · rintro ⟨a, b, c⟩; exact ⟨a, by rw [h1]; exact b (by omega), c⟩
        · rintro ⟨a, b, c⟩; exact ⟨a, fun _ => by rw [← h1]; exact b, c⟩
    have HE := (show Hid _ from HE1.out.2)
    have BAD : Hid (¬ ((k = 0 → tf ts k = 0) ∧ l < tf ts k ∧ tf ts k ≤ 10000000000000 ∧ 0 ≤ tr ts k ∧ tr ts k ≤ 1000000000) → terr ts = 3) := fun hb => terr_bad (i := k) (by have := HN.out; omega) (by have := HN.out; omega) (by
      cases e : gdb ts k
      · rfl
      · exact absurd (HE1.out.1 e) hb)
    clear HE1
    have HNX : Hid (tf ts k = if k + 1 = 0 then -1 else tf ts (k + 1 - 1)) := by rw [if_neg (by omega), Nat.add_sub_cancel]; exact rfl
    generalize tf ts k = f at *
    generalize tr ts k = r at *
    by_cases t1 : l < f
    · by_cases t2 : f ≤ 10000000000000
      · by_cases t3 : 0 ≤ r
        · by_cases t4 : r ≤ 1000000000
          · by_cases k0 : k = 0
            · have e1 : ((k : Int) == 0) = true := by simp; omega
              have K0 := (show Hid _ from k0)
              clear k0
              by_cases f0 : f = 0
              · have e2 : (f != 0) = false := by simpa using f0
                have F0 := (show Hid _ from f0)
                clear f0
                go_wp2_with fail
                have G1 : ∀ i, i < k + 1 → gdb ts i = true := by
                  intro i hi
                  obtain rfl : i = k := by have := K0.out; omega
                  exact HE.out ⟨fun _ => F0.out, t1, t2, t3, t4⟩
                exact ⟨⟨k + 1, by omega, by go_num, by rw [HNX.out], G1, HB.out.alloc HB.out.size _⟩, by simp [intOf]; omega⟩
              · have e2 : (f != 0) = true := by simpa using f0
                go_wp2_with fail
                go_ret
                exact ⟨by rw [BAD.out (fun v => f0 (v.1 K0.out))]; rfl, HB.out.alloc HB.out.size _⟩
            · have e1 : ((k : Int) == 0) = false := by simp; omega
              go_wp2_with fail
              have G1 : ∀ i, i < k + 1 → gdb ts i = true := by
                intro i hi
                by_cases e : i = k
                · subst e
                  exact HE.out ⟨fun h => absurd h k0, t1, t2, t3, t4⟩
                · exact HG.out i (by omega)
              exact ⟨⟨k + 1, by omega, by go_num, by rw [HNX.out], G1, HB.out.alloc HB.out.size _⟩, by simp [intOf]; omega⟩
          · by_cases k0 : k = 0
            · have e1 : ((k : Int) == 0) = true := by simp; omega
              have K0 := (show Hid _ from k0)
              clear k0
              by_cases f0 : f = 0
              · have e2 : (f != 0) = false := by simpa using f0
                have F0 := (show Hid _ from f0)
                clear f0
                go_wp2_with fail
                go_ret
                exact ⟨by rw [BAD.out (fun v => by have := v.2; omega)]; rfl, HB.out.alloc HB.out.size _⟩
              · have e2 : (f != 0) = true := by simpa using f0
                go_wp2_with fail
                go_ret
                exact ⟨by rw [BAD.out (fun v => by have := v.2; omega)]; rfl, HB.out.alloc HB.out.size _⟩
            · have e1 : ((k : Int) == 0) = false := by simp; omega
              go_wp2_with fail
              go_ret
              exact ⟨by rw [BAD.out (fun v => by have := v.2; omega)]; rfl, HB.out.alloc HB.out.size _⟩
        · by_cases k0 : k = 0
          · have e1 : ((k : Int) == 0) = true := by simp; omega
            have K0 := (show Hid _ from k0)
            clear k0
            by_cases f0 : f = 0
            · have e2 : (f != 0) = false := by simpa using f0
              have F0 := (show Hid _ from f0)
              clear f0
              go_wp2_with fail
              go_ret
              exact ⟨by rw [BAD.out (fun v => by have := v.2; omega)]; rfl, HB.out.alloc HB.out.size _⟩
            · have e2 : (f != 0) = true := by simpa using f0
              go_wp2_with fail
              go_ret
              exact ⟨by rw [BAD.out (fun v => by have := v.2; omega)]; rfl, HB.out.alloc HB.out.size _⟩
          · have e1 : ((k : Int) == 0) = false := by simp; omega
            go_wp2_with fail
            go_ret
            exact ⟨by rw [BAD.out (fun v => by have := v.2; omega)]; rfl, HB.out.alloc HB.out.size _⟩
      · by_cases k0 : k = 0
        · have e1 : ((k : Int) == 0) = true := by simp; omega
          have K0 := (show Hid _ from k0)
          clear k0
          by_cases f0 : f = 0
          · have e2 : (f != 0) = false := by simpa using f0
            have F0 := (show Hid _ from f0)
            clear f0
            go_wp2_with fail
            go_ret
            exact ⟨by rw [BAD.out (fun v => by have := v.2; omega)]; rfl, HB.out.alloc HB.out.size _⟩
          · have e2 : (f != 0) = true := by simpa using f0
            go_wp2_with fail
            go_ret
            exact ⟨by rw [BAD.out (fun v => by have := v.2; omega)]; rfl, HB.out.alloc HB.out.size _⟩
        · have e1 : ((k : Int) == 0) = false := by simp; omega
          go_wp2_with fail
          go_ret
          exact ⟨by rw [BAD.out (fun v => by have := v.2; omega)]; rfl, HB.out.alloc HB.out.size _⟩
    · by_cases k0 : k = 0
      · have e1 : ((k : Int) == 0) = true := by simp; omega
        have K0 := (show Hid _ from k0)
        clear k0
        by_cases f0 : f = 0
        · have e2 : (f != 0) = false := by simpa using f0
          have F0 := (show Hid _ from f0)
          clear f0
          go_wp2_with fail
          go_ret
          exact ⟨by rw [BAD.out (fun v => by have := v.2; omega)]; rfl, HB.out.alloc HB.out.size _⟩
        · have e2 : (f != 0) = true := by simpa using f0
          go_wp2_with fail
          go_ret
          exact ⟨by rw [BAD.out (fun v => by have := v.2; omega)]; rfl, HB.out.alloc HB.out.size _⟩
      · have e1 : ((k : Int) == 0) = false := by simp; omega
        go_wp2_with fail
        go_ret
        exact ⟨by rw [BAD.out (fun v => by have := v.2; omega)]; rfl, HB.out.alloc HB.out.size _⟩
end Go.Proofs.Ytmaikgebdegkgaa
/- Slices of tiers that come in, opened (taken from Gu). -/
namespace Go.Proofs.Ytmaikgebdegkgaa
open Go.ChangeShapes Go.WideShapes Go.ChangeAt Go.RowKit
set_option linter.unusedVariables false
set_option maxRecDepth 100000

theorem ecellsI : Try.prog.cellsOf 2 = 1 := by kernel_rfl
theorem ecellsT : Try.prog.cellsOf 22 = 1 := by kernel_rfl
theorem ecellsR : Try.prog.cellsOf 25 = 2 := by kernel_rfl
theorem lt_cell {W : World} {b o : Nat} {v : Value} (h : W.cell? ⟨b, o, none⟩ = some v) : b < W.heap.size := World.block_lt_of_cell? W _ h
theorem bd_i64 {n : Int} (h : (Lit.int .i64 n).wf = true) : -9223372036854775808 ≤ n ∧ n ≤ 9223372036854775807 := by simpa [Lit.wf, IntKind.min, IntKind.max, IntKind.signed, IntKind.bits] using h
/-- a tier of two cells -/
theorem came_tier {H : Type} {enc : TypeId × Value → H} {W : World} {fuel : Nat} {cs : List Value} {x : DataW H × List MemPlace} (h : DataW.trod enc Try.prog W 0 (fun _ => true) true fuel 25 cs = some x) :
    ∃ f r, cs = [.int .i64 f, .int .i64 r] ∧ (-9223372036854775808 ≤ f ∧ f ≤ 9223372036854775807) ∧ -9223372036854775808 ≤ r ∧ r ≤ 9223372036854775807 := by
  obtain ⟨xs, n, _, rfl, hl, hlen, hf⟩ := DataW.trod_struct Try.underlying25 h
  rw [ecellsR] at hl
  match cs, hl with
  | [c0, c1], _ =>
    match xs, hlen with
    | [y0, y1], _ =>
      have h0 : DataW.trod enc Try.prog W 0 (fun _ => true) true n 2 (([c0, c1].drop 0).take (Try.prog.cellsOf 2)) = some y0 := hf 0 _ rfl
      have h1 : DataW.trod enc Try.prog W 0 (fun _ => true) true n 2 (([c0, c1].drop 1).take (Try.prog.cellsOf 2)) = some y1 := hf 1 _ rfl
      rw [ecellsI] at h0 h1
      obtain ⟨f, e0, _, w0⟩ := DataW.trod_int Try.underlying2 h0
      obtain ⟨r, e1, _, w1⟩ := DataW.trod_int Try.underlying2 h1
      simp at e0 e1
      exact ⟨f, r, by rw [e0, e1], bd_i64 w0, bd_i64 w1⟩
/-- a list of tiers -/
theorem came_tiers2 {H : Type} {enc : TypeId × Value → H} {W : World} {fuel : Nat} {cs : List Value} {x : DataW H × List MemPlace} (h : DataW.trod enc Try.prog W 0 (fun _ => true) true fuel 22 cs = some x) :
    ∃ v ts, cs = [v] ∧ Tr W v ts ∧ (∀ n c, v = .slice none n c → c = 0) ∧ ((x.1 = .nil ∧ ts = []) ∨ ∃ el sp, x.1 = .slice el sp ∧ el.length = ts.length) := by
  rcases DataW.trod_slice Try.underlying22 h with ⟨hcs, hx⟩ | ⟨a', len, cap, elems, rest, n, _, hcs, hxx, _, hl, hm, hlen, hel, _, _⟩
  · exact ⟨_, [], hcs, ⟨fun t ht => by simp at ht, none, 0, rfl, by simp, by omega, fun h => by simp at h⟩, (fun n c e => by cases e; rfl), Or.inl ⟨by rw [hx], rfl⟩⟩
  · have each : ∀ i, ∃ p : Int × Int, i < len → W.cell? (a'.add (i * 2)) = some (.int .i64 p.1) ∧ W.cell? ((a'.add (i * 2)).add 1) = some (.int .i64 p.2) ∧ ((-9223372036854775808 ≤ p.1 ∧ p.1 ≤ 9223372036854775807) ∧ -9223372036854775808 ≤ p.2 ∧ p.2 ≤ 9223372036854775807) := by
      intro i
      by_cases hi : i < len
      · have h1 := hel i hi
        rw [List.getElem?_eq_getElem (by omega), ecellsR, Option.bind_eq_some_iff] at h1
        obtain ⟨cs', hcs', ht⟩ := h1
        obtain ⟨f, r, rfl, w⟩ := came_tier ht
        obtain ⟨_, _, hc⟩ := World.cells?_some hcs'
        have z0 := hc 0 (by omega)
        have z1 := hc 1 (by omega)
        refine ⟨(f, r), fun _ => ⟨?_, ?_, w⟩⟩
        · simpa [Addr.add] using z0
        · simpa using z1
      · exact ⟨(0, 0), fun h => absurd h hi⟩
    obtain ⟨f, hf⟩ := Classical.skolem.1 each
    have hl2 : ((List.range len).map f).length = len := by simp
    refine ⟨_, (List.range len).map f, hcs, ⟨fun t ht => ?_, some a', cap, by rw [hl2], by omega, by unfold maxLen at hm; omega, fun h0 => ?_⟩, (fun n c e => by cases e), Or.inr ⟨_, _, by rw [hxx], by rw [hl2, List.length_map]; exact hlen⟩⟩
    · obtain ⟨i, hi, rfl⟩ := List.mem_map.1 ht
      exact (hf i (List.mem_range.1 hi)).2.2
    rw [hl2] at h0 ⊢
    obtain ⟨b, off, spot⟩ := a'
    have hspot : spot = none := by simpa [Addr.add] using World.cell?_spot (hf 0 (by omega)).1
    subst hspot
    have hc : ∀ k, k < len → W.cell? ⟨b, off + 2 * k, none⟩ = some (.int .i64 (f k).1) ∧ W.cell? ⟨b, off + 2 * k + 1, none⟩ = some (.int .i64 (f k).2) := fun k hk => by
      have h1 := hf k hk
      rw [add_plain, add_plain, Nat.mul_comm k 2] at h1
      exact ⟨h1.1, h1.2.1⟩
    refine ⟨b, off, rfl, lt_cell (hc 0 (by omega)).1, fun k hk => ?_⟩
    have e : ((List.range len).map f).getD k (0, 0) = f k := by simp [List.getD, hk]
    rw [e]
    exact hc k hk
theorem came_tiersR {H : Type} {enc : TypeId × Value → H} {W : World} {fuel : Nat} {a : Option Addr} {len cap R : Nat} {d : DataW H} {p : List MemPlace} (h : DataW.trod enc Try.prog W 0 (fun _ => true) true fuel 22 (Value.slice a len cap).cells.toList = some (d, p))
    (hR : ∀ n ∈ DataW.weights Try.prog 22 d, n ≤ R) : ∃ ts, Tr W (.slice a len cap) ts ∧ (∀ n c, Value.slice a len cap = .slice none n c → c = 0) ∧ ts.length * 16 ≤ R := by
  obtain ⟨v, ts, e, hT, hno, hwt⟩ := came_tiers2 h
  obtain rfl : v = .slice a len cap := by simpa [Value.cells] using e.symm
  refine ⟨ts, hT, hno, ?_⟩
  rcases hwt with ⟨_, rfl⟩ | ⟨el, sp, e5, e6⟩
  · simp
  · have h9 := hR ((el.length + sp.length) * Try.prog.bytesOf 25) (by
      have e7 : d = .slice el sp := e5
      rw [e7]
      simp [DataW.weights, Try.underlying22])
    rw [show Try.prog.bytesOf 25 = 16 by kernel_rfl] at h9
    rw [← e6]
    omega
end Go.Proofs.Ytmaikgebdegkgaa
