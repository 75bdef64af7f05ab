/- event: the reader: op and tiers, where what is read is of the form. -/
import Derived.Test.YtcognhhbpapibaaDoorEe
namespace Go.Proofs.YtcognhhbpapibaaDoor
open Go.RowKit
set_option linter.unusedVariables false

set_option maxHeartbeats 1000000 in
set_option maxRecDepth 100000 in
theorem op_yes (p o : Nat) (b : Bool) (v : Value) (bs : List Nat) (w : World) (h : Rd w p v b) (hv : Bs w v (o :: bs)) :
    Calls Tryd.prog 34 #[.pointer (some ⟨p, 0, none⟩)] w fun r w' => r = .returned (.int .u8 (o : Int)) ∧ Rd w' p (cutV v 1) b ∧ Upd p w w' := by
  have c0 := h.cell 0 (v := v) rfl
  have f0 := h.free 0
  have HH := (show Hid _ from h)
  obtain ⟨L, hL⟩ : ∃ L, L = (o :: bs).length := ⟨_, rfl⟩
  have hL1 : 1 ≤ L := by rw [hL]; simp
  obtain ⟨bl, off, c, rfl, hlc, hc9, y0⟩ : ∃ bl off c, v = .slice (some ⟨bl, off, none⟩) L c ∧ L ≤ c ∧ c ≤ 9223372036854775807 ∧ w.cell? ⟨bl, off, none⟩ = some (.int .u8 (o : Int)) := by
    obtain ⟨_, a, c, e, h1, h2, _, h4⟩ := hv
    obtain ⟨bl, off, rfl, hb, hx⟩ := h4 (by simp)
    exact ⟨bl, off, c, by rw [hL]; exact e, by rw [hL]; exact h1, h2, by simpa [bt] using hx 0 (by simp)⟩
  have ob := hv.byte o (by simp)
  clear h hv hL
  rw [cutV_sl]
  by_cases hc : c = 1
  · obtain rfl : L = 1 := by omega
    subst hc
    rw [if_pos rfl]
    go_enter Tryd.func34, Tryd.ntmps34
    go_wp2_with fail
    go_ret
    exact ⟨rfl, HH.out.set 0 _, upd_set _ _ _ _⟩
  · rw [if_neg hc]
    go_enter Tryd.func34, Tryd.ntmps34
    go_wp2_with fail
    go_ret
    exact ⟨rfl, HH.out.set 0 _, upd_set _ _ _ _⟩
/-- tiers as cells -/
def tcs (ts : List (Int × Int)) : List Value := ts.flatMap (fun t => [Value.int .i64 t.1, Value.int .i64 t.2])
theorem tcs_len (ts : List (Int × Int)) : (tcs ts).length = 2 * ts.length := by
  induction ts with
  | nil => rfl
  | cons a t ih => simp [tcs] at *; omega
theorem info44 : (Tryd.prog.info? 44).map (fun i => (i.zero, i.size, i.bytes)) = some (some (.agg #[.int .i64 0, .int .i64 0]), 2, 16) := by kernel_rfl
theorem info44_parts : ∃ i, Tryd.prog.info? 44 = some i ∧ i.zero = some (.agg #[.int .i64 0, .int .i64 0]) ∧ i.size = 2 ∧ i.bytes = 16 := by
  obtain ⟨i, hi, hz⟩ := Option.map_eq_some_iff.1 info44
  simp only [Prod.mk.injEq] at hz
  exact ⟨i, hi, hz.1, hz.2.1, hz.2.2⟩
/-- make([]Tier, n) -/
theorem mkT {w : World} {ops : Array Oper} {rest : List Oper} {o : Oper} {a : Act} {Q : Exit → Act → World → Prop} (hgd : o.guard = none) (l c : Operand) (ho : o.op = Op.makeSlice 24 l c)
    (n : Nat) (L : Int) (k : IntKind) (hl : a.eval l = .int k L) (hc : a.eval c = .int k L) (hL : L = n) (hn : n ≤ 8)
    (h : ∀ w', VA w' w.heap.size (tcs (List.replicate n (0, 0))) 44 → Below w.heap.size w w' → wpList Tryd.prog ops Q rest (a.put o.dst (.slice (some ⟨w.heap.size, 0, none⟩) n n)) w') :
    wpList Tryd.prog ops Q (o :: rest) a w := by
  obtain ⟨i0, hi, hz0, hz1, hz2⟩ := info44_parts
  subst hL
  refine wpList_plain hgd fun K hK' => ?_
  have hrun := run_make (P := Tryd.prog) w 24 44 i0 (.agg #[.int .i64 0, .int .i64 0]) Tryd.underlying24 hi hz0 k k (n : Int) (n : Int) (by omega) (by omega) (by rw [hz2]; omega) (by omega)
  unfold Oper.wp
  simp [execOp, ho, hl, hc, hrun, Result.andThen]
  refine hK' _ _ (h _ ⟨?_⟩ ((Below.refl _ _).alloc (Nat.le_refl _) _))
  rw [Go.heap_alloc_new, hz1]
  obtain rfl | rfl | rfl | rfl | rfl | rfl | rfl | rfl | rfl : n = 0 ∨ n = 1 ∨ n = 2 ∨ n = 3 ∨ n = 4 ∨ n = 5 ∨ n = 6 ∨ n = 7 ∨ n = 8 := by omega
  all_goals first | kernel_rfl | (simp [madeCells, tcs]; done)
/-- all blocks but p are as they were; new ones may be there -/
structure Ex (p : Nat) (w w' : World) : Prop where
  os : w'.os = w.os
  tape : w'.tape = w.tape
  output : w'.output = w.output
  size : w.heap.size ≤ w'.heap.size
  block : ∀ k, k < w.heap.size → k ≠ p → w'.heap[k]? = w.heap[k]?
theorem Ex.refl (p : Nat) (w : World) : Ex p w w := ⟨rfl, rfl, rfl, Nat.le_refl _, fun _ _ _ => rfl⟩
theorem Ex.trans {p : Nat} {a b c : World} (h : Ex p a b) (k : Ex p b c) : Ex p a c :=
  ⟨k.os.trans h.os, k.tape.trans h.tape, k.output.trans h.output, Nat.le_trans h.size k.size, fun j hj hp => (k.block j (Nat.lt_of_lt_of_le hj h.size) hp).trans (h.block j hj hp)⟩
theorem Upd.ex {p : Nat} {w w' : World} (h : Upd p w w') : Ex p w w' := ⟨h.os, h.tape, h.output, Nat.le_of_eq h.size.symm, fun k _ hp => h.block k hp⟩
theorem Ex.of_below {p : Nat} {w w' : World} (h : Below w.heap.size w w') : Ex p w w' := ⟨h.os, h.tape, h.output, h.size, fun k hk _ => h.block k hk⟩
/-- a store into a block that is new -/
theorem Ex.set_new {p : Nat} {a w : World} (h : Ex p a w) {g k : Nat} (hg : a.heap.size ≤ g) (u : Value) : Ex p a (w.setCell ⟨g, k, none⟩ u) :=
  ⟨h.os, h.tape, h.output, by simpa using h.size, fun j hj hp => (Go.heap_setCell_other _ _ j _ (by show j ≠ g; omega)).trans (h.block j hj hp)⟩
theorem Ex.below {p B : Nat} {w0 w w' : World} (h : Ex p w w') (k : Below B w0 w) (hp : B ≤ p) (hB : B ≤ w.heap.size) : Below B w0 w' :=
  ⟨h.os.trans k.os, h.tape.trans k.tape, h.output.trans k.output, Nat.le_trans k.size h.size, fun j hj => (h.block j (by omega) (by omega)).trans (k.block j hj)⟩
theorem VA.ex {w w' : World} {p q : Nat} {cs : List Value} {T : TypeId} (h : VA w q cs T) (k : Ex p w w') (hq : q ≠ p) : VA w' q cs T := ⟨by rw [k.block q h.lt hq]; exact h.blk⟩
def t2 (t : Int × Int) : List Nat := enc (zz t.1) ++ enc (zz t.2)
theorem tbs_eq (ts : List (Int × Int)) : ∀ k, k ≤ ts.length → tbs ts k = (ts.take k).flatMap t2
  | 0, _ => by simp [tbs]
  | k + 1, h => by
    have e : ts.getD k (0, 0) = ts[k] := by simp [List.getD, List.getElem?_eq_getElem (show k < ts.length by omega)]
    rw [tbs, tbs_eq ts k (by omega), e, List.take_add_one, List.getElem?_eq_getElem (by omega)]
    simp only [Option.toList, List.flatMap_append, List.flatMap_cons, List.flatMap_nil, List.append_nil, t2, List.append_assoc]
theorem tbs_all (ts : List (Int × Int)) : tbs ts ts.length = ts.flatMap t2 := by rw [tbs_eq ts _ (Nat.le_refl _), List.take_length]
theorem drop_t2 (ts : List (Int × Int)) (j : Nat) (h : j < ts.length) : (ts.drop j).flatMap t2 = t2 (ts.getD j (0, 0)) ++ (ts.drop (j + 1)).flatMap t2 := by
  have e : ts.getD j (0, 0) = ts[j] := by simp [List.getD, h]
  rw [List.drop_eq_getElem_cons h, List.flatMap_cons, e]
theorem tcs_set (ts : List (Int × Int)) (j : Nat) (t : Int × Int) (h : j < ts.length) : tcs (ts.set j t) = ((tcs ts).set (2 * j) (.int .i64 t.1)).set (2 * j + 1) (.int .i64 t.2) := by
  induction ts generalizing j with
  | nil => simp at h
  | cons a ts ih =>
    cases j with
    | zero => simp [tcs]
    | succ j =>
      have := ih j (by simpa using h)
      simp only [List.set_cons_succ]
      show Value.int .i64 a.1 :: Value.int .i64 a.2 :: tcs (ts.set j t) = _
      rw [this]
      show _ = ((Value.int .i64 a.1 :: Value.int .i64 a.2 :: tcs ts).set (2 * (j + 1)) _).set (2 * (j + 1) + 1) _
      rw [show 2 * (j + 1) = 2 * j + 1 + 1 by omega]
      rfl
theorem tcs_get (ts : List (Int × Int)) : ∀ (j : Nat), j < ts.length → (tcs ts)[2 * j]? = some (.int .i64 (ts.getD j (0, 0)).1) ∧ (tcs ts)[2 * j + 1]? = some (.int .i64 (ts.getD j (0, 0)).2) := by
  induction ts with
  | nil => intro j h; simp at h
  | cons a ts ih =>
    intro j h
    cases j with
    | zero => exact ⟨rfl, rfl⟩
    | succ j =>
      have := ih j (by simpa using h)
      show (Value.int .i64 a.1 :: Value.int .i64 a.2 :: tcs ts)[2 * (j + 1)]? = _ ∧ (Value.int .i64 a.1 :: Value.int .i64 a.2 :: tcs ts)[2 * (j + 1) + 1]? = _
      rw [show 2 * (j + 1) = 2 * j + 1 + 1 by omega]
      simpa using this
/-- a row of tiers known whole -/
theorem va_tr {w : World} {g n : Nat} {ts : List (Int × Int)} (h : VA w g (tcs ts) 44) (hl : ts.length = n) (hn : n ≤ 1000) (wf : ∀ t ∈ ts, I64 t.1 ∧ I64 t.2) : Tr w (.slice (some ⟨g, 0, none⟩) n n) ts := by
  subst hl
  refine ⟨wf, some ⟨g, 0, none⟩, ts.length, rfl, Nat.le_refl _, by omega, fun _ => ⟨g, 0, rfl, h.lt, fun k hk => ?_⟩⟩
  rw [Nat.zero_add]
  exact ⟨h.cell _ (tcs_get ts k hk).1, h.cell _ (tcs_get ts k hk).2⟩
end Go.Proofs.YtcognhhbpapibaaDoor
