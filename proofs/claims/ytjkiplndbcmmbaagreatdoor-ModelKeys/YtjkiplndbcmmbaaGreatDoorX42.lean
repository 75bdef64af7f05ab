/- texts of the model: Mqr Mqs Mqt Mqu -/
import Derived.Test.YtjkiplndbcmmbaaGreatDoorX41
set_option linter.unusedVariables false
set_option linter.unusedSimpArgs false
set_option maxHeartbeats 16000000
namespace Go.Proofs.YtjkiplndbcmmbaaGreatDoor
open Go.RowKit Go.Maps
theorem fy : (Tryz.prog.info? 2).map (fun i => (i.zero, i.size)) = some (some (.int .i64 0), 1) := by kernel_rfl
theorem mh : (Tryz.prog.info? 31).map (fun i => (i.zero, i.size)) = some (some (.agg mkZ.toArray), 11) := by kernel_rfl
theorem uv : (Tryz.prog.info? 102).map (fun i => (i.zero, i.size)) = some (some (.agg #[.int .i64 0, .int .i64 0]), 2) := by kernel_rfl
theorem fI1 (z0 : Int) : Instr.fill (fun i => some (i * 1, 1)) ((Array.range (1 * 1)).map ((Value.int .i64 0).cells[· % (Value.int .i64 0).cells.size]!)) [(0, Value.int .i64 z0)] = some (#[.int .i64 z0] : Array Value) := by kernel_rfl
theorem rI1 (z0 : Int) (w : World) : (Instr.buildSlice 80 1 #[(0, Value.int .i64 z0)]).run Tryz.prog w = .ok (.slice (some ⟨w.heap.size, 0, none⟩) 1 1) (w.alloc (.cells #[.int .i64 z0] 2)) := by
 obtain ⟨i0, hi, hz⟩ := Option.map_eq_some_iff.1 fy
 simp only [Prod.mk.injEq] at hz
 refine run_buildSlice w 80 2 1 _ _ i0 (.int .i64 0) Tryz.underlying80 hi hz.1 (by rw [hz.2]; decide) (by rw [hz.2]; decide) ?_
 rw [hz.2]
 exact fI1 z0
theorem vI1 (w : World) (z0 : Int) : VA (w.alloc (.cells #[.int .i64 z0] 2)) w.heap.size (([z0] : List Int).map fun n => Value.int .i64 n) 2 := aa w [.int .i64 z0] 2
theorem fI2 (z0 z1 : Int) : Instr.fill (fun i => some (i * 1, 1)) ((Array.range (2 * 1)).map ((Value.int .i64 0).cells[· % (Value.int .i64 0).cells.size]!)) [(0, Value.int .i64 z0), (1, Value.int .i64 z1)] = some (#[.int .i64 z0, .int .i64 z1] : Array Value) := by kernel_rfl
theorem rI2 (z0 z1 : Int) (w : World) : (Instr.buildSlice 80 2 #[(0, Value.int .i64 z0), (1, Value.int .i64 z1)]).run Tryz.prog w = .ok (.slice (some ⟨w.heap.size, 0, none⟩) 2 2) (w.alloc (.cells #[.int .i64 z0, .int .i64 z1] 2)) := by
 obtain ⟨i0, hi, hz⟩ := Option.map_eq_some_iff.1 fy
 simp only [Prod.mk.injEq] at hz
 refine run_buildSlice w 80 2 2 _ _ i0 (.int .i64 0) Tryz.underlying80 hi hz.1 (by rw [hz.2]; decide) (by rw [hz.2]; decide) ?_
 rw [hz.2]
 exact fI2 z0 z1
theorem bI2 {w : World} {o : Oper} {a : Act} {K : Act → World → Prop} {Q : Exit → Act → World → Prop} (o0 o1 : Operand) (ho : o.op = .buildSlice 80 2 #[(0, o0), (1, o1)]) (z0 z1 : Int) (h0 : a.eval o0 = .int .i64 z0) (h1 : a.eval o1 = .int .i64 z1)
  (h : K (a.put o.dst (.slice (some ⟨w.heap.size, 0, none⟩) 2 2)) (w.alloc (.cells #[.int .i64 z0, .int .i64 z1] 2))) : o.wp Tryz.prog a w K Q := by
 obtain ⟨i0, hi, hz⟩ := Option.map_eq_some_iff.1 fy
 simp only [Prod.mk.injEq] at hz
 refine wp_buildSlice 80 2 2 _ ho _ i0 (.int .i64 0) Tryz.underlying80 hi hz.1 (by rw [hz.2]; decide) (by rw [hz.2]; decide) ?_ h
 rw [hz.2]
 simp only [List.map_toArray, List.map_cons, List.map_nil, h0, h1]
 exact fI2 z0 z1
theorem vI2 (w : World) (z0 z1 : Int) : VA (w.alloc (.cells #[.int .i64 z0, .int .i64 z1] 2)) w.heap.size (([z0, z1] : List Int).map fun n => Value.int .i64 n) 2 := aa w [.int .i64 z0, .int .i64 z1] 2
theorem fI3 (z0 z1 z2 : Int) : Instr.fill (fun i => some (i * 1, 1)) ((Array.range (3 * 1)).map ((Value.int .i64 0).cells[· % (Value.int .i64 0).cells.size]!)) [(0, Value.int .i64 z0), (1, Value.int .i64 z1), (2, Value.int .i64 z2)] = some (#[.int .i64 z0, .int .i64 z1, .int .i64 z2] : Array Value) := by kernel_rfl
theorem rI3 (z0 z1 z2 : Int) (w : World) : (Instr.buildSlice 80 3 #[(0, Value.int .i64 z0), (1, Value.int .i64 z1), (2, Value.int .i64 z2)]).run Tryz.prog w = .ok (.slice (some ⟨w.heap.size, 0, none⟩) 3 3) (w.alloc (.cells #[.int .i64 z0, .int .i64 z1, .int .i64 z2] 2)) := by
 obtain ⟨i0, hi, hz⟩ := Option.map_eq_some_iff.1 fy
 simp only [Prod.mk.injEq] at hz
 refine run_buildSlice w 80 2 3 _ _ i0 (.int .i64 0) Tryz.underlying80 hi hz.1 (by rw [hz.2]; decide) (by rw [hz.2]; decide) ?_
 rw [hz.2]
 exact fI3 z0 z1 z2
theorem vI3 (w : World) (z0 z1 z2 : Int) : VA (w.alloc (.cells #[.int .i64 z0, .int .i64 z1, .int .i64 z2] 2)) w.heap.size (([z0, z1, z2] : List Int).map fun n => Value.int .i64 n) 2 := aa w [.int .i64 z0, .int .i64 z1, .int .i64 z2] 2
theorem fI4 (z0 z1 z2 z3 : Int) : Instr.fill (fun i => some (i * 1, 1)) ((Array.range (4 * 1)).map ((Value.int .i64 0).cells[· % (Value.int .i64 0).cells.size]!)) [(0, Value.int .i64 z0), (1, Value.int .i64 z1), (2, Value.int .i64 z2), (3, Value.int .i64 z3)] = some (#[.int .i64 z0, .int .i64 z1, .int .i64 z2, .int .i64 z3] : Array Value) := by kernel_rfl
theorem rI4 (z0 z1 z2 z3 : Int) (w : World) : (Instr.buildSlice 80 4 #[(0, Value.int .i64 z0), (1, Value.int .i64 z1), (2, Value.int .i64 z2), (3, Value.int .i64 z3)]).run Tryz.prog w = .ok (.slice (some ⟨w.heap.size, 0, none⟩) 4 4) (w.alloc (.cells #[.int .i64 z0, .int .i64 z1, .int .i64 z2, .int .i64 z3] 2)) := by
 obtain ⟨i0, hi, hz⟩ := Option.map_eq_some_iff.1 fy
 simp only [Prod.mk.injEq] at hz
 refine run_buildSlice w 80 2 4 _ _ i0 (.int .i64 0) Tryz.underlying80 hi hz.1 (by rw [hz.2]; decide) (by rw [hz.2]; decide) ?_
 rw [hz.2]
 exact fI4 z0 z1 z2 z3
theorem vI4 (w : World) (z0 z1 z2 z3 : Int) : VA (w.alloc (.cells #[.int .i64 z0, .int .i64 z1, .int .i64 z2, .int .i64 z3] 2)) w.heap.size (([z0, z1, z2, z3] : List Int).map fun n => Value.int .i64 n) 2 := aa w [.int .i64 z0, .int .i64 z1, .int .i64 z2, .int .i64 z3] 2
theorem fI8 (z0 z1 z2 z3 z4 z5 z6 z7 : Int) : Instr.fill (fun i => some (i * 1, 1)) ((Array.range (8 * 1)).map ((Value.int .i64 0).cells[· % (Value.int .i64 0).cells.size]!)) [(0, Value.int .i64 z0), (1, Value.int .i64 z1), (2, Value.int .i64 z2), (3, Value.int .i64 z3), (4, Value.int .i64 z4), (5, Value.int .i64 z5), (6, Value.int .i64 z6), (7, Value.int .i64 z7)] = some (#[.int .i64 z0, .int .i64 z1, .int .i64 z2, .int .i64 z3, .int .i64 z4, .int .i64 z5, .int .i64 z6, .int .i64 z7] : Array Value) := by kernel_rfl
theorem rI8 (z0 z1 z2 z3 z4 z5 z6 z7 : Int) (w : World) : (Instr.buildSlice 80 8 #[(0, Value.int .i64 z0), (1, Value.int .i64 z1), (2, Value.int .i64 z2), (3, Value.int .i64 z3), (4, Value.int .i64 z4), (5, Value.int .i64 z5), (6, Value.int .i64 z6), (7, Value.int .i64 z7)]).run Tryz.prog w = .ok (.slice (some ⟨w.heap.size, 0, none⟩) 8 8) (w.alloc (.cells #[.int .i64 z0, .int .i64 z1, .int .i64 z2, .int .i64 z3, .int .i64 z4, .int .i64 z5, .int .i64 z6, .int .i64 z7] 2)) := by
 obtain ⟨i0, hi, hz⟩ := Option.map_eq_some_iff.1 fy
 simp only [Prod.mk.injEq] at hz
 refine run_buildSlice w 80 2 8 _ _ i0 (.int .i64 0) Tryz.underlying80 hi hz.1 (by rw [hz.2]; decide) (by rw [hz.2]; decide) ?_
 rw [hz.2]
 exact fI8 z0 z1 z2 z3 z4 z5 z6 z7
theorem vI8 (w : World) (z0 z1 z2 z3 z4 z5 z6 z7 : Int) : VA (w.alloc (.cells #[.int .i64 z0, .int .i64 z1, .int .i64 z2, .int .i64 z3, .int .i64 z4, .int .i64 z5, .int .i64 z6, .int .i64 z7] 2)) w.heap.size (([z0, z1, z2, z3, z4, z5, z6, z7] : List Int).map fun n => Value.int .i64 n) 2 := aa w [.int .i64 z0, .int .i64 z1, .int .i64 z2, .int .i64 z3, .int .i64 z4, .int .i64 z5, .int .i64 z6, .int .i64 z7] 2
def ECS : List (EV × Value) → List Value
 | [] => []
 | x :: xs => x.1.cells x.2 ++ ECS xs
theorem iV : ∀ (xs : List (EV × Value)) (k : Nat) (x : EV × Value), xs[k]? = some x → ∀ (j : Nat) u, (x.1.cells x.2)[j]? = some u → (ECS xs)[k * 11 + j]? = some u
 | [], k, x, h, j, u, hu => by simp at h
 | y :: ys, 0, x, h, j, u, hu => by
  simp at h
  subst h
  unfold ECS
  rw [Nat.zero_mul, Nat.zero_add, List.getElem?_append_left (List.getElem?_eq_some_iff.1 hu).1]
  exact hu
 | y :: ys, k + 1, x, h, j, u, hu => by
  have h : ys[k]? = some x := by simpa using h
  unfold ECS
  have hl : (y.1.cells y.2).length = 11 := rfl
  rw [List.getElem?_append_right (by rw [hl]; omega), hl, show (k + 1) * 11 + j - 11 = k * 11 + j by omega]
  exact iV ys k x h j u hu
theorem fE3 (e0 : EV) (v0 : Value) (e1 : EV) (v1 : Value) (e2 : EV) (v2 : Value) : Instr.fill (fun i => some (i * 11, 11)) ((Array.range (3 * 11)).map ((Value.agg mkZ.toArray).cells[· % (Value.agg mkZ.toArray).cells.size]!)) [(0, Value.agg (e0.cells v0).toArray), (1, Value.agg (e1.cells v1).toArray), (2, Value.agg (e2.cells v2).toArray)] = some (ECS [(e0, v0), (e1, v1), (e2, v2)]).toArray := by kernel_rfl
theorem bE3 {w : World} {o : Oper} {a : Act} {K : Act → World → Prop} {Q : Exit → Act → World → Prop} (o0 o1 o2 : Operand) (ho : o.op = .buildSlice 70 3 #[(0, o0), (1, o1), (2, o2)]) (e0 : EV) (v0 : Value) (e1 : EV) (v1 : Value) (e2 : EV) (v2 : Value) (h0 : a.eval o0 = .agg (e0.cells v0).toArray) (h1 : a.eval o1 = .agg (e1.cells v1).toArray) (h2 : a.eval o2 = .agg (e2.cells v2).toArray)
  (h : K (a.put o.dst (.slice (some ⟨w.heap.size, 0, none⟩) 3 3)) (w.alloc (.cells (ECS [(e0, v0), (e1, v1), (e2, v2)]).toArray 31))) : o.wp Tryz.prog a w K Q := by
 obtain ⟨i0, hi, hz⟩ := Option.map_eq_some_iff.1 mh
 simp only [Prod.mk.injEq] at hz
 refine wp_buildSlice 70 31 3 _ ho _ i0 (.agg mkZ.toArray) Tryz.underlying70 hi hz.1 (by rw [hz.2]; decide) (by rw [hz.2]; decide) ?_ h
 rw [hz.2]
 simp only [List.map_toArray, List.map_cons, List.map_nil, h0, h1, h2]
 exact fE3 e0 v0 e1 v1 e2 v2
theorem fE6 (e0 : EV) (v0 : Value) (e1 : EV) (v1 : Value) (e2 : EV) (v2 : Value) (e3 : EV) (v3 : Value) (e4 : EV) (v4 : Value) (e5 : EV) (v5 : Value) : Instr.fill (fun i => some (i * 11, 11)) ((Array.range (6 * 11)).map ((Value.agg mkZ.toArray).cells[· % (Value.agg mkZ.toArray).cells.size]!)) [(0, Value.agg (e0.cells v0).toArray), (1, Value.agg (e1.cells v1).toArray), (2, Value.agg (e2.cells v2).toArray), (3, Value.agg (e3.cells v3).toArray), (4, Value.agg (e4.cells v4).toArray), (5, Value.agg (e5.cells v5).toArray)] = some (ECS [(e0, v0), (e1, v1), (e2, v2), (e3, v3), (e4, v4), (e5, v5)]).toArray := by kernel_rfl
theorem bE6 {w : World} {o : Oper} {a : Act} {K : Act → World → Prop} {Q : Exit → Act → World → Prop} (o0 o1 o2 o3 o4 o5 : Operand) (ho : o.op = .buildSlice 70 6 #[(0, o0), (1, o1), (2, o2), (3, o3), (4, o4), (5, o5)]) (e0 : EV) (v0 : Value) (e1 : EV) (v1 : Value) (e2 : EV) (v2 : Value) (e3 : EV) (v3 : Value) (e4 : EV) (v4 : Value) (e5 : EV) (v5 : Value) (h0 : a.eval o0 = .agg (e0.cells v0).toArray) (h1 : a.eval o1 = .agg (e1.cells v1).toArray) (h2 : a.eval o2 = .agg (e2.cells v2).toArray) (h3 : a.eval o3 = .agg (e3.cells v3).toArray) (h4 : a.eval o4 = .agg (e4.cells v4).toArray) (h5 : a.eval o5 = .agg (e5.cells v5).toArray)
  (h : K (a.put o.dst (.slice (some ⟨w.heap.size, 0, none⟩) 6 6)) (w.alloc (.cells (ECS [(e0, v0), (e1, v1), (e2, v2), (e3, v3), (e4, v4), (e5, v5)]).toArray 31))) : o.wp Tryz.prog a w K Q := by
 obtain ⟨i0, hi, hz⟩ := Option.map_eq_some_iff.1 mh
 simp only [Prod.mk.injEq] at hz
 refine wp_buildSlice 70 31 6 _ ho _ i0 (.agg mkZ.toArray) Tryz.underlying70 hi hz.1 (by rw [hz.2]; decide) (by rw [hz.2]; decide) ?_ h
 rw [hz.2]
 simp only [List.map_toArray, List.map_cons, List.map_nil, h0, h1, h2, h3, h4, h5]
 exact fE6 e0 v0 e1 v1 e2 v2 e3 v3 e4 v4 e5 v5
theorem fT1 (f r : Int) : Instr.fill (fun i => some (i * 2, 2)) ((Array.range (1 * 2)).map ((Value.agg #[.int .i64 0, .int .i64 0]).cells[· % (Value.agg #[.int .i64 0, .int .i64 0]).cells.size]!)) [(0, Value.agg #[.int .i64 f, .int .i64 r])] = some (#[.int .i64 f, .int .i64 r] : Array Value) := by kernel_rfl
theorem rT1 (f r : Int) (w : World) : (Instr.buildSlice 29 1 #[(0, Value.agg #[.int .i64 f, .int .i64 r])]).run Tryz.prog w = .ok (.slice (some ⟨w.heap.size, 0, none⟩) 1 1) (w.alloc (.cells #[.int .i64 f, .int .i64 r] 102)) := by
 obtain ⟨i0, hi, hz⟩ := Option.map_eq_some_iff.1 uv
 simp only [Prod.mk.injEq] at hz
 refine run_buildSlice w 29 102 1 _ _ i0 _ Tryz.underlying29 hi hz.1 (by rw [hz.2]; decide) (by rw [hz.2]; decide) ?_
 rw [hz.2]
 exact fT1 f r
def PE : EV := ⟨1, 0, 1, 1, 0, 1, 1, 0, 0, 500, [(0, 36500000)]⟩
theorem uI (w : World) (f r : Int) (hf : I64 f) (hr : I64 r) : OwnT (w.alloc (.cells #[.int .i64 f, .int .i64 r] 102)) w.heap.size (.slice (some ⟨w.heap.size, 0, none⟩) 1 1) [(f, r)] :=
 ⟨fun t ht => by simp at ht; subst ht; exact ⟨hf, hr⟩, rfl, Or.inr ⟨w.heap.size, 1, #[.int .i64 f, .int .i64 r], rfl, Nat.le_refl _, (aa w [.int .i64 f, .int .i64 r] 102).blk, Nat.le_refl _, by unfold maxLen; omega, rfl, rfl⟩⟩
structure Good (M : PM) (e : EV) : Prop where
 ok : e.ok
 op : 1 ≤ e.op ∧ e.op ≤ 11
 form : e.e8.form
 yes : refL M e true = 0
 len : e.ts.length ≤ 8
 fin : e.op = 2 → plc M.al e.n0 = M.al.length
theorem lL {w : World} {B : Nat} {F : FB} {M : PM} {e : EV} (g : Good M e) (hM : MD w B F M) (hcn : M.cnt) (hs : M.seq < 1000000000) (T : TBL w) (hB : 6 ≤ B) {tv : Value} (R : Tr w tv e.ts) (hno : ∀ n c, tv = .slice none n c → c = 0) :
  Calls Tryz.prog 11 #[.pointer (some ⟨F.pm, 0, none⟩), .agg (e.cells tv).toArray] w fun r w' => r = .returned (.bool true) ∧ (∃ F', MD w' B F' (nxt M e) ∧ F'.pm = F.pm) ∧ But (F.reach w B) w w' :=
 nM w B F M hM hcn hs T hB e g.ok tv R hno true (by simp [g.form]) g.op g.yes (by have := g.len; omega) g.fin
def runM (M : PM) (es : List EV) : PM := es.foldl nxt M
theorem iO (M : PM) (es : List EV) {k : Nat} {e : EV} (h : es[k]? = some e) : runM M (es.take (k + 1)) = nxt (runM M (es.take k)) e := by
 obtain ⟨hl, he⟩ := List.getElem?_eq_some_iff.1 h
 unfold runM
 rw [List.take_add_one, h]
 simp
theorem kj (M : PM) (es : List EV) : (runM M es).seq = M.seq + es.length := by
 unfold runM
 induction es generalizing M with
 | nil => simp
 | cons e es ih =>
  rw [List.foldl_cons, ih]
  have : (nxt M e).seq = M.seq + 1 := by show (chg M e).seq + 1 = _; rw [cE]
  rw [this, List.length_cons]
  omega
theorem pY {M : PM} (h : M.cnt) : ∀ (es : List EV), M.seq + es.length ≤ 1000000000 → (runM M es).cnt := by
 intro es
 unfold runM
 induction es generalizing M with
 | nil => intro _; exact h
 | cons e es ih =>
  intro hs
  rw [List.length_cons] at hs
  rw [List.foldl_cons]
  refine ih (gh h (by omega) e) ?_
  have : (nxt M e).seq = M.seq + 1 := by show (chg M e).seq + 1 = _; rw [cE]
  omega
theorem OwnT.keptM {w w' : World} {B B' : Nat} {F : FB} {M : PM} {tv : Value} {ts : List (Int × Int)} (o : OwnT w B' tv ts) (h : MD w B F M) (k : But (F.reach w B) w w') : OwnT w' B' tv ts := by
 refine o.blk' (fun g hg => ?_)
 obtain ⟨cs, e⟩ := o.blkT hg
 have V : VA w g cs.toList 102 := ⟨by simpa using e⟩
 exact k.block g V.lt (h.reach_ty V (by decide))
structure BK (w : World) (B p : Nat) (M : PM) : Prop where
 md : ∃ F, MD w B F M ∧ F.pm = p
 tb : TBL w
 six : 6 ≤ B
 cnt : M.cnt
structure KT (B : Nat) (w w' : World) : Prop where
 va : ∀ {p : Nat} {cs : List Value} {T : TypeId}, VA w p cs T → T ∉ mT → VA w' p cs T
 ot : ∀ {B' : Nat} {v : Value} {ts : List (Int × Int)}, OwnT w B' v ts → OwnT w' B' v ts
 bel : Below B w w'
theorem KT.of {B : Nat} {w w' : World} (k : Below w.heap.size w w') (hB : B ≤ w.heap.size) : KT B w w' := ⟨fun v _ => v.step k, fun o => o.step k, k.mono hB⟩
theorem KT.trans {B : Nat} {a b c : World} (h : KT B a b) (k : KT B b c) : KT B a c := ⟨fun v hT => k.va (h.va v hT) hT, fun o => k.ot (h.ot o), h.bel.trans k.bel⟩
theorem BK.low {w : World} {B p : Nat} {M : PM} (h : BK w B p M) : B ≤ w.heap.size := by
 obtain ⟨F, hM, _⟩ := h.md
 exact hM.lt
theorem BK.step {w w' : World} {B p : Nat} {M : PM} (h : BK w B p M) (k : Below w.heap.size w w') : BK w' B p M := by
 obtain ⟨F, hM, hp⟩ := h.md
 exact ⟨⟨F, hM.step k, hp⟩, h.tb.step k, h.six, h.cnt⟩
theorem BK.upd {w w' : World} {B p q : Nat} {M : PM} {cs : List Value} {T : TypeId} (h : BK w B p M) (v : VA w q cs T) (hT : T ≠ 100 ∧ T ≠ 85 ∧ T ≠ 81 ∧ T ≠ 144 ∧ T ≠ 154 ∧ T ≠ 208 ∧ T ≠ 102) (k : Upd q w w') (hq : 6 ≤ q) : BK w' B p M := by
 obtain ⟨F, hM, hp⟩ := h.md
 exact ⟨⟨F, hM.but k.but (fun i hi => by rw [hi]; exact dO v hT), hp⟩, h.tb.but k.but (fun i hi => by rw [hi]; exact hq), h.six, h.cnt⟩
theorem om (w : World) (T : TBL w) (h6 : 6 ≤ w.heap.size) (d : Int) (h1 : 1 ≤ d) (h2 : d ≤ 3652059) : Calls Tryz.prog 27 #[.int .i64 d] w fun e w' => ∃ p : Nat, e = .returned (.tuple #[.pointer (some ⟨p, 0, none⟩), .int .i64 0]) ∧ BK w' w.heap.size p (bank0 d) ∧ Below w.heap.size w w' := by
 refine (rY w d h1 h2).mono ?_
 rintro e w' ⟨F, rfl, hM, _, _, b⟩
 exact ⟨F.pm, rfl, ⟨⟨F, hM, rfl⟩, T.step b, h6, ⟨by show (0 : Int) ≤ 0; decide, by show (0 : Int) ≤ 0; decide, ⟨by show (0 : Int) ≤ 0; decide, by show (0 : Int) ≤ 2 * 0; decide⟩, ⟨by show (0 : Int) ≤ 0; decide, by show (0 : Int) ≤ _; decide⟩⟩⟩, b⟩
theorem jO {w w' : World} {B : Nat} {F : FB} {M : PM} (h : MD w B F M) (k : But (F.reach w B) w w') : KT B w w' := ⟨fun v hT => v.keptM h k hT, fun o => o.keptM h k, k.below h.lt (fun i hi => h.reach_low hi)⟩
theorem bj {w : World} {B p : Nat} {M : PM} {e : EV} (h : BK w B p M) (g : Good M e) (hs : M.seq < 1000000000) {tv : Value} (R : Tr w tv e.ts) (hno : ∀ n c, tv = .slice none n c → c = 0) :
  Calls Tryz.prog 11 #[.pointer (some ⟨p, 0, none⟩), .agg (e.cells tv).toArray] w fun r w' => r = .returned (.bool true) ∧ BK w' B p (nxt M e) ∧ KT B w w' := by
 obtain ⟨F, hM, rfl⟩ := h.md
 refine (lL g hM h.cnt hs h.tb h.six R hno).mono ?_
 rintro r w' ⟨rfl, ⟨F', h1, h2⟩, k⟩
 exact ⟨rfl, ⟨⟨F', h1, h2⟩, h.tb.keptM hM k h.six, h.six, gh h.cnt hs e⟩, jO hM k⟩
theorem aD {w : World} {B p : Nat} {M : PM} {e : EV} (h : BK w B p M) (he : e.ok) {tv : Value} (R : Tr w tv e.ts) (hno : ∀ n c, tv = .slice none n c → c = 0) (hform : e.e8.form) {want : Int} (hr : refL M e true = want) (hw : want ≠ 0) :
  Calls Tryz.prog 13 #[.pointer (some ⟨p, 0, none⟩), .agg (e.cells tv).toArray, .int .i64 want] w fun r w' => r = .returned (.bool true) ∧ BK w' B p M ∧ KT B w w' := by
 obtain ⟨F, hM, rfl⟩ := h.md
 refine (jT w B F M hM e he tv R hno h.tb true (by simp [hform]) want hr hw).mono ?_
 rintro r w' ⟨rfl, b⟩
 exact ⟨rfl, h.step b, KT.of b h.low⟩
theorem eI {w : World} {B p : Nat} {M : PM} {e : EV} (h : BK w B p M) (he : e.ok) {tv : Value} (R : Tr w tv e.ts) (hno : ∀ n c, tv = .slice none n c → c = 0) {f : Bool} (hform : f = true ↔ e.e8.form) {want : Int} (hr : refL M e f = want) (hw : want ≠ 0) :
  Calls Tryz.prog 19 #[.pointer (some ⟨p, 0, none⟩), .agg (e.cells tv).toArray] w fun r w' => r = .returned (.tuple #[.agg #[.int .u8 0, .int .u64 0, .int .i64 0, .int .i64 0, .int .i64 0, .int .i64 0, .int .i64 0, .int .i64 0, .int .i64 0, .int .i64 0, .slice none 0 0], .int .i64 0, .int .i64 want]) ∧ BK w' B p M ∧ KT B w w' := by
 obtain ⟨F, hM, rfl⟩ := h.md
 subst hr
 refine (mu w B F M hM e he tv R hno h.tb f hform hw).mono ?_
 rintro r w' ⟨rfl, b⟩
 exact ⟨rfl, h.step b, KT.of b h.low⟩
theorem r8 {w : World} {B p : Nat} {M : PM} {e : EV} (h : BK w B p M) (g : Good M e) {tv : Value} (R : Tr w tv e.ts) (hno : ∀ n c, tv = .slice none n c → c = 0) :
  Calls Tryz.prog 19 #[.pointer (some ⟨p, 0, none⟩), .agg (e.cells tv).toArray] w fun r w' => ∃ u, r = .returned (.tuple #[.agg (e.cells u).toArray, .int .i64 e.mv, .int .i64 0]) ∧ OwnT w' w.heap.size u e.ts ∧ BK w' B p M ∧ KT B w w' := by
 obtain ⟨F, hM, rfl⟩ := h.md
 refine (gU w B F M hM e g.ok tv R hno h.tb true (by simp [g.form]) g.yes (by have := g.op; omega) (by have := g.len; omega)).mono ?_
 rintro r w' ⟨⟨u, rfl, o⟩, b⟩
 exact ⟨u, rfl, o, h.step b, KT.of b h.low⟩
theorem ol {w : World} {B p : Nat} {M : PM} {e : EV} (h : BK w B p M) (g : Good M e) (hs : M.seq < 1000000000) {tv : Value} (R : Tr w tv e.ts) (hno : ∀ n c, tv = .slice none n c → c = 0) :
  Calls Tryz.prog 29 #[.pointer (some ⟨p, 0, none⟩), .agg (e.cells tv).toArray] w fun r w' => r = .returned (.int .i64 0) ∧ BK w' B p (nxt M e) ∧ KT B w w' := by
 obtain ⟨F, hM, rfl⟩ := h.md
 refine (ir w B F M hM h.cnt hs h.tb h.six e g.ok tv R hno true (by simp [g.form]) g.op g.yes (by have := g.len; omega) g.fin).mono ?_
 rintro r w' ⟨F', rfl, h1, h2, _, k⟩
 exact ⟨rfl, ⟨⟨F', h1, h2⟩, h.tb.keptM hM k h.six, h.six, gh h.cnt hs e⟩, jO hM k⟩
theorem dw {w : World} {B p : Nat} {M : PM} (h : BK w B p M) {id : Int} {a : PA} (ha : acctO M id = some a) :
  Calls Tryz.prog 14 #[.pointer (some ⟨p, 0, none⟩), .int .i64 id] w fun r w' => r = .returned (.tuple #[.agg a.told.toArray, .int .i64 0]) ∧ BK w' B p M ∧ KT B w w' := by
 obtain ⟨F, hM, rfl⟩ := h.md
 obtain ⟨i, x, hi, hid, _⟩ := hM.acct ha
 refine (jU w B F M hM hi hid).mono ?_
 rintro r w' ⟨rfl, b⟩
 exact ⟨rfl, h.step b, KT.of b h.low⟩
theorem oo {w : World} {B p : Nat} {M : PM} (h : BK w B p M) {s : Int} (hs : M.seq = s) : Calls Tryz.prog 20 #[.pointer (some ⟨p, 0, none⟩)] w fun e w' => e = .returned (.int .i64 s) ∧ w' = w := by
 subst hs
 obtain ⟨F, hM, rfl⟩ := h.md
 exact s5 w B F M hM
theorem tN {w : World} {B p : Nat} {M : PM} (h : BK w B p M) {s : Int} (hs : M.day = s) : Calls Tryz.prog 33 #[.pointer (some ⟨p, 0, none⟩)] w fun e w' => e = .returned (.int .i64 s) ∧ w' = w := by
 subst hs
 obtain ⟨F, hM, rfl⟩ := h.md
 exact rU w B F M hM
theorem az (w : World) : Tr w (.slice none 0 0) [] := (cB w 0).tr
theorem ay : ∀ n c, Value.slice none 0 0 = .slice none n c → c = 0 := fun n c h => by cases h; rfl
theorem mO (d : Int) : (bank0 d).cnt := ⟨by show (0 : Int) ≤ 0; decide, by show (0 : Int) ≤ 0; decide, ⟨by show (0 : Int) ≤ 0; decide, by show (0 : Int) ≤ 2 * 0; decide⟩, ⟨by show (0 : Int) ≤ 0; decide, by show (0 : Int) ≤ _; decide⟩⟩
set_option maxRecDepth 100000 in
theorem dC (w : World) : Calls Tryz.prog 28 #[] w fun r w' => (∃ tv, r = .returned (.agg (PE.cells tv).toArray) ∧ OwnT w' w.heap.size tv [(0, 36500000)]) ∧ Below w.heap.size w w' := by
 have b0 := (Below.refl w.heap.size w).alloc (Nat.le_refl _) (.cells #[.int .u8 0, .int .u64 0, .int .i64 0, .int .i64 0, .int .i64 0, .int .i64 0, .int .i64 0, .int .i64 0, .int .i64 0, .int .i64 0, .slice none 0 0] 31)
 have b1 := b0.alloc (by simp) (.cells #[.int .i64 1, .int .i64 1, .int .i64 0, .int .i64 1, .int .i64 1, .int .i64 0, .int .i64 0, .int .i64 500] 2)
 have HR_0 := hI_ ((aa w mkZ 31).alloc (.cells #[.int .i64 1, .int .i64 1, .int .i64 0, .int .i64 1, .int .i64 1, .int .i64 0, .int .i64 0, .int .i64 500] 2))
 have q := vI8 (w.alloc (.cells #[.int .u8 0, .int .u64 0, .int .i64 0, .int .i64 0, .int .i64 0, .int .i64 0, .int .i64 0, .int .i64 0, .int .i64 0, .int .i64 0, .slice none 0 0] 31)) 1 1 0 1 1 0 0 500
 rw [World.size_alloc] at q
 have HL_0 := hI_ q
 have BB_0 := hI_ b1
 have hb8 := @rI8
 have hb1 := @rT1
 clear b0 b1 q
 go_enter Tryz.func28, Tryz.ntmps28
 go_wp2_with fail
 refine (ap 1 [1, 1, 0, 1, 1, 0, 0, 500] _ (w.heap.size + 1) HL_0.out (by show 8 ≤ 8; decide)).mono ?_
 rintro r w1 ⟨rfl, b1⟩
 have HR_1 : Hid (VA w1 w.heap.size mkZ 31) := HR_0.out.step b1
 have BB_1 : Hid (Below w.heap.size w w1) := BB_0.out.trans (b1.mono BB_0.out.size)
 have bA := (Below.refl w1.heap.size w1).alloc (Nat.le_refl _) (.cells #[.int .u8 0, .int .u64 0, .int .i64 0, .int .i64 0, .int .i64 0, .int .i64 0, .int .i64 0, .int .i64 0, .int .i64 0, .int .i64 0, .slice none 0 0] 31)
 have HV := hI_ (aa w1 mkZ 31)
 have HR_2 := hI_ (HR_1.out.step bA)
 have BB_2 := hI_ (BB_1.out.trans (bA.mono BB_1.out.size))
 have l1 := HR_1.out.lt
 have s1 := BB_1.out.size
 clear b1 bA HR_0 HL_0 BB_0 HR_1 BB_1
 go_upto_region 2 with (refine stA rfl 31 _ _ rfl w1.heap.size (by rfl) mkZ ((mkE 1 [1, 1, 0, 1, 1, 0, 0, 500]).cells (.slice none 0 0)) (by rfl) 31 HV.out ai rfl (ge _ _) ?_; intro w2 v2 u2)
 have HV_2 := hI_ v2
 have HR_3 : Hid (VA w2 w.heap.size mkZ 31) := HR_2.out.upd u2 (by omega)
 have BB_3 : Hid (Below w.heap.size w w2) := u2.bel BB_2.out s1
 clear v2 u2 HV HR_2 BB_2
 have q := uI w2 0 36500000 ⟨by decide, by decide⟩ ⟨by decide, by decide⟩
 have HQ := hI_ q
 have V4 := HV_2.out.alloc (.cells #[.int .i64 0, .int .i64 36500000] 102)
 have b4 := (Below.refl w2.heap.size w2).alloc (Nat.le_refl _) (.cells #[.int .i64 0, .int .i64 36500000] 102)
 have c10 := V4.cell 10 (v := .slice none 0 0) rfl
 have f10 := V4.free 10
 have hbk := V4.blk
 have HV_4 := hI_ V4
 have HR_4 := hI_ (HR_3.out.step b4)
 have BB_4 := hI_ (BB_3.out.trans (b4.mono BB_3.out.size))
 clear q V4 b4
 go_upto_region 3 with fail
 have U := ax (w2.alloc (.cells #[.int .i64 0, .int .i64 36500000] 102)) w1.heap.size 10 (.slice (some ⟨w2.heap.size, 0, none⟩) 1 1)
 have HV_5 : Hid (VA _ w1.heap.size (PE.cells (.slice (some ⟨w2.heap.size, 0, none⟩) 1 1)) 31) := HV_4.out.set 10 (.slice (some ⟨w2.heap.size, 0, none⟩) 1 1)
 have HR_5 := hI_ (HR_4.out.upd U (by omega))
 have HQ_5 := hI_ (OwnT.updV HQ.out HV_4.out (by decide) U)
 have BB_5 := hI_ (U.bel BB_4.out s1)
 have s2 := BB_3.out.size
 clear c10 f10 hbk U HV_2 HR_3 BB_3 HQ HV_4 HR_4 BB_4
 generalize (w2.alloc (.cells #[.int .i64 0, .int .i64 36500000] 102)).setCell ⟨w1.heap.size, 10, none⟩ (.slice (some ⟨w2.heap.size, 0, none⟩) 1 1) = w5 at *
 go_wp2_with (first | (refine ldA rfl 31 _ rfl w1.heap.size (by rfl) _ _ HV_5.out _ Tryz.underlying31 rfl ai ?_) | (refine stA rfl 31 _ _ rfl w.heap.size (by rfl) mkZ (PE.cells (.slice (some ⟨w2.heap.size, 0, none⟩) 1 1)) (by rfl) 31 HR_5.out ai rfl (PE.one ⟨_, _, _, rfl⟩) ?_; intro wf vf uf))
 have hld := run_loadVar_row (P := Tryz.prog) wf w.heap.size 31 31 _ (0, 0) _ vf.blk Tryz.underlying31 rfl ai
 exact bodyPost_ret (v := .agg (PE.cells (.slice (some ⟨w2.heap.size, 0, none⟩) 1 1)).toArray) (by simp [results, Tryz.results28, asAddr, hld, Act.put]) rfl ⟨⟨_, rfl, (OwnT.updV HQ_5.out HR_5.out (by decide) uf).lower s2⟩, uf.bel BB_5.out (Nat.le_refl _)⟩
def PL (k d c lim : Int) : EV := ⟨1, 0, k, d, c, 1, 1, 0, 0, lim, [(0, 36500000)]⟩
def AO (k c d : Int) : PA := ⟨k, k, c, d, true, 0, 0, 0, []⟩
def LB1 (l : Int) : PM := ⟨100, [(PL 1 1 0 l).pv], [], [], fun _ _ => 0, 0, [], false, 0, 0, 1⟩
def LB2 (l m : Int) : PM := ⟨100, [(PL 1 1 0 l).pv, (PL 2 2 0 m).pv], [], [], fun _ _ => 0, 0, [], false, 0, 0, 2⟩
def LB3 (l m : Int) : PM := ⟨100, [(PL 1 1 0 l).pv, (PL 2 2 0 m).pv, (PL 3 1 1 500).pv], [], [], fun _ _ => 0, 0, [], false, 0, 0, 3⟩
def LB4 (l m : Int) : PM := ⟨100, [(PL 1 1 0 l).pv, (PL 2 2 0 m).pv, (PL 3 1 1 500).pv], [AO 1 0 1], [], fun _ _ => 0, 0, [], false, 0, 0, 4⟩
def LB5 (l m : Int) : PM := ⟨100, [(PL 1 1 0 l).pv, (PL 2 2 0 m).pv, (PL 3 1 1 500).pv], [AO 1 0 1, AO 2 0 2], [], fun _ _ => 0, 0, [], false, 0, 0, 5⟩
def LB (l m : Int) : PM := ⟨100, [(PL 1 1 0 l).pv, (PL 2 2 0 m).pv, (PL 3 1 1 500).pv], [AO 1 0 1, AO 2 0 2, AO 3 1 1], [], fun _ _ => 0, 0, [], false, 0, 0, 6⟩
theorem sT : I64 0 := ⟨by decide, by decide⟩
theorem di : I64 1 := ⟨by decide, by decide⟩
theorem vX {k d c lim : Int} (hk : I64 k) (hd : I64 d) (hc : I64 c) (hl : I64 lim) : (PL k d c lim).ok := ⟨by show 1 ≤ 255; decide, by show 0 ≤ _; omega, hk, hd, hc, di, di, sT, sT, hl⟩
theorem so (k d c lim : Int) : (PL k d c lim).e8.form := ⟨by show 1 ≤ 1; decide, by show 1 ≤ 15; decide, by show 1 ≤ most 1; decide, fun i h1 h2 => by have h1 : 8 ≤ i := h1; omega⟩
theorem uK {k d c lim : Int} (hk : 1 ≤ k ∧ k ≤ 1000000000) (hd : 1 ≤ d ∧ d ≤ 2) (hc : 0 ≤ c ∧ c ≤ 3) (hl : 0 ≤ lim ∧ lim ≤ 10000000000000) : chk (PL k d c lim).pv = 0 := by
 have e : (PL k d c lim).pv.inr = true := by
  unfold PV.inr wi PL EV.pv
  simp
  omega
 unfold chk
 rw [if_pos e]
 show terr [(0, 36500000)] = 0
 decide
theorem gj {M : PM} {k d c lim : Int} (hk : 1 ≤ k ∧ k ≤ 1000000000) (hd : 1 ≤ d ∧ d ≤ 2) (hc : 0 ≤ c ∧ c ≤ 3) (hl : 0 ≤ lim ∧ lim ≤ 10000000000000) (h1 : M.keys = []) (h2 : M.uw = false) (h3 : fol M.vs (PL k d c lim).pv = 0) (h4 : M.vs.length < 64) : Good M (PL k d c lim) := by
 refine ⟨vX ⟨by omega, by omega⟩ ⟨by omega, by omega⟩ ⟨by omega, by omega⟩ ⟨by omega, by omega⟩, ⟨by show 1 ≤ 1; decide, by show 1 ≤ 11; decide⟩, so _ _ _ _, ?_, by show 1 ≤ 8; decide, fun h => by cases h⟩
 rw [jj rfl (fun h => by have h : 1 = 12 := h.1; omega) rfl (by unfold usedK; rw [h1]; rfl) h2]
 show wth 0 (addE M.vs (PL k d c lim).pv) = 0
 rw [wth_0]
 refine ⟨rfl, ?_⟩
 unfold addE
 rw [if_neg (fun h => h (uK hk hd hc hl)), if_neg (fun h => h h3), if_neg (by omega)]
theorem gi {M : PM} {k p : Int} (hk : 1 ≤ k ∧ k ≤ 1000000000) (hp : I64 p) (h1 : M.keys = []) (h2 : M.uw = false) (h3 : (verO M p).isSome = true) (h4 : (acctO M k).isSome = false) (h5 : M.al.length < 256) (h6 : plc M.al k = M.al.length) : Good M (mkE 2 [k, p]) := by
 refine ⟨dQ (by decide) (fun n hn => ?_), ⟨by show 1 ≤ 2; decide, by show 2 ≤ 11; decide⟩, aM (by decide) (by decide) (by show 2 ≤ ct.getD 2 0; decide), ?_, by show 0 ≤ 8; decide, fun _ => h6⟩
 ·simp at hn
  rcases hn with rfl | rfl
  ·exact ⟨by omega, by omega⟩
  ·exact hp
 ·rw [jj rfl (fun h => by have := h.1; cases this) rfl (by unfold usedK; rw [h1]; rfl) h2]
  show openL M 0 k p = 0
  unfold openL
  rw [aO (by decide), aO (by decide), wth_0, aO (by decide), h3]
  exact ⟨⟨⟨⟨rfl, beyond_0.2 hk⟩, rfl⟩, h4⟩, by rw [decide_eq_false_iff_not]; omega⟩
theorem rK (l m : Int) (hl : 0 ≤ l ∧ l ≤ 10000000000000) (hm : 0 ≤ m ∧ m ≤ 10000000000000) : Good (bank0 100) (PL 1 1 0 l) ∧ Good (LB1 l) (PL 2 2 0 m) ∧ Good (LB2 l m) (PL 3 1 1 500) ∧ Good (LB3 l m) (mkE 2 [1, 1]) ∧ Good (LB4 l m) (mkE 2 [2, 2]) ∧ Good (LB5 l m) (mkE 2 [3, 3]) := by
 refine ⟨gj (by decide) (by decide) (by decide) hl rfl rfl rfl (by decide), gj (by decide) (by decide) (by decide) hm rfl rfl rfl (by show 1 < 64; decide), gj (by decide) (by decide) (by decide) (by decide) rfl rfl rfl (by show 2 < 64; decide), gi (by decide) ⟨by decide, by decide⟩ rfl rfl rfl rfl (by show 0 < 256; decide) rfl, gi (by decide) ⟨by decide, by decide⟩ rfl rfl rfl rfl (by show 1 < 256; decide) rfl, gi (by decide) ⟨by decide, by decide⟩ rfl rfl rfl rfl (by show 2 < 256; decide) rfl⟩
def LC (l m : Int) : List EV := [PL 1 1 0 l, PL 2 2 0 m, PL 3 1 1 500, mkE 2 [1, 1], mkE 2 [2, 2], mkE 2 [3, 3]]
theorem uA (l m : Int) : runM (bank0 100) (LC l m) = LB l m := rfl
theorem rM {l m : Int} (hl : 0 ≤ l ∧ l ≤ 10000000000000) (hm : 0 ≤ m ∧ m ≤ 10000000000000) : ∀ (k : Nat) e, (LC l m)[k]? = some e → Good (runM (bank0 100) ((LC l m).take k)) e := by
 obtain ⟨g1, g2, g3, g4, g5, g6⟩ := rK l m hl hm
 intro k e h
 have hk : k < 6 := (List.getElem?_eq_some_iff.1 h).1
 have hc : k = 0 ∨ k = 1 ∨ k = 2 ∨ k = 3 ∨ k = 4 ∨ k = 5 := by omega
 rcases hc with rfl | rfl | rfl | rfl | rfl | rfl <;> cases h
 ·exact g1
 ·exact g2
 ·exact g3
 ·exact g4
 ·exact g5
 ·exact g6
theorem tS (M : PM) (e : EV) (h : e.op ≠ 1) : (chg M e).vs = M.vs := eJ (P := fun X => X.vs = M.vs) M e (fun k => absurd k h) (fun _ => rfl) (fun _ => rfl) (fun _ => rfl) (fun _ => rfl) (fun _ => rfl) (fun _ => rfl) (fun _ => rfl) (fun _ => rfl) (fun _ => rfl) (fun _ => rfl) (fun _ => rfl)
theorem rh (M : PM) (e : EV) : (chg M e).day = M.day := eJ (P := fun X => X.day = M.day) M e (fun _ => rfl) (fun _ => rfl) (fun _ => rfl) (fun _ => rfl) (fun _ => rfl) (fun _ => rfl) (fun _ => rfl) (fun _ => rfl) (fun _ => rfl) (fun _ => rfl) (fun _ => rfl) (fun _ => rfl)
theorem tR (M : PM) (e : EV) : (chg M e).uw = M.uw := eJ (P := fun X => X.uw = M.uw) M e (fun _ => rfl) (fun _ => rfl) (fun _ => rfl) (fun _ => rfl) (fun _ => rfl) (fun _ => rfl) (fun _ => rfl) (fun _ => rfl) (fun _ => rfl) (fun _ => rfl) (fun _ => rfl) (fun _ => rfl)
structure S3 (M : PM) (l m : Int) (a1 a2 a3 : PA) (s : Int) : Prop where
 al : M.al = [a1, a2, a3]
 vs : M.vs = (LB l m).vs
 day : M.day = 100
 keys : M.keys = []
 uw : M.uw = false
 cnt : M.cnt
 seq : M.seq = s
 i1 : a1.id = 1
 i2 : a2.id = 2
 i3 : a3.id = 3
theorem uz (l m : Int) : (LB l m).cnt := by
 rw [← uA]
 exact pY (mO 100) _ (by show (0 : Int) + 6 ≤ _; decide)
theorem mx (l m : Int) : S3 (LB l m) l m (AO 1 0 1) (AO 2 0 2) (AO 3 1 1) 6 := ⟨rfl, rfl, rfl, rfl, rfl, uz l m, rfl, rfl, rfl, rfl⟩
theorem S3.a1 {M : PM} {l m : Int} {a1 a2 a3 : PA} {s : Int} (h : S3 M l m a1 a2 a3 s) : acctO M 1 = some a1 := by
 unfold acctO
 rw [h.al, List.find?_cons_of_pos (by simp [h.i1])]
theorem S3.a2 {M : PM} {l m : Int} {a1 a2 a3 : PA} {s : Int} (h : S3 M l m a1 a2 a3 s) : acctO M 2 = some a2 := by
 unfold acctO
 rw [h.al, List.find?_cons_of_neg (by simp [h.i1]), List.find?_cons_of_pos (by simp [h.i2])]
theorem S3.a3 {M : PM} {l m : Int} {a1 a2 a3 : PA} {s : Int} (h : S3 M l m a1 a2 a3 s) : acctO M 3 = some a3 := by
 unfold acctO
 rw [h.al, List.find?_cons_of_neg (by simp [h.i1]), List.find?_cons_of_neg (by simp [h.i2]), List.find?_cons_of_pos (by simp [h.i3])]
theorem S3.v1 {M : PM} {l m : Int} {a1 a2 a3 : PA} {s : Int} (h : S3 M l m a1 a2 a3 s) : (ver M 1).lim = l := by
 unfold ver verO
 rw [h.vs, h.day]
 rfl
theorem S3.v2 {M : PM} {l m : Int} {a1 a2 a3 : PA} {s : Int} (h : S3 M l m a1 a2 a3 s) : (ver M 2).lim = m := by
 unfold ver verO
 rw [h.vs, h.day]
 rfl
theorem S3.next {M : PM} {l m : Int} {a1 a2 a3 : PA} {s : Int} (h : S3 M l m a1 a2 a3 s) {e : EV} (hk : e.key = 0) (hop : e.op ≠ 1) (hs : s < 1000) {b1 b2 b3 : PA} (ha : (chg M e).al = [b1, b2, b3]) (j1 : b1.id = 1) (j2 : b2.id = 2) (j3 : b3.id = 3) : S3 (nxt M e) l m b1 b2 b3 (s + 1) := by
 refine ⟨ha, (tS M e hop).trans h.vs, (rh M e).trans h.day, ?_, (tR M e).trans h.uw, gh h.cnt (by rw [h.seq]; omega) e, ?_, j1, j2, j3⟩
 ·show useL (chg M e).keys e.key = []
  rw [hk, dN, h.keys]
  rfl
 ·show (chg M e).seq + 1 = s + 1
  rw [cE, h.seq]
theorem fY {a b : Int} (h1 : I64 a) (h2 : I64 b) : ∀ n ∈ [a, b], I64 n := fun n hn => by simp at hn; rcases hn with rfl | rfl <;> assumption
theorem qO {a b c : Int} (h1 : I64 a) (h2 : I64 b) (h3 : I64 c) : ∀ n ∈ [a, b, c], I64 n := fun n hn => by simp at hn; rcases hn with rfl | rfl | rfl <;> assumption
theorem vl {a b c d : Int} (h1 : I64 a) (h2 : I64 b) (h3 : I64 c) (h4 : I64 d) : ∀ n ∈ [a, b, c, d], I64 n := fun n hn => by simp at hn; rcases hn with rfl | rfl | rfl | rfl <;> assumption
theorem tl {a : Int} (h1 : I64 a) : ∀ n ∈ [a], I64 n := fun n hn => by simp at hn; subst hn; exact h1
theorem bP {M : PM} {op : Nat} {ns : List Int} (h1 : M.keys = []) (h2 : M.uw = false) (ho : 1 ≤ op ∧ op ≤ 11) : refL M (mkE op ns) true = askL M 0 (mkE op ns) :=
 jj rfl (fun h => by have h : op = 12 := h.1; omega) (by show decide (op = 13 ∨ op = 14 ∨ op = 15) = false; rw [decide_eq_false_iff_not]; omega) (by unfold usedK; rw [h1]; rfl) h2
theorem ck {M : PM} {op : Nat} {ns : List Int} (h1 : M.keys = []) (h2 : M.uw = false) (ho : 3 ≤ op ∧ op ≤ 11) (hn : ∀ n ∈ ns, I64 n) (hl : ns.length ≤ ct.getD op 0) (h : askL M 0 (mkE op ns) = 0) : Good M (mkE op ns) :=
 ⟨dQ (by omega) hn, ⟨by show 1 ≤ op; omega, by show op ≤ 11; omega⟩, aM (by omega) (by omega) hl, (bP h1 h2 ⟨by omega, by omega⟩).trans h, by show 0 ≤ 8; decide, fun k => by have k : op = 2 := k; omega⟩
theorem aE {M : PM} {id k l : Int} {a : PA} (h : acctO M id = some a) (ho : a.opn = true) (hk : a.kind = k) : namedK M l id k = l := by
 unfold namedK
 rw [h]
 simp [ho, hk, whn]
theorem nD {M : PM} {id l : Int} {a : PA} (h : acctO M id = some a) (ho : a.opn = true) : namedK M l id 0 = l := by
 unfold namedK
 rw [h]
 simp [ho, whn]
theorem kN {M : PM} {id : Int} {a : PA} (h : acctO M id = some a) (ho : a.opn = true) : askL M 0 (mkE 3 [id]) = whn 0 (emptyO (some a)) 15 := by
 show whn (namedK M 0 id 0) (emptyO (acctO M id)) 15 = _
 rw [nD h ho, h]
theorem iY {M : PM} {id n : Int} {a : PA} (h : acctO M id = some a) (ho : a.opn = true) (hk : a.kind = 1) (h1 : 1 ≤ n) (h2 : n ≤ 10000000000000) : askL M 0 (mkE 4 [id, n]) = whn 0 (roomO (some a) n) 4 := by
 show whn (namedK M (whn 0 (beyond n 10000000000000) 1) id 1) (roomO (acctO M id) n) 4 = _
 rw [aE h ho hk, h, beyond_0.2 ⟨h1, h2⟩]
 rfl
theorem gu {M : PM} {id n : Int} {a : PA} (h : acctO M id = some a) (ho : a.opn = true) (hk : a.kind = 1) (h1 : 1 ≤ n) (h2 : n ≤ 10000000000000) : askL M 0 (mkE 5 [id, n]) = whn 0 (fundsO M (some a) n) 13 := by
 show whn (namedK M (whn 0 (beyond n 10000000000000) 1) id 1) (fundsO M (acctO M id) n) 13 = _
 rw [aE h ho hk, h, beyond_0.2 ⟨h1, h2⟩]
 rfl
theorem kO {M : PM} {id k n : Int} {a : PA} (h : acctO M id = some a) (ho : a.opn = true) (hk : a.kind = 1) (k1 : 1 ≤ k) (k2 : k ≤ 1000000000) (h1 : 1 ≤ n) (h2 : n ≤ 10000000000000) : askL M 0 (mkE 7 [id, k, n]) = whn (whn (whn 0 (fundsO M (some a) n) 13) (hasO (some a) k) 8) (fullO (some a)) 17 := by
 show holdL M 0 id k n = _
 unfold holdL
 rw [aE h ho hk, h, beyond_0.2 ⟨h1, h2⟩, beyond_0.2 ⟨k1, k2⟩]
 rfl
theorem o8 {M : PM} {id k : Int} {a : PA} (h : acctO M id = some a) (ho : a.opn = true) (hk : a.kind = 1) (k1 : 1 ≤ k) (k2 : k ≤ 1000000000) : askL M 0 (mkE 8 [id, k]) = whn 0 (noO (some a) k) 7 := by
 show freeL M 0 id k = _
 unfold freeL
 rw [aE h ho hk, h, beyond_0.2 ⟨k1, k2⟩]
 rfl
theorem gB {M : PM} {a : PA} {n : Int} (h : n ≤ spend M a) : fundsO M (some a) n = false := by unfold fundsO; rw [decide_eq_false_iff_not]; omega
theorem cJ {M : PM} {a : PA} {n : Int} (h : spend M a < n) : fundsO M (some a) n = true := by unfold fundsO; rw [decide_eq_true_iff]; omega
theorem fl {a : PA} {n : Int} (h0 : -10000000000000 ≤ a.bal + n) (h : a.bal + n ≤ 10000000000000) : roomO (some a) n = false := by
 unfold roomO
 rw [decide_eq_false_iff_not, qD _ ⟨by omega, by omega⟩]
 omega
theorem S3.sp1 {M : PM} {l m : Int} {a1 a2 a3 : PA} {s : Int} (h : S3 M l m a1 a2 a3 s) (hp : a1.prod = 1) : spend M a1 = a1.bal + l - a1.held := by
 unfold spend
 rw [hp, h.v1]
theorem S3.chg1 {M : PM} {l m : Int} {a1 a2 a3 : PA} {s : Int} (h : S3 M l m a1 a2 a3 s) (f : PA → PA) : onA M.al 1 f = [f a1, a2, a3] := by
 unfold onA
 rw [h.al]
 simp [h.i1, h.i2, h.i3]
end Go.Proofs.YtjkiplndbcmmbaaGreatDoor