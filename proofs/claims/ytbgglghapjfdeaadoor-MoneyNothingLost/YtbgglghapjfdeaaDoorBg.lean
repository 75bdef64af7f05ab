/- money: the example of awake: Split of 100 by three equal weights, to its end. -/
import Derived.Test.YtbgglghapjfdeaaDoorBf
namespace Go.Proofs.YtbgglghapjfdeaaDoor
open Go.RowKit
set_option linter.unusedVariables false

/-- make of three -/
theorem mk3 {w : World} {ops : Array Oper} {rest : List Oper} {o : Oper} {a : Act} {Q : Exit → Act → World → Prop} (hgd : o.guard = none) (T e : TypeId) (l c : Operand) (ho : o.op = Op.makeSlice T l c) (hu : Tryd.prog.underlying T = some (.slice e)) (z : Value) (sz by_ : Nat)
    (hz : (Tryd.prog.info? e).map (fun i => (i.zero, i.size, i.bytes)) = some (some z, sz, by_)) (hby : by_ ≤ 100) (cs : List Value) (hcs : madeCells z.cells (3 * sz) = cs.toArray) (hl : a.eval l = .int .i64 3) (hc : a.eval c = .int .i64 3)
    (h : ∀ w', VA w' w.heap.size cs e → Below w.heap.size w w' → wpList Tryd.prog ops Q rest (a.put o.dst (.slice (some ⟨w.heap.size, 0, none⟩) 3 3)) w') : wpList Tryd.prog ops Q (o :: rest) a w := by
  obtain ⟨i0, hi, hz'⟩ := Option.map_eq_some_iff.1 hz
  simp only [Prod.mk.injEq] at hz'
  obtain ⟨z1, z2, z3⟩ := hz'
  refine wpList_plain hgd fun K hK' => ?_
  have hrun := run_make (P := Tryd.prog) w T e i0 z hu hi z1 .i64 .i64 3 3 (by omega) (by omega) (by rw [z3]; omega) (by omega)
  unfold Oper.wp
  simp [execOp, ho, hl, hc, hrun, Result.andThen]
  refine hK' _ _ (h _ ⟨?_⟩ ((Below.refl _ _).alloc (Nat.le_refl _) _))
  rw [Go.heap_alloc_new, z2, ← hcs]
/-- all blocks but p are as they were; new ones may be there -/
structure Ex1 (p : Nat) (w w' : World) : Prop where
  os : w'.os = w.os
  tape : w'.tape = w.tape
  output : w'.output = w.output
  size : w.heap.size ≤ w'.heap.size
  block : ∀ k, k < w.heap.size → k ≠ p → w'.heap[k]? = w.heap[k]?
theorem Ex1.of_bel {p : Nat} {a c : World} (k : Below a.heap.size a c) : Ex1 p a c := ⟨k.os, k.tape, k.output, k.size, fun i hi _ => k.block i hi⟩
theorem Ex1.upd {p : Nat} {a b c : World} (h : Ex1 p a b) (k : Upd p b c) : Ex1 p a c := ⟨k.os.trans h.os, k.tape.trans h.tape, k.output.trans h.output, by rw [k.size]; exact h.size, fun i hi hne => (k.block i hne).trans (h.block i hi hne)⟩
theorem Ex1.bel {p B : Nat} {w0 a b : World} (h : Below B w0 a) (k : Ex1 p a b) (hp : B ≤ p) (hB : B ≤ a.heap.size) : Below B w0 b := ⟨k.os.trans h.os, k.tape.trans h.tape, k.output.trans h.output, Nat.le_trans h.size k.size, fun i hi => (k.block i (by omega) (by omega)).trans (h.block i hi)⟩
theorem VA.ex1 {w w' : World} {p q : Nat} {cs : List Value} {T : TypeId} (h : VA w q cs T) (k : Ex1 p w w') (hq : q ≠ p) : VA w' q cs T := ⟨by rw [k.block q h.lt hq]; exact h.blk⟩
theorem infoInt : (Tryd.prog.info? 3).map (fun i => (i.zero, i.size, i.bytes)) = some (some (.int .i64 0), 1, 8) := by kernel_rfl
theorem infoShare : (Tryd.prog.info? 54).map (fun i => (i.zero, i.size, i.bytes)) = some (some (.agg #[.int .u64 0, .int .u64 0]), 2, 16) := by kernel_rfl
theorem infoMoney : (Tryd.prog.info? 23).map (fun i => (i.zero, i.size, i.bytes)) = some (some (.agg #[.int .i64 0, .int .i64 0]), 2, 16) := by kernel_rfl
def shl2 : List Value := [.int .u64 34, .int .u64 1, .int .u64 33, .int .u64 1, .int .u64 33, .int .u64 1]
set_option maxHeartbeats 4000000 in
set_option maxRecDepth 100000 in
theorem handOut3 (L : Nat) (w : World) (VL : VA w L shl 54) : Calls Tryd.prog 33 #[.int .u64 1, .slice (some ⟨L, 0, none⟩) 3 3] w fun e w' => e = .returned (.tuple #[]) ∧ VA w' L shl2 54 ∧ Ex1 L w w' := by
  have VB_0 := (show Hid _ from va_new w [.slice (some ⟨L, 0, none⟩) 3 3] 51)
  have VL_0 := (show Hid _ from VL.alloc (.cells ([.slice (some ⟨L, 0, none⟩) 3 3] : List Value).toArray 51))
  have BB_0 := (show Hid _ from (Below.refl w.heap.size w).alloc (Nat.le_refl _) (.cells ([.slice (some ⟨L, 0, none⟩) 3 3] : List Value).toArray 51))
  have hL : L < w.heap.size := VL.lt
  clear VL
  go_enter Tryd.func33, Tryd.ntmps33
  obtain ⟨q, hq⟩ : ∃ q, q = w.heap.size + 1 := ⟨_, rfl⟩
  have eS : (w.alloc (.cells ([.slice (some ⟨L, 0, none⟩) 3 3] : List Value).toArray 51)).heap.size = q := by rw [hq]; simp
  go_upto_region 2 with (refine mk3 rfl 93 3 _ _ rfl Tryd.underlying93 (.int .i64 0) 1 8 infoInt (by decide) (ci [0, 0, 0]) (by kernel_rfl) (by rfl) (by rfl) ?_; intro w1 v1 b1; have VQ_1 := (show Hid _ from v1); have VB_1 := (show Hid _ from VB_0.out.step b1); have VL_1 := (show Hid _ from VL_0.out.step b1); have BB_1 := (show Hid _ from BB_0.out.trans (b1.mono BB_0.out.size)); clear v1 b1 VB_0 VL_0 BB_0)
  have VQ_1 : Hid (VA w1 q (ci [0, 0, 0]) 3) := by rw [← eS]; exact VQ_1
  have HQE := (show Hid _ from hq)
  rw [← hq]
  clear hq eS
  have c0 := VQ_1.out.cell 0 (v := .int .i64 0) rfl
  have c1 := VQ_1.out.cell 1 (v := .int .i64 0) rfl
  have c2 := VQ_1.out.cell 2 (v := .int .i64 0) rfl
  have f0 := VQ_1.out.free 0
  have f1 := VQ_1.out.free 1
  have f2 := VQ_1.out.free 2
  go_wp2_with fail
  refine wp_loop_rounds 4 ?_
  rw [rounds_succ]
  go_wp2_with fail
  rw [rounds_succ]
  go_wp2_with fail
  rw [rounds_succ]
  go_wp2_with fail
  rw [rounds_succ]
  go_wp2_with fail
  clear c0 c1 c2 f0 f1 f2
  have VQ_2 : Hid (VA (((w1.setCell ⟨q, 0, none⟩ (.int .i64 0)).setCell ⟨q, 1, none⟩ (.int .i64 1)).setCell ⟨q, 2, none⟩ (.int .i64 2)) q (ci [0, 1, 2]) 3) := ((VQ_1.out.set 0 (.int .i64 0)).set 1 (.int .i64 1)).set 2 (.int .i64 2)
  have VB_2 := (show Hid _ from ((VB_1.out.set_other (q := q) (by have := HQE.out; omega) 0 (.int .i64 0)).set_other (q := q) (by have := HQE.out; omega) 1 (.int .i64 1)).set_other (q := q) (by have := HQE.out; omega) 2 (.int .i64 2))
  have VL_2 := (show Hid _ from ((VL_1.out.set_other (q := q) (by have := HQE.out; omega) 0 (.int .i64 0)).set_other (q := q) (by have := HQE.out; omega) 1 (.int .i64 1)).set_other (q := q) (by have := HQE.out; omega) 2 (.int .i64 2))
  have BB_2 := (show Hid _ from ((BB_1.out.setCell (p := ⟨q, 0, none⟩) (by have := HQE.out; show _ ≤ q; omega) (.int .i64 0)).setCell (p := ⟨q, 1, none⟩) (by have := HQE.out; show _ ≤ q; omega) (.int .i64 1)).setCell (p := ⟨q, 2, none⟩) (by have := HQE.out; show _ ≤ q; omega) (.int .i64 2))
  clear VQ_1 VB_1 VL_1 BB_1
  generalize ((w1.setCell ⟨q, 0, none⟩ (.int .i64 0)).setCell ⟨q, 1, none⟩ (.int .i64 1)).setCell ⟨q, 2, none⟩ (.int .i64 2) = w2 at *
  refine (sorts3 q w.heap.size L _ VQ_2.out VB_2.out VL_2.out).mono ?_
  rintro e w3 ⟨rfl, b3⟩
  have VQ_3 := (show Hid _ from VQ_2.out.step b3)
  have VB_3 := (show Hid _ from VB_2.out.step b3)
  have VL_3 := (show Hid _ from VL_2.out.step b3)
  have BB_3 := (show Hid _ from BB_2.out.trans (b3.mono BB_2.out.size))
  clear b3 VQ_2 VB_2 VL_2 BB_2
  have q0 := VQ_3.out.cell 0 (v := .int .i64 0) rfl
  have b0 := VB_3.out.cell 0 (v := .slice (some ⟨L, 0, none⟩) 3 3) rfl
  have l0 := VL_3.out.cell 0 (v := .int .u64 33) rfl
  have g0 := VL_3.out.free 0
  go_wp2_with fail
  refine wp_loop_rounds 2 ?_
  rw [rounds_succ]
  go_wp2_with fail
  rw [rounds_succ]
  go_wp2_with fail
  refine bodyPost_end (v := .tuple #[]) (by simp [results, Tryd.results33, go_sem]) rfl ⟨rfl, VL_3.out.set 0 (.int .u64 34), (Ex1.of_bel BB_3.out).upd (upd_set _ _ _ _)⟩
end Go.Proofs.YtbgglghapjfdeaaDoor
