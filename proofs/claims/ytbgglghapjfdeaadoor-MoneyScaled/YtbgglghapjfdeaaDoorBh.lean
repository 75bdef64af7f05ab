/- money: the example of awake: shares, checkSplit, Split of 100 by three equal weights. -/
import Derived.Test.YtbgglghapjfdeaaDoorBg
import Derived.Test.YtbgglghapjfdeaaDoorM5
namespace Go.Proofs.YtbgglghapjfdeaaDoor
open Go.RowKit
set_option linter.unusedVariables false

theorem m100 (w : World) : Calls Tryd.prog 31 #[.int .u64 100, .int .u64 1] w fun e w' => e = .returned (.tuple #[.int .u64 0, .int .u64 100]) ∧ w' = w := mul64_any 100 1 w (by decide) (by decide)
theorem d100 (w : World) : Calls Tryd.prog 32 #[.int .u64 0, .int .u64 100, .int .u64 3] w fun e w' => e = .returned (.tuple #[.int .u64 33, .int .u64 1]) ∧ Below w.heap.size w w' := div64_small 100 3 w (by decide) (by decide) (by decide)
theorem infoSh : (Tryd.prog.info? 54).map (·.size) = some 2 := by kernel_rfl
/-- a struct of two cells is loaded out of a row -/
theorem ldM {w : World} {ops : Array Oper} {rest : List Oper} {o : Oper} {a : Act} {Q : Exit → Act → World → Prop} (hgd : o.guard = none) (t : TypeId) (x : Operand) (ho : o.op = .load t x)
    (p off : Nat) (hx : a.eval x = .pointer (some ⟨p, off, none⟩)) (u v : Value) (h0 : w.cell? ⟨p, off, none⟩ = some u) (h1 : w.cell? ⟨p, off + 1, none⟩ = some v) (d : TypeDesc) (hu : Tryd.prog.underlying t = some d) (hd : d.isRow = true) (hi : (Tryd.prog.info? t).map (·.size) = some 2)
    (k : wpList Tryd.prog ops Q rest (a.put o.dst (.agg #[u, v])) w) : wpList Tryd.prog ops Q (o :: rest) a w :=
  wpList_load_mid hgd t x ho p off hx [u, v] d (fun j y hv => by
    match j, hv with
    | 0, hv => simp at hv; subst hv; exact h0
    | 1, hv => simp at hv; subst hv; exact h1) hu hd hi k
set_option maxHeartbeats 4000000 in
set_option maxRecDepth 100000 in
theorem shares3 (p : Nat) (w : World) (V : VA w p (ci [1, 1, 1]) 2) : Calls Tryd.prog 17 #[.int .u64 100, .slice (some ⟨p, 0, none⟩) 3 3] w fun e w' => e = .returned (.slice (some ⟨w.heap.size, 0, none⟩) 3 3) ∧ VA w' w.heap.size shl2 54 ∧ Below w.heap.size w w' := by
  have VP_0 := (show Hid _ from V)
  have hp : p < w.heap.size := V.lt
  clear V
  go_enter Tryd.func17, Tryd.ntmps17
  go_wp2_with fail
  refine (total3 p _ VP_0.out).mono ?_
  rintro e wx ⟨rfl, hq⟩
  obtain rfl := hq.symm
  go_upto_region 4 with (refine mk3 rfl 51 54 _ _ rfl Tryd.underlying51 (.agg #[.int .u64 0, .int .u64 0]) 2 16 infoShare (by decide) [.int .u64 0, .int .u64 0, .int .u64 0, .int .u64 0, .int .u64 0, .int .u64 0] (by kernel_rfl) (by rfl) (by rfl) ?_; intro w1 v1 b1; have VL_1 := (show Hid _ from v1); have VP_1 := (show Hid _ from VP_0.out.step b1); have BB_1 := (show Hid _ from b1); clear v1 b1 VP_0)
  go_wp2_with fail
  refine wp_loop_rounds 4 ?_
  rw [rounds_succ]
  have p0 := VP_1.out.cell 0 (v := .int .i64 1) rfl
  go_wp2_with fail
  clear p0
  refine (m100 _).mono ?_
  rintro e wx ⟨rfl, hq⟩
  obtain rfl := hq.symm
  go_wp2_with fail
  refine (d100 _).mono ?_
  rintro e w2 ⟨rfl, b2⟩
  have VL_2 := (show Hid _ from VL_1.out.step b2)
  have VP_2 := (show Hid _ from VP_1.out.step b2)
  have BB_2 := (show Hid _ from BB_1.out.trans (b2.mono BB_1.out.size))
  clear b2 VL_1 VP_1 BB_1
  have l0 := VL_2.out.cell 0 (v := .int .u64 0) rfl
  have l1 := VL_2.out.cell 1 (v := .int .u64 0) rfl
  have f0 := VL_2.out.free 0
  have f1 := VL_2.out.free 1
  go_wp2_with fail
  clear l0 l1 f0 f1
  have VL_3 : Hid (VA ((w2.setCell ⟨w.heap.size, 0, none⟩ (.int .u64 33)).setCell ⟨w.heap.size, 1, none⟩ (.int .u64 1)) w.heap.size [.int .u64 33, .int .u64 1, .int .u64 0, .int .u64 0, .int .u64 0, .int .u64 0] 54) := (VL_2.out.set 0 (.int .u64 33)).set 1 (.int .u64 1)
  have VP_3 := (show Hid _ from (VP_2.out.set_other (q := w.heap.size) (by omega) 0 (.int .u64 33)).set_other (q := w.heap.size) (by omega) 1 (.int .u64 1))
  have BB_3 := (show Hid _ from (BB_2.out.setCell (p := ⟨w.heap.size, 0, none⟩) (Nat.le_refl _) (.int .u64 33)).setCell (p := ⟨w.heap.size, 1, none⟩) (Nat.le_refl _) (.int .u64 1))
  clear VL_2 VP_2 BB_2
  generalize ((w2.setCell ⟨w.heap.size, 0, none⟩ (.int .u64 33)).setCell ⟨w.heap.size, 1, none⟩ (.int .u64 1)) = w3 at *
  
  rw [rounds_succ]
  have p0 := VP_3.out.cell 1 (v := .int .i64 1) rfl
  go_wp2_with fail
  clear p0
  refine (m100 _).mono ?_
  rintro e wx ⟨rfl, hq⟩
  obtain rfl := hq.symm
  go_wp2_with fail
  refine (d100 _).mono ?_
  rintro e w4 ⟨rfl, b4⟩
  have VL_4 := (show Hid _ from VL_3.out.step b4)
  have VP_4 := (show Hid _ from VP_3.out.step b4)
  have BB_4 := (show Hid _ from BB_3.out.trans (b4.mono BB_3.out.size))
  clear b4 VL_3 VP_3 BB_3
  have l0 := VL_4.out.cell 2 (v := .int .u64 0) rfl
  have l1 := VL_4.out.cell 3 (v := .int .u64 0) rfl
  have f0 := VL_4.out.free 2
  have f1 := VL_4.out.free 3
  go_wp2_with fail
  clear l0 l1 f0 f1
  have VL_5 : Hid (VA ((w4.setCell ⟨w.heap.size, 2, none⟩ (.int .u64 33)).setCell ⟨w.heap.size, 3, none⟩ (.int .u64 1)) w.heap.size [.int .u64 33, .int .u64 1, .int .u64 33, .int .u64 1, .int .u64 0, .int .u64 0] 54) := (VL_4.out.set 2 (.int .u64 33)).set 3 (.int .u64 1)
  have VP_5 := (show Hid _ from (VP_4.out.set_other (q := w.heap.size) (by omega) 2 (.int .u64 33)).set_other (q := w.heap.size) (by omega) 3 (.int .u64 1))
  have BB_5 := (show Hid _ from (BB_4.out.setCell (p := ⟨w.heap.size, 2, none⟩) (Nat.le_refl _) (.int .u64 33)).setCell (p := ⟨w.heap.size, 3, none⟩) (Nat.le_refl _) (.int .u64 1))
  clear VL_4 VP_4 BB_4
  generalize ((w4.setCell ⟨w.heap.size, 2, none⟩ (.int .u64 33)).setCell ⟨w.heap.size, 3, none⟩ (.int .u64 1)) = w5 at *
  
  rw [rounds_succ]
  have p0 := VP_5.out.cell 2 (v := .int .i64 1) rfl
  go_wp2_with fail
  clear p0
  refine (m100 _).mono ?_
  rintro e wx ⟨rfl, hq⟩
  obtain rfl := hq.symm
  go_wp2_with fail
  refine (d100 _).mono ?_
  rintro e w6 ⟨rfl, b6⟩
  have VL_6 := (show Hid _ from VL_5.out.step b6)
  have VP_6 := (show Hid _ from VP_5.out.step b6)
  have BB_6 := (show Hid _ from BB_5.out.trans (b6.mono BB_5.out.size))
  clear b6 VL_5 VP_5 BB_5
  have l0 := VL_6.out.cell 4 (v := .int .u64 0) rfl
  have l1 := VL_6.out.cell 5 (v := .int .u64 0) rfl
  have f0 := VL_6.out.free 4
  have f1 := VL_6.out.free 5
  go_wp2_with fail
  clear l0 l1 f0 f1
  have VL_7 : Hid (VA ((w6.setCell ⟨w.heap.size, 4, none⟩ (.int .u64 33)).setCell ⟨w.heap.size, 5, none⟩ (.int .u64 1)) w.heap.size [.int .u64 33, .int .u64 1, .int .u64 33, .int .u64 1, .int .u64 33, .int .u64 1] 54) := (VL_6.out.set 4 (.int .u64 33)).set 5 (.int .u64 1)
  have VP_7 := (show Hid _ from (VP_6.out.set_other (q := w.heap.size) (by omega) 4 (.int .u64 33)).set_other (q := w.heap.size) (by omega) 5 (.int .u64 1))
  have BB_7 := (show Hid _ from (BB_6.out.setCell (p := ⟨w.heap.size, 4, none⟩) (Nat.le_refl _) (.int .u64 33)).setCell (p := ⟨w.heap.size, 5, none⟩) (Nat.le_refl _) (.int .u64 1))
  clear VL_6 VP_6 BB_6
  generalize ((w6.setCell ⟨w.heap.size, 4, none⟩ (.int .u64 33)).setCell ⟨w.heap.size, 5, none⟩ (.int .u64 1)) = w7 at *
  
  rw [rounds_succ]
  go_wp2_with fail
  refine (handOut3 w.heap.size _ VL_7.out).mono ?_
  rintro e w8 ⟨rfl, v8, x8⟩
  have VL_8 := (show Hid _ from v8)
  have BB_8 := (show Hid _ from Ex1.bel BB_7.out x8 (Nat.le_refl _) BB_7.out.size)
  clear v8 x8 VL_7 VP_7 BB_7
  go_wp2_with fail
  exact bodyPost_ret (v := .slice (some ⟨w.heap.size, 0, none⟩) 3 3) (by simp [results, Tryd.results17, go_sem]) rfl ⟨rfl, VL_8.out, BB_8.out⟩
set_option maxHeartbeats 4000000 in
theorem check3 (p : Nat) (w : World) (V : VA w p (ci [1, 1, 1]) 2) : Calls Tryd.prog 15 #[.agg (mcl 0 100).toArray, .slice (some ⟨p, 0, none⟩) 3 3] w fun e w' => e = .returned (.int .i64 0) ∧ Below w.heap.size w w' := by
  have VP_0 := (show Hid _ from V.alloc (.cells (mcl 0 100).toArray 23))
  have VM_0 := (show Hid _ from va_new w (mcl 0 100) 23)
  have BB_0 := (show Hid _ from (Below.refl w.heap.size w).alloc (Nat.le_refl _) (.cells (mcl 0 100).toArray 23))
  have hp : p < w.heap.size := V.lt
  clear V
  go_enter Tryd.func15, Tryd.ntmps15
  have p0 := VP_0.out.cell 0 (v := .int .i64 1) rfl
  have p1 := VP_0.out.cell 1 (v := .int .i64 1) rfl
  have p2 := VP_0.out.cell 2 (v := .int .i64 1) rfl
  go_upto_region 1 with fail
  change Code.wp _ _ _ _ (w.alloc (.cells (mcl 0 100).toArray 23))
  generalize w.alloc (.cells (mcl 0 100).toArray 23) = wa at *
  go_wp2_with fail
  refine wp_loop_rounds 4 ?_
  rw [rounds_succ]
  go_wp2_with fail
  rw [rounds_succ]
  go_wp2_with fail
  rw [rounds_succ]
  go_wp2_with fail
  rw [rounds_succ]
  clear p0 p1 p2
  go_wp2_with (refine ldA rfl 23 _ rfl w.heap.size (by rfl) (mcl 0 100) _ VM_0.out _ Tryd.underlying23 rfl infoM ?_)
  refine (chk_yes 0 100 _ (by decide)).mono ?_
  rintro e w1 ⟨rfl, b1⟩
  have VP_1 := (show Hid _ from VP_0.out.step b1)
  have BB_1 := (show Hid _ from BB_0.out.trans (b1.mono BB_0.out.size))
  clear b1 VP_0 VM_0 BB_0
  go_wp2_with fail
  refine (total3 p _ VP_1.out).mono ?_
  rintro e wx ⟨rfl, hq⟩
  obtain rfl := hq.symm
  go_wp2_with fail
  exact bodyPost_ret (v := .int .i64 0) (by simp [results, Tryd.results15, go_sem]) rfl ⟨rfl, BB_1.out⟩
set_option maxHeartbeats 4000000 in
set_option maxRecDepth 100000 in
theorem split3 (p : Nat) (w : World) (V : VA w p (ci [1, 1, 1]) 2) : Calls Tryd.prog 7 #[.agg (mcl 0 100).toArray, .slice (some ⟨p, 0, none⟩) 3 3] w fun e w' => (∃ M, e = .returned (.tuple #[.slice (some ⟨M, 0, none⟩) 3 3, .int .i64 0]) ∧ VA w' M [.int .i64 0, .int .i64 34, .int .i64 0, .int .i64 33, .int .i64 0, .int .i64 33] 23) ∧ Below w.heap.size w w' := by
  have VP_0 := (show Hid _ from V.alloc (.cells (mcl 0 100).toArray 23))
  have VM_0 := (show Hid _ from va_new w (mcl 0 100) 23)
  have BB_0 := (show Hid _ from (Below.refl w.heap.size w).alloc (Nat.le_refl _) (.cells (mcl 0 100).toArray 23))
  have hp : p < w.heap.size := V.lt
  clear V
  go_enter Tryd.func7, Tryd.ntmps7
  go_wp2_with (refine ldA rfl 23 _ rfl w.heap.size (by rfl) (mcl 0 100) _ VM_0.out _ Tryd.underlying23 rfl infoM ?_)
  refine (check3 p _ VP_0.out).mono ?_
  rintro e w1 ⟨rfl, b1⟩
  have VP_1 := (show Hid _ from VP_0.out.step b1)
  have VM_1 := (show Hid _ from VM_0.out.step b1)
  have BB_1 := (show Hid _ from BB_0.out.trans (b1.mono BB_0.out.size))
  clear b1 VP_0 VM_0 BB_0
  have m1 := VM_1.out.cell 1 (v := .int .i64 100) rfl
  go_wp2_with fail
  refine (cmp64_ok 100 0 _).mono ?_
  rintro e wx ⟨rfl, hq⟩
  obtain rfl := hq.symm
  rw [show ord 100 0 = 1 from rfl]
  clear m1
  go_upto_region 6 with (refine mk3 rfl 26 23 _ _ rfl Tryd.underlying26 (.agg #[.int .i64 0, .int .i64 0]) 2 16 infoMoney (by decide) [.int .i64 0, .int .i64 0, .int .i64 0, .int .i64 0, .int .i64 0, .int .i64 0] (by kernel_rfl) (by rfl) (by rfl) ?_; intro w2 v2 b2; have VO_2 := (show Hid _ from v2); have VP_2 := (show Hid _ from VP_1.out.step b2); have VM_2 := (show Hid _ from VM_1.out.step b2); have BB_2 := (show Hid _ from BB_1.out.trans (b2.mono BB_1.out.size)); have HM : Hid (w.heap.size < w1.heap.size) := VM_1.out.lt; clear v2 b2 VP_1 VM_1 BB_1)
  generalize w1.heap.size = M at *
  have m1 := VM_2.out.cell 1 (v := .int .i64 100) rfl
  go_wp2_with fail
  clear m1
  refine (shares3 p _ VP_2.out).mono ?_
  rintro e w3 ⟨rfl, v3, b3⟩
  have VS_3 := (show Hid _ from v3)
  have VO_3 := (show Hid _ from VO_2.out.step b3)
  have VM_3 := (show Hid _ from VM_2.out.step b3)
  have BB_3 := (show Hid _ from BB_2.out.trans (b3.mono BB_2.out.size))
  have HNE : Hid (w.heap.size < M ∧ M < w2.heap.size) := ⟨HM.out, VO_2.out.lt⟩
  clear v3 b3 VO_2 VP_2 VM_2 BB_2
  generalize w2.heap.size = S at *
  go_wp2_with fail
  refine wp_loop_rounds 4 ?_
  rw [rounds_succ]
  have s0 := VS_3.out.cell 0 (v := .int .u64 34) rfl
  have s1 := VS_3.out.cell 1 (v := .int .u64 1) rfl
  have sl := VS_3.out.lt
  have m0 := VM_3.out.cell 0 (v := .int .i64 0) rfl
  have ml := VM_3.out.lt
  have o0 := VO_3.out.cell 0 (v := .int .i64 0) rfl
  have o1 := VO_3.out.cell 1 (v := .int .i64 0) rfl
  have g0 := VO_3.out.free 0
  have g1 := VO_3.out.free 1
  have ol := VO_3.out.lt
  go_wp2_with (refine ldM rfl 54 _ rfl S 0 (by rfl) (.int .u64 34) (.int .u64 1) s0 s1 _ Tryd.underlying54 rfl infoSh ?_)
  clear s0 s1 m0 o0 o1 g0 g1
  have VO_4 : Hid (VA (((w3.setCell ⟨M, 0, none⟩ (.int .i64 0)).setCell ⟨M, 1, none⟩ (.int .i64 34)).alloc (.cells #[.int .u64 34, .int .u64 1] 54)) M [.int .i64 0, .int .i64 34, .int .i64 0, .int .i64 0, .int .i64 0, .int .i64 0] 23) := ((VO_3.out.set 0 (.int .i64 0)).set 1 (.int .i64 34)).alloc (.cells #[.int .u64 34, .int .u64 1] 54)
  have VS_4 := (show Hid _ from ((VS_3.out.set_other (q := M) (by have := HNE.out; omega) 0 (.int .i64 0)).set_other (q := M) (by have := HNE.out; omega) 1 (.int .i64 34)).alloc (.cells #[.int .u64 34, .int .u64 1] 54))
  have VM_4 := (show Hid _ from ((VM_3.out.set_other (q := M) (by have := HNE.out; omega) 0 (.int .i64 0)).set_other (q := M) (by have := HNE.out; omega) 1 (.int .i64 34)).alloc (.cells #[.int .u64 34, .int .u64 1] 54))
  have BB_4 := (show Hid _ from ((BB_3.out.setCell (p := ⟨M, 0, none⟩) (by have := HNE.out; show _ ≤ M; omega) (.int .i64 0)).setCell (p := ⟨M, 1, none⟩) (by have := HNE.out; show _ ≤ M; omega) (.int .i64 34)).alloc (by simp; exact BB_3.out.size) (.cells #[.int .u64 34, .int .u64 1] 54))
  clear VO_3 VS_3 VM_3 BB_3 sl ml ol
  generalize (((w3.setCell ⟨M, 0, none⟩ (.int .i64 0)).setCell ⟨M, 1, none⟩ (.int .i64 34)).alloc (.cells #[.int .u64 34, .int .u64 1] 54)) = w4 at *
  generalize w3.heap.size = bx0 at *
  
  rw [rounds_succ]
  have s0 := VS_4.out.cell 2 (v := .int .u64 33) rfl
  have s1 := VS_4.out.cell 3 (v := .int .u64 1) rfl
  have sl := VS_4.out.lt
  have m0 := VM_4.out.cell 0 (v := .int .i64 0) rfl
  have ml := VM_4.out.lt
  have o0 := VO_4.out.cell 2 (v := .int .i64 0) rfl
  have o1 := VO_4.out.cell 3 (v := .int .i64 0) rfl
  have g0 := VO_4.out.free 2
  have g1 := VO_4.out.free 3
  have ol := VO_4.out.lt
  go_wp2_with (refine ldM rfl 54 _ rfl S 2 (by rfl) (.int .u64 33) (.int .u64 1) s0 s1 _ Tryd.underlying54 rfl infoSh ?_)
  clear s0 s1 m0 o0 o1 g0 g1
  have VO_5 : Hid (VA (((w4.setCell ⟨M, 2, none⟩ (.int .i64 0)).setCell ⟨M, 3, none⟩ (.int .i64 33)).alloc (.cells #[.int .u64 33, .int .u64 1] 54)) M [.int .i64 0, .int .i64 34, .int .i64 0, .int .i64 33, .int .i64 0, .int .i64 0] 23) := ((VO_4.out.set 2 (.int .i64 0)).set 3 (.int .i64 33)).alloc (.cells #[.int .u64 33, .int .u64 1] 54)
  have VS_5 := (show Hid _ from ((VS_4.out.set_other (q := M) (by have := HNE.out; omega) 2 (.int .i64 0)).set_other (q := M) (by have := HNE.out; omega) 3 (.int .i64 33)).alloc (.cells #[.int .u64 33, .int .u64 1] 54))
  have VM_5 := (show Hid _ from ((VM_4.out.set_other (q := M) (by have := HNE.out; omega) 2 (.int .i64 0)).set_other (q := M) (by have := HNE.out; omega) 3 (.int .i64 33)).alloc (.cells #[.int .u64 33, .int .u64 1] 54))
  have BB_5 := (show Hid _ from ((BB_4.out.setCell (p := ⟨M, 2, none⟩) (by have := HNE.out; show _ ≤ M; omega) (.int .i64 0)).setCell (p := ⟨M, 3, none⟩) (by have := HNE.out; show _ ≤ M; omega) (.int .i64 33)).alloc (by simp; exact BB_4.out.size) (.cells #[.int .u64 33, .int .u64 1] 54))
  clear VO_4 VS_4 VM_4 BB_4 sl ml ol
  generalize (((w4.setCell ⟨M, 2, none⟩ (.int .i64 0)).setCell ⟨M, 3, none⟩ (.int .i64 33)).alloc (.cells #[.int .u64 33, .int .u64 1] 54)) = w5 at *
  generalize w4.heap.size = bx1 at *
  
  rw [rounds_succ]
  have s0 := VS_5.out.cell 4 (v := .int .u64 33) rfl
  have s1 := VS_5.out.cell 5 (v := .int .u64 1) rfl
  have sl := VS_5.out.lt
  have m0 := VM_5.out.cell 0 (v := .int .i64 0) rfl
  have ml := VM_5.out.lt
  have o0 := VO_5.out.cell 4 (v := .int .i64 0) rfl
  have o1 := VO_5.out.cell 5 (v := .int .i64 0) rfl
  have g0 := VO_5.out.free 4
  have g1 := VO_5.out.free 5
  have ol := VO_5.out.lt
  go_wp2_with (refine ldM rfl 54 _ rfl S 4 (by rfl) (.int .u64 33) (.int .u64 1) s0 s1 _ Tryd.underlying54 rfl infoSh ?_)
  clear s0 s1 m0 o0 o1 g0 g1
  have VO_6 : Hid (VA (((w5.setCell ⟨M, 4, none⟩ (.int .i64 0)).setCell ⟨M, 5, none⟩ (.int .i64 33)).alloc (.cells #[.int .u64 33, .int .u64 1] 54)) M [.int .i64 0, .int .i64 34, .int .i64 0, .int .i64 33, .int .i64 0, .int .i64 33] 23) := ((VO_5.out.set 4 (.int .i64 0)).set 5 (.int .i64 33)).alloc (.cells #[.int .u64 33, .int .u64 1] 54)
  have VS_6 := (show Hid _ from ((VS_5.out.set_other (q := M) (by have := HNE.out; omega) 4 (.int .i64 0)).set_other (q := M) (by have := HNE.out; omega) 5 (.int .i64 33)).alloc (.cells #[.int .u64 33, .int .u64 1] 54))
  have VM_6 := (show Hid _ from ((VM_5.out.set_other (q := M) (by have := HNE.out; omega) 4 (.int .i64 0)).set_other (q := M) (by have := HNE.out; omega) 5 (.int .i64 33)).alloc (.cells #[.int .u64 33, .int .u64 1] 54))
  have BB_6 := (show Hid _ from ((BB_5.out.setCell (p := ⟨M, 4, none⟩) (by have := HNE.out; show _ ≤ M; omega) (.int .i64 0)).setCell (p := ⟨M, 5, none⟩) (by have := HNE.out; show _ ≤ M; omega) (.int .i64 33)).alloc (by simp; exact BB_5.out.size) (.cells #[.int .u64 33, .int .u64 1] 54))
  clear VO_5 VS_5 VM_5 BB_5 sl ml ol
  generalize (((w5.setCell ⟨M, 4, none⟩ (.int .i64 0)).setCell ⟨M, 5, none⟩ (.int .i64 33)).alloc (.cells #[.int .u64 33, .int .u64 1] 54)) = w6 at *
  generalize w5.heap.size = bx2 at *
  
  rw [rounds_succ]
  go_wp2_with fail
  exact bodyPost_ret (v := .tuple #[.slice (some ⟨M, 0, none⟩) 3 3, .int .i64 0]) (by simp [results, Tryd.results7, go_sem]) rfl ⟨⟨M, rfl, VO_6.out⟩, BB_6.out⟩
end Go.Proofs.YtbgglghapjfdeaaDoor
