/- Texts of days: the document's Write. -/
import Derived.Test.YtfmmkbhaaifggaaDoorDa
import Derived.Test.YtfmmkbhaaifggaaDoorCg
import Derived.Test.YtfmmkbhaaifggaaDoorGy
import Derived.Deep.Cut
import Derived.Lib.SmallJoins
import Derived.Laws.BytesArg
namespace Go.Proofs.YtfmmkbhaaifggaaDoor
open Go.RowKit
set_option linter.unusedVariables false
set_option linter.unusedSimpArgs false

/-- a block of ten letters, as a text's bytes are laid -/
structure Tn (w : World) (p : Nat) (cs : List Value) : Prop where
  blk : w.heap[p]? = some (.cells cs.toArray 5 (10, 11))
theorem Tn.cell {w : World} {p : Nat} {cs : List Value} (h : Tn w p cs) (k : Nat) {v : Value} (hv : cs[k]? = some v) : w.cell? ⟨p, k, none⟩ = some v := by
  rw [Go.Joins.cell_of_block h.blk]; simpa using hv
theorem Tn.free {w : World} {p : Nat} {cs : List Value} (h : Tn w p cs) (k : Nat) (hk : k < 10) : w.frozen? ⟨p, k, none⟩ = false := by
  simp [World.frozen?, h.blk]; omega
theorem Tn.set {w : World} {p : Nat} {cs : List Value} (h : Tn w p cs) (k : Nat) (u : Value) : Tn (w.setCell ⟨p, k, none⟩ u) p (cs.set k u) := ⟨by rw [Go.Joins.block_setCell h.blk u]; simp⟩
theorem tn_new (w : World) (cs : List Value) : Tn (w.alloc (.cells cs.toArray 5 (10, 11))) w.heap.size cs := ⟨Go.heap_alloc_new w _⟩
theorem tn_text {w : World} {p : Nat} (x0 x1 x2 x3 x4 x5 x6 x7 x8 x9 : Int) (h : Tn w p [.int .u8 x0, .int .u8 x1, .int .u8 x2, .int .u8 x3, .int .u8 x4, .int .u8 x5, .int .u8 x6, .int .u8 x7, .int .u8 x8, .int .u8 x9]) :
    ∀ dst, Tryd.prog.underlying dst = some .string → (convert 42 dst (.slice (some ⟨p, 0, none⟩) 10 10)).run Tryd.prog w = .ok (.string (strOfNums [x0, x1, x2, x3, x4, x5, x6, x7, x8, x9])) w := by
  refine run_convert_bytes_arg w 42 5 (by kernel_rfl) (by kernel_rfl) p 0 10 10 _ rfl ?_
  intro i hi
  rw [Nat.zero_add]
  match i, hi with
  | 0, _ => exact h.cell 0 rfl
  | 1, _ => exact h.cell 1 rfl
  | 2, _ => exact h.cell 2 rfl
  | 3, _ => exact h.cell 3 rfl
  | 4, _ => exact h.cell 4 rfl
  | 5, _ => exact h.cell 5 rfl
  | 6, _ => exact h.cell 6 rfl
  | 7, _ => exact h.cell 7 rfl
  | 8, _ => exact h.cell 8 rfl
  | 9, _ => exact h.cell 9 rfl
set_option maxHeartbeats 4000000 in
theorem rWrite_ok (n : Int) (y m d : Nat) (w : World) (D : Date n y m d) :
    Calls Tryd.prog 9 #[.int .i64 n] w fun e w' => e = .returned (.string (txt y m d)) ∧ Below w.heap.size w w' := by
  have hC := rCivil_ok n y m d w D
  obtain ⟨hy1, hy2, hm1, hm2, hd1, hd2, he⟩ := id D
  have h31 := D.d31
  clear hd2 he D
  go_enter Tryd.func9, Tryd.ntmps9
  go_wp2_with fail
  refine hC.mono ?_
  rintro e w1 ⟨rfl, b1⟩
  obtain rfl := b1.symm
  clear hC b1
  have hcv := Go.Lib.run_convert_bytes_const (P := Tryd.prog) w 42 5 #[.int .u8 48, .int .u8 48, .int .u8 48, .int .u8 48, .int .u8 45, .int .u8 48, .int .u8 48, .int .u8 45, .int .u8 48, .int .u8 48] 10 10 (by kernel_rfl) (by kernel_rfl)
  go_upto_region 3 with fail
  have T0 := tn_new w [.int .u8 48, .int .u8 48, .int .u8 48, .int .u8 48, .int .u8 45, .int .u8 48, .int .u8 48, .int .u8 45, .int .u8 48, .int .u8 48]
  have BB := (Below.refl w.heap.size w).alloc (Nat.le_refl _) (.cells #[.int .u8 48, .int .u8 48, .int .u8 48, .int .u8 48, .int .u8 45, .int .u8 48, .int .u8 48, .int .u8 45, .int .u8 48, .int .u8 48] 5 (10, 11))
  clear hcv
  obtain ⟨p, hp⟩ : ∃ p, p = w.heap.size := ⟨_, rfl⟩
  have HP : Hid (w.heap.size ≤ p) := (by omega : w.heap.size ≤ p)
  change Tn (w.alloc (.cells #[.int .u8 48, .int .u8 48, .int .u8 48, .int .u8 48, .int .u8 45, .int .u8 48, .int .u8 48, .int .u8 45, .int .u8 48, .int .u8 48] 5 (10, 11))) w.heap.size _ at T0
  generalize w.alloc (.cells #[.int .u8 48, .int .u8 48, .int .u8 48, .int .u8 48, .int .u8 45, .int .u8 48, .int .u8 48, .int .u8 45, .int .u8 48, .int .u8 48] 5 (10, 11)) = w0 at *
  have HB0 : Hid (Below w.heap.size w w0) := BB
  clear BB
  rw [← hp] at T0
  simp only [← hp]
  clear hp
  go_wp2_with fail
  refine wp_loop_rounds 5 ?_
  rw [rounds_succ]
  have c := T0.cell 3 (v := .int .u8 48) rfl
  have f := T0.free 3 (by decide)
  go_wp2_with fail
  have T1 := T0.set 3 (.int .u8 (48 + (y : Int) % 10))
  simp only [List.set_cons_zero, List.set_cons_succ] at T1
  have HB1 : Hid (Below w.heap.size w (w0.setCell ⟨p, 3, none⟩ (.int .u8 (48 + (y : Int) % 10)))) := Below.setCell HB0.out HP.out _
  clear T0 HB0 c f
  generalize w0.setCell ⟨p, 3, none⟩ (.int .u8 (48 + (y : Int) % 10)) = w1 at *
  obtain ⟨y1, q0⟩ : ∃ k : Nat, k = y / 10 := ⟨_, rfl⟩
  have r0 : (y : Int) / 10 = (y1 : Int) := by omega
  simp only [r0]
  have Q0 : Hid (y1 = y / 10) := q0
  have z0 : (y1 : Int) ≤ 9999 := by omega
  clear q0 r0
  rw [rounds_succ]
  have c := T1.cell 2 (v := .int .u8 48) rfl
  have f := T1.free 2 (by decide)
  go_wp2_with fail
  have T2 := T1.set 2 (.int .u8 (48 + (y1 : Int) % 10))
  simp only [List.set_cons_zero, List.set_cons_succ] at T2
  have HB2 : Hid (Below w.heap.size w (w1.setCell ⟨p, 2, none⟩ (.int .u8 (48 + (y1 : Int) % 10)))) := Below.setCell HB1.out HP.out _
  clear T1 HB1 c f
  generalize w1.setCell ⟨p, 2, none⟩ (.int .u8 (48 + (y1 : Int) % 10)) = w2 at *
  obtain ⟨y2, q1⟩ : ∃ k : Nat, k = y1 / 10 := ⟨_, rfl⟩
  have r1 : (y1 : Int) / 10 = (y2 : Int) := by omega
  simp only [r1]
  have Q1 : Hid (y2 = y1 / 10) := q1
  have z1 : (y2 : Int) ≤ 9999 := by omega
  clear q1 r1
  rw [rounds_succ]
  have c := T2.cell 1 (v := .int .u8 48) rfl
  have f := T2.free 1 (by decide)
  go_wp2_with fail
  have T3 := T2.set 1 (.int .u8 (48 + (y2 : Int) % 10))
  simp only [List.set_cons_zero, List.set_cons_succ] at T3
  have HB3 : Hid (Below w.heap.size w (w2.setCell ⟨p, 1, none⟩ (.int .u8 (48 + (y2 : Int) % 10)))) := Below.setCell HB2.out HP.out _
  clear T2 HB2 c f
  generalize w2.setCell ⟨p, 1, none⟩ (.int .u8 (48 + (y2 : Int) % 10)) = w3 at *
  obtain ⟨y3, q2⟩ : ∃ k : Nat, k = y2 / 10 := ⟨_, rfl⟩
  have r2 : (y2 : Int) / 10 = (y3 : Int) := by omega
  simp only [r2]
  have Q2 : Hid (y3 = y2 / 10) := q2
  have z2 : (y3 : Int) ≤ 9999 := by omega
  clear q2 r2
  rw [rounds_succ]
  have c := T3.cell 0 (v := .int .u8 48) rfl
  have f := T3.free 0 (by decide)
  go_wp2_with fail
  have T4 := T3.set 0 (.int .u8 (48 + (y3 : Int) % 10))
  simp only [List.set_cons_zero, List.set_cons_succ] at T4
  have HB4 : Hid (Below w.heap.size w (w3.setCell ⟨p, 0, none⟩ (.int .u8 (48 + (y3 : Int) % 10)))) := Below.setCell HB3.out HP.out _
  clear T3 HB3 c f
  generalize w3.setCell ⟨p, 0, none⟩ (.int .u8 (48 + (y3 : Int) % 10)) = w4 at *
  obtain ⟨y4, q3⟩ : ∃ k : Nat, k = y3 / 10 := ⟨_, rfl⟩
  have r3 : (y3 : Int) / 10 = (y4 : Int) := by omega
  simp only [r3]
  have Q3 : Hid (y4 = y3 / 10) := q3
  have z3 : (y4 : Int) ≤ 9999 := by omega
  clear q3 r3
  rw [rounds_succ]
  go_upto_region 8 with fail
  have c := T4.cell 5 (v := .int .u8 48) rfl
  have f := T4.free 5 (by decide)
  go_upto_region 9 with fail
  have T5 := T4.set 5 (.int .u8 (48 + (m : Int) / 10))
  simp only [List.set_cons_zero, List.set_cons_succ] at T5
  have HB5 : Hid (Below w.heap.size w (w4.setCell ⟨p, 5, none⟩ (.int .u8 (48 + (m : Int) / 10)))) := Below.setCell HB4.out HP.out _
  clear T4 HB4 c f
  generalize w4.setCell ⟨p, 5, none⟩ (.int .u8 (48 + (m : Int) / 10)) = w5 at *
  have c := T5.cell 6 (v := .int .u8 48) rfl
  have f := T5.free 6 (by decide)
  go_upto_region 10 with fail
  have T6 := T5.set 6 (.int .u8 (48 + (m : Int) % 10))
  simp only [List.set_cons_zero, List.set_cons_succ] at T6
  have HB6 : Hid (Below w.heap.size w (w5.setCell ⟨p, 6, none⟩ (.int .u8 (48 + (m : Int) % 10)))) := Below.setCell HB5.out HP.out _
  clear T5 HB5 c f
  generalize w5.setCell ⟨p, 6, none⟩ (.int .u8 (48 + (m : Int) % 10)) = w6 at *
  have c := T6.cell 8 (v := .int .u8 48) rfl
  have f := T6.free 8 (by decide)
  go_upto_region 11 with fail
  have T7 := T6.set 8 (.int .u8 (48 + (d : Int) / 10))
  simp only [List.set_cons_zero, List.set_cons_succ] at T7
  have HB7 : Hid (Below w.heap.size w (w6.setCell ⟨p, 8, none⟩ (.int .u8 (48 + (d : Int) / 10)))) := Below.setCell HB6.out HP.out _
  clear T6 HB6 c f
  generalize w6.setCell ⟨p, 8, none⟩ (.int .u8 (48 + (d : Int) / 10)) = w7 at *
  have c := T7.cell 9 (v := .int .u8 48) rfl
  have f := T7.free 9 (by decide)
  go_upto_region 12 with fail
  have T8 := T7.set 9 (.int .u8 (48 + (d : Int) % 10))
  simp only [List.set_cons_zero, List.set_cons_succ] at T8
  have HB8 : Hid (Below w.heap.size w (w7.setCell ⟨p, 9, none⟩ (.int .u8 (48 + (d : Int) % 10)))) := Below.setCell HB7.out HP.out _
  clear T7 HB7 c f
  generalize w7.setCell ⟨p, 9, none⟩ (.int .u8 (48 + (d : Int) % 10)) = w8 at *
  have hx := tn_text _ _ _ _ _ _ _ _ _ _ T8 9 (by kernel_rfl)
  go_wp2_with fail
  go_ret
  refine ⟨?_, HB8.out⟩
  have e0 := Q0.out
  have e1 := Q1.out
  have e2 := Q2.out
  refine congrArg (fun x => Ending.returned (Value.string x)) ?_
  have j3 : ((48 + (y : Int) % 10)).toNat = 48 + y / 10 ^ 0 % 10 := by omega
  have j2 : ((48 + (y1 : Int) % 10)).toNat = 48 + y / 10 ^ 1 % 10 := by omega
  have j1 : ((48 + (y2 : Int) % 10)).toNat = 48 + y / 10 ^ 2 % 10 := by omega
  have j0 : ((48 + (y3 : Int) % 10)).toNat = 48 + y / 10 ^ 3 % 10 := by omega
  have j5 : ((48 + (m : Int) / 10)).toNat = 48 + m / 10 ^ 1 % 10 := by omega
  have j6 : ((48 + (m : Int) % 10)).toNat = 48 + m / 10 ^ 0 % 10 := by omega
  have j8 : ((48 + (d : Int) / 10)).toNat = 48 + d / 10 ^ 1 % 10 := by omega
  have j9 : ((48 + (d : Int) % 10)).toNat = 48 + d / 10 ^ 0 % 10 := by omega
  simp only [strOfNums, List.map_cons, List.map_nil, j0, j1, j2, j3, j5, j6, j8, j9]
  rfl
end Go.Proofs.YtfmmkbhaaifggaaDoor
