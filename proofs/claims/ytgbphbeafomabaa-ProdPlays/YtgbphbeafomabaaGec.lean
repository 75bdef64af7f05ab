/- prod: the document's Check, its numbers (3). -/
import Derived.Test.YtgbphbeafomabaaGe
namespace Go.Proofs.Ytgbphbeafomabaa
open Go.RowKit
set_option linter.unusedVariables false

set_option maxHeartbeats 2000000 in
set_option maxRecDepth 100000 in
theorem rcheck_70 (x : PV) (ta : Option Addr) (tn tc : Nat) (w : World) (g0 : wi x.id 1 1000000000 = true) (g1 : wi x.kind 1 2 = true) (g2 : wi x.cur 0 3 = true) (g3 : wi x.day 1 3652059 = true) (g4 : wi x.basis 0 3 = true) (g5 : wi x.mode 0 6 = true) (g6 : wi x.fee 0 10000000000000 = true) (n7 : x.lim < 0) :
    Calls Try.prog 11 #[.agg (x.cells (.slice ta tn tc)).toArray] w fun e w' => e = .returned (.int .i64 1) ∧ Below w.heap.size w w' := by
  have V := va_new w (x.cells (.slice ta tn tc)) 24
  have HD := (show Hid _ from (Below.refl w.heap.size w).alloc (Nat.le_refl _) (.cells (x.cells (.slice ta tn tc)).toArray 24))
  have p0 := V.cell 0 (v := .int .i64 x.id) rfl
  have p1 := V.cell 1 (v := .int .i64 x.kind) rfl
  have p2 := V.cell 2 (v := .int .i64 x.cur) rfl
  have p3 := V.cell 3 (v := .int .i64 x.day) rfl
  have p4 := V.cell 4 (v := .int .i64 x.basis) rfl
  have p5 := V.cell 5 (v := .int .i64 x.mode) rfl
  have p6 := V.cell 6 (v := .int .i64 x.fee) rfl
  have p7 := V.cell 7 (v := .int .i64 x.lim) rfl
  clear V
  obtain ⟨a0, b0⟩ := wi_yes g0
  obtain ⟨a1, b1⟩ := wi_yes g1
  obtain ⟨a4, b4⟩ := wi_yes g4
  obtain ⟨a5, b5⟩ := wi_yes g5
  obtain ⟨a6, b6⟩ := wi_yes g6
  go_enter Try.func11, Try.ntmps11
  go_wp2_with fail
  refine (rcur_ok _ _).mono ?_
  rintro e w1 ⟨rfl, rfl⟩
  rw [g2]
  go_wp2_with fail
  refine (ris_ok _ _).mono ?_
  rintro e w1 ⟨rfl, rfl⟩
  rw [g3]
  go_wp2_with fail
  go_ret
  exact ⟨rfl, HD.out⟩
set_option maxHeartbeats 2000000 in
set_option maxRecDepth 100000 in
theorem rcheck_71 (x : PV) (ta : Option Addr) (tn tc : Nat) (w : World) (g0 : wi x.id 1 1000000000 = true) (g1 : wi x.kind 1 2 = true) (g2 : wi x.cur 0 3 = true) (g3 : wi x.day 1 3652059 = true) (g4 : wi x.basis 0 3 = true) (g5 : wi x.mode 0 6 = true) (g6 : wi x.fee 0 10000000000000 = true) (m7 : 0 ≤ x.lim) (n7 : 10000000000000 < x.lim) :
    Calls Try.prog 11 #[.agg (x.cells (.slice ta tn tc)).toArray] w fun e w' => e = .returned (.int .i64 1) ∧ Below w.heap.size w w' := by
  have V := va_new w (x.cells (.slice ta tn tc)) 24
  have HD := (show Hid _ from (Below.refl w.heap.size w).alloc (Nat.le_refl _) (.cells (x.cells (.slice ta tn tc)).toArray 24))
  have p0 := V.cell 0 (v := .int .i64 x.id) rfl
  have p1 := V.cell 1 (v := .int .i64 x.kind) rfl
  have p2 := V.cell 2 (v := .int .i64 x.cur) rfl
  have p3 := V.cell 3 (v := .int .i64 x.day) rfl
  have p4 := V.cell 4 (v := .int .i64 x.basis) rfl
  have p5 := V.cell 5 (v := .int .i64 x.mode) rfl
  have p6 := V.cell 6 (v := .int .i64 x.fee) rfl
  have p7 := V.cell 7 (v := .int .i64 x.lim) rfl
  clear V
  obtain ⟨a0, b0⟩ := wi_yes g0
  obtain ⟨a1, b1⟩ := wi_yes g1
  obtain ⟨a4, b4⟩ := wi_yes g4
  obtain ⟨a5, b5⟩ := wi_yes g5
  obtain ⟨a6, b6⟩ := wi_yes g6
  go_enter Try.func11, Try.ntmps11
  go_wp2_with fail
  refine (rcur_ok _ _).mono ?_
  rintro e w1 ⟨rfl, rfl⟩
  rw [g2]
  go_wp2_with fail
  refine (ris_ok _ _).mono ?_
  rintro e w1 ⟨rfl, rfl⟩
  rw [g3]
  go_wp2_with fail
  go_ret
  exact ⟨rfl, HD.out⟩
set_option maxHeartbeats 2000000 in
set_option maxRecDepth 100000 in
theorem rcheck_8 (x : PV) (ta : Option Addr) (tn tc : Nat) (w : World) (h : Tr w (.slice ta tn tc) x.ts) (g0 : wi x.id 1 1000000000 = true) (g1 : wi x.kind 1 2 = true) (g2 : wi x.cur 0 3 = true) (g3 : wi x.day 1 3652059 = true) (g4 : wi x.basis 0 3 = true) (g5 : wi x.mode 0 6 = true) (g6 : wi x.fee 0 10000000000000 = true) (g7 : wi x.lim 0 10000000000000 = true) :
    Calls Try.prog 11 #[.agg (x.cells (.slice ta tn tc)).toArray] w fun e w' => e = .returned (.int .i64 (terr x.ts)) ∧ Below w.heap.size w w' := by
  have V := va_new w (x.cells (.slice ta tn tc)) 24
  have HD := (show Hid _ from (Below.refl w.heap.size w).alloc (Nat.le_refl _) (.cells (x.cells (.slice ta tn tc)).toArray 24))
  have p0 := V.cell 0 (v := .int .i64 x.id) rfl
  have p1 := V.cell 1 (v := .int .i64 x.kind) rfl
  have p2 := V.cell 2 (v := .int .i64 x.cur) rfl
  have p3 := V.cell 3 (v := .int .i64 x.day) rfl
  have p4 := V.cell 4 (v := .int .i64 x.basis) rfl
  have p5 := V.cell 5 (v := .int .i64 x.mode) rfl
  have p6 := V.cell 6 (v := .int .i64 x.fee) rfl
  have p7 := V.cell 7 (v := .int .i64 x.lim) rfl
  have p8 := V.cell 8 (v := .slice ta tn tc) rfl
  clear V
  obtain ⟨a0, b0⟩ := wi_yes g0
  obtain ⟨a1, b1⟩ := wi_yes g1
  obtain ⟨a4, b4⟩ := wi_yes g4
  obtain ⟨a5, b5⟩ := wi_yes g5
  obtain ⟨a6, b6⟩ := wi_yes g6
  obtain ⟨a7, b7⟩ := wi_yes g7
  have HT := (show Hid _ from h.step HD.out)
  clear h
  go_enter Try.func11, Try.ntmps11
  go_wp2_with fail
  refine (rcur_ok _ _).mono ?_
  rintro e w1 ⟨rfl, rfl⟩
  rw [g2]
  go_wp2_with fail
  refine (ris_ok _ _).mono ?_
  rintro e w1 ⟨rfl, rfl⟩
  rw [g3]
  go_wp2_with fail
  refine (rtiers_ok _ x.ts _ HT.out).mono ?_
  rintro e w2 ⟨rfl, b2⟩
  go_wp2_with fail
  go_ret
  exact ⟨rfl, HD.out.trans (b2.mono HD.out.size)⟩
end Go.Proofs.Ytgbphbeafomabaa
