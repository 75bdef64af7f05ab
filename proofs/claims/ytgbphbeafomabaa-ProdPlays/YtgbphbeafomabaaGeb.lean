/- prod: the document's Check, its numbers (2). -/
import Derived.Test.YtgbphbeafomabaaGe
namespace Go.Proofs.Ytgbphbeafomabaa
open Go.RowKit
set_option linter.unusedVariables false

set_option maxHeartbeats 2000000 in
set_option maxRecDepth 100000 in
theorem rcheck_50 (x : PV) (ta : Option Addr) (tn tc : Nat) (w : World) (g0 : wi x.id 1 1000000000 = true) (g1 : wi x.kind 1 2 = true) (g2 : wi x.cur 0 3 = true) (g3 : wi x.day 1 3652059 = true) (g4 : wi x.basis 0 3 = true) (n5 : x.mode < 0) :
    Calls Try.prog 11 #[.agg (x.cells (.slice ta tn tc)).toArray] w fun e w' => e = .returned (.int .i64 1) ∧ Below w.heap.size w w' := by
  have V := va_new w (x.cells (.slice ta tn tc)) 24
  have HD := (show Hid _ from (Below.refl w.heap.size w).alloc (Nat.le_refl _) (.cells (x.cells (.slice ta tn tc)).toArray 24))
  have p0 := V.cell 0 (v := .int .i64 x.id) rfl
  have p1 := V.cell 1 (v := .int .i64 x.kind) rfl
  have p2 := V.cell 2 (v := .int .i64 x.cur) rfl
  have p3 := V.cell 3 (v := .int .i64 x.day) rfl
  have p4 := V.cell 4 (v := .int .i64 x.basis) rfl
  have p5 := V.cell 5 (v := .int .i64 x.mode) rfl
  clear V
  obtain ⟨a0, b0⟩ := wi_yes g0
  obtain ⟨a1, b1⟩ := wi_yes g1
  obtain ⟨a4, b4⟩ := wi_yes g4
  go_enter Try.func11, Try.ntmps11
  go_wp2_with fail
  refine (rcur_ok _ _).mono ?_
  rintro e w1 ⟨rfl, rfl⟩
  rw [g2]
  go_wp2_with fail
  refine (ris_ok _ _).mono ?_
  rintro e w1 ⟨rfl, rfl⟩
  rw [g3]
  go_wp2_with fail
  go_ret
  exact ⟨rfl, HD.out⟩
set_option maxHeartbeats 2000000 in
set_option maxRecDepth 100000 in
theorem rcheck_51 (x : PV) (ta : Option Addr) (tn tc : Nat) (w : World) (g0 : wi x.id 1 1000000000 = true) (g1 : wi x.kind 1 2 = true) (g2 : wi x.cur 0 3 = true) (g3 : wi x.day 1 3652059 = true) (g4 : wi x.basis 0 3 = true) (m5 : 0 ≤ x.mode) (n5 : 6 < x.mode) :
    Calls Try.prog 11 #[.agg (x.cells (.slice ta tn tc)).toArray] w fun e w' => e = .returned (.int .i64 1) ∧ Below w.heap.size w w' := by
  have V := va_new w (x.cells (.slice ta tn tc)) 24
  have HD := (show Hid _ from (Below.refl w.heap.size w).alloc (Nat.le_refl _) (.cells (x.cells (.slice ta tn tc)).toArray 24))
  have p0 := V.cell 0 (v := .int .i64 x.id) rfl
  have p1 := V.cell 1 (v := .int .i64 x.kind) rfl
  have p2 := V.cell 2 (v := .int .i64 x.cur) rfl
  have p3 := V.cell 3 (v := .int .i64 x.day) rfl
  have p4 := V.cell 4 (v := .int .i64 x.basis) rfl
  have p5 := V.cell 5 (v := .int .i64 x.mode) rfl
  clear V
  obtain ⟨a0, b0⟩ := wi_yes g0
  obtain ⟨a1, b1⟩ := wi_yes g1
  obtain ⟨a4, b4⟩ := wi_yes g4
  go_enter Try.func11, Try.ntmps11
  go_wp2_with fail
  refine (rcur_ok _ _).mono ?_
  rintro e w1 ⟨rfl, rfl⟩
  rw [g2]
  go_wp2_with fail
  refine (ris_ok _ _).mono ?_
  rintro e w1 ⟨rfl, rfl⟩
  rw [g3]
  go_wp2_with fail
  go_ret
  exact ⟨rfl, HD.out⟩
set_option maxHeartbeats 2000000 in
set_option maxRecDepth 100000 in
theorem rcheck_60 (x : PV) (ta : Option Addr) (tn tc : Nat) (w : World) (g0 : wi x.id 1 1000000000 = true) (g1 : wi x.kind 1 2 = true) (g2 : wi x.cur 0 3 = true) (g3 : wi x.day 1 3652059 = true) (g4 : wi x.basis 0 3 = true) (g5 : wi x.mode 0 6 = true) (n6 : x.fee < 0) :
    Calls Try.prog 11 #[.agg (x.cells (.slice ta tn tc)).toArray] w fun e w' => e = .returned (.int .i64 1) ∧ Below w.heap.size w w' := by
  have V := va_new w (x.cells (.slice ta tn tc)) 24
  have HD := (show Hid _ from (Below.refl w.heap.size w).alloc (Nat.le_refl _) (.cells (x.cells (.slice ta tn tc)).toArray 24))
  have p0 := V.cell 0 (v := .int .i64 x.id) rfl
  have p1 := V.cell 1 (v := .int .i64 x.kind) rfl
  have p2 := V.cell 2 (v := .int .i64 x.cur) rfl
  have p3 := V.cell 3 (v := .int .i64 x.day) rfl
  have p4 := V.cell 4 (v := .int .i64 x.basis) rfl
  have p5 := V.cell 5 (v := .int .i64 x.mode) rfl
  have p6 := V.cell 6 (v := .int .i64 x.fee) rfl
  clear V
  obtain ⟨a0, b0⟩ := wi_yes g0
  obtain ⟨a1, b1⟩ := wi_yes g1
  obtain ⟨a4, b4⟩ := wi_yes g4
  obtain ⟨a5, b5⟩ := wi_yes g5
  go_enter Try.func11, Try.ntmps11
  go_wp2_with fail
  refine (rcur_ok _ _).mono ?_
  rintro e w1 ⟨rfl, rfl⟩
  rw [g2]
  go_wp2_with fail
  refine (ris_ok _ _).mono ?_
  rintro e w1 ⟨rfl, rfl⟩
  rw [g3]
  go_wp2_with fail
  go_ret
  exact ⟨rfl, HD.out⟩
set_option maxHeartbeats 2000000 in
set_option maxRecDepth 100000 in
theorem rcheck_61 (x : PV) (ta : Option Addr) (tn tc : Nat) (w : World) (g0 : wi x.id 1 1000000000 = true) (g1 : wi x.kind 1 2 = true) (g2 : wi x.cur 0 3 = true) (g3 : wi x.day 1 3652059 = true) (g4 : wi x.basis 0 3 = true) (g5 : wi x.mode 0 6 = true) (m6 : 0 ≤ x.fee) (n6 : 10000000000000 < x.fee) :
    Calls Try.prog 11 #[.agg (x.cells (.slice ta tn tc)).toArray] w fun e w' => e = .returned (.int .i64 1) ∧ Below w.heap.size w w' := by
  have V := va_new w (x.cells (.slice ta tn tc)) 24
  have HD := (show Hid _ from (Below.refl w.heap.size w).alloc (Nat.le_refl _) (.cells (x.cells (.slice ta tn tc)).toArray 24))
  have p0 := V.cell 0 (v := .int .i64 x.id) rfl
  have p1 := V.cell 1 (v := .int .i64 x.kind) rfl
  have p2 := V.cell 2 (v := .int .i64 x.cur) rfl
  have p3 := V.cell 3 (v := .int .i64 x.day) rfl
  have p4 := V.cell 4 (v := .int .i64 x.basis) rfl
  have p5 := V.cell 5 (v := .int .i64 x.mode) rfl
  have p6 := V.cell 6 (v := .int .i64 x.fee) rfl
  clear V
  obtain ⟨a0, b0⟩ := wi_yes g0
  obtain ⟨a1, b1⟩ := wi_yes g1
  obtain ⟨a4, b4⟩ := wi_yes g4
  obtain ⟨a5, b5⟩ := wi_yes g5
  go_enter Try.func11, Try.ntmps11
  go_wp2_with fail
  refine (rcur_ok _ _).mono ?_
  rintro e w1 ⟨rfl, rfl⟩
  rw [g2]
  go_wp2_with fail
  refine (ris_ok _ _).mono ?_
  rintro e w1 ⟨rfl, rfl⟩
  rw [g3]
  go_wp2_with fail
  go_ret
  exact ⟨rfl, HD.out⟩
end Go.Proofs.Ytgbphbeafomabaa
