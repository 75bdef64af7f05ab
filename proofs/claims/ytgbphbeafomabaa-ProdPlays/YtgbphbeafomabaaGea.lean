/- prod: the document's Check, its numbers (1). -/
import Derived.Test.YtgbphbeafomabaaGe
namespace Go.Proofs.Ytgbphbeafomabaa
open Go.RowKit
set_option linter.unusedVariables false

set_option maxHeartbeats 2000000 in
set_option maxRecDepth 100000 in
theorem rcheck_00 (x : PV) (ta : Option Addr) (tn tc : Nat) (w : World)  (n0 : x.id < 1) :
    Calls Try.prog 11 #[.agg (x.cells (.slice ta tn tc)).toArray] w fun e w' => e = .returned (.int .i64 1) ∧ Below w.heap.size w w' := by
  have V := va_new w (x.cells (.slice ta tn tc)) 24
  have HD := (show Hid _ from (Below.refl w.heap.size w).alloc (Nat.le_refl _) (.cells (x.cells (.slice ta tn tc)).toArray 24))
  have p0 := V.cell 0 (v := .int .i64 x.id) rfl
  clear V
  go_enter Try.func11, Try.ntmps11
  go_wp2_with fail
  go_ret
  exact ⟨rfl, HD.out⟩
set_option maxHeartbeats 2000000 in
set_option maxRecDepth 100000 in
theorem rcheck_01 (x : PV) (ta : Option Addr) (tn tc : Nat) (w : World)  (m0 : 1 ≤ x.id) (n0 : 1000000000 < x.id) :
    Calls Try.prog 11 #[.agg (x.cells (.slice ta tn tc)).toArray] w fun e w' => e = .returned (.int .i64 1) ∧ Below w.heap.size w w' := by
  have V := va_new w (x.cells (.slice ta tn tc)) 24
  have HD := (show Hid _ from (Below.refl w.heap.size w).alloc (Nat.le_refl _) (.cells (x.cells (.slice ta tn tc)).toArray 24))
  have p0 := V.cell 0 (v := .int .i64 x.id) rfl
  clear V
  go_enter Try.func11, Try.ntmps11
  go_wp2_with fail
  go_ret
  exact ⟨rfl, HD.out⟩
set_option maxHeartbeats 2000000 in
set_option maxRecDepth 100000 in
theorem rcheck_10 (x : PV) (ta : Option Addr) (tn tc : Nat) (w : World) (g0 : wi x.id 1 1000000000 = true) (n1 : x.kind < 1) :
    Calls Try.prog 11 #[.agg (x.cells (.slice ta tn tc)).toArray] w fun e w' => e = .returned (.int .i64 1) ∧ Below w.heap.size w w' := by
  have V := va_new w (x.cells (.slice ta tn tc)) 24
  have HD := (show Hid _ from (Below.refl w.heap.size w).alloc (Nat.le_refl _) (.cells (x.cells (.slice ta tn tc)).toArray 24))
  have p0 := V.cell 0 (v := .int .i64 x.id) rfl
  have p1 := V.cell 1 (v := .int .i64 x.kind) rfl
  clear V
  obtain ⟨a0, b0⟩ := wi_yes g0
  go_enter Try.func11, Try.ntmps11
  go_wp2_with fail
  go_ret
  exact ⟨rfl, HD.out⟩
set_option maxHeartbeats 2000000 in
set_option maxRecDepth 100000 in
theorem rcheck_11 (x : PV) (ta : Option Addr) (tn tc : Nat) (w : World) (g0 : wi x.id 1 1000000000 = true) (m1 : 1 ≤ x.kind) (n1 : 2 < x.kind) :
    Calls Try.prog 11 #[.agg (x.cells (.slice ta tn tc)).toArray] w fun e w' => e = .returned (.int .i64 1) ∧ Below w.heap.size w w' := by
  have V := va_new w (x.cells (.slice ta tn tc)) 24
  have HD := (show Hid _ from (Below.refl w.heap.size w).alloc (Nat.le_refl _) (.cells (x.cells (.slice ta tn tc)).toArray 24))
  have p0 := V.cell 0 (v := .int .i64 x.id) rfl
  have p1 := V.cell 1 (v := .int .i64 x.kind) rfl
  clear V
  obtain ⟨a0, b0⟩ := wi_yes g0
  go_enter Try.func11, Try.ntmps11
  go_wp2_with fail
  go_ret
  exact ⟨rfl, HD.out⟩
set_option maxHeartbeats 2000000 in
set_option maxRecDepth 100000 in
theorem rcheck_20 (x : PV) (ta : Option Addr) (tn tc : Nat) (w : World) (g0 : wi x.id 1 1000000000 = true) (g1 : wi x.kind 1 2 = true) (g2 : wi x.cur 0 3 = false) :
    Calls Try.prog 11 #[.agg (x.cells (.slice ta tn tc)).toArray] w fun e w' => e = .returned (.int .i64 1) ∧ Below w.heap.size w w' := by
  have V := va_new w (x.cells (.slice ta tn tc)) 24
  have HD := (show Hid _ from (Below.refl w.heap.size w).alloc (Nat.le_refl _) (.cells (x.cells (.slice ta tn tc)).toArray 24))
  have p0 := V.cell 0 (v := .int .i64 x.id) rfl
  have p1 := V.cell 1 (v := .int .i64 x.kind) rfl
  have p2 := V.cell 2 (v := .int .i64 x.cur) rfl
  clear V
  obtain ⟨a0, b0⟩ := wi_yes g0
  obtain ⟨a1, b1⟩ := wi_yes g1
  go_enter Try.func11, Try.ntmps11
  go_wp2_with fail
  refine (rcur_ok _ _).mono ?_
  rintro e w1 ⟨rfl, rfl⟩
  rw [g2]
  go_wp2_with fail
  go_ret
  exact ⟨rfl, HD.out⟩
set_option maxHeartbeats 2000000 in
set_option maxRecDepth 100000 in
theorem rcheck_30 (x : PV) (ta : Option Addr) (tn tc : Nat) (w : World) (g0 : wi x.id 1 1000000000 = true) (g1 : wi x.kind 1 2 = true) (g2 : wi x.cur 0 3 = true) (g3 : wi x.day 1 3652059 = false) :
    Calls Try.prog 11 #[.agg (x.cells (.slice ta tn tc)).toArray] w fun e w' => e = .returned (.int .i64 1) ∧ Below w.heap.size w w' := by
  have V := va_new w (x.cells (.slice ta tn tc)) 24
  have HD := (show Hid _ from (Below.refl w.heap.size w).alloc (Nat.le_refl _) (.cells (x.cells (.slice ta tn tc)).toArray 24))
  have p0 := V.cell 0 (v := .int .i64 x.id) rfl
  have p1 := V.cell 1 (v := .int .i64 x.kind) rfl
  have p2 := V.cell 2 (v := .int .i64 x.cur) rfl
  have p3 := V.cell 3 (v := .int .i64 x.day) rfl
  clear V
  obtain ⟨a0, b0⟩ := wi_yes g0
  obtain ⟨a1, b1⟩ := wi_yes g1
  go_enter Try.func11, Try.ntmps11
  go_wp2_with fail
  refine (rcur_ok _ _).mono ?_
  rintro e w1 ⟨rfl, rfl⟩
  rw [g2]
  go_wp2_with fail
  refine (ris_ok _ _).mono ?_
  rintro e w1 ⟨rfl, rfl⟩
  rw [g3]
  go_wp2_with fail
  go_ret
  exact ⟨rfl, HD.out⟩
set_option maxHeartbeats 2000000 in
set_option maxRecDepth 100000 in
theorem rcheck_40 (x : PV) (ta : Option Addr) (tn tc : Nat) (w : World) (g0 : wi x.id 1 1000000000 = true) (g1 : wi x.kind 1 2 = true) (g2 : wi x.cur 0 3 = true) (g3 : wi x.day 1 3652059 = true) (n4 : x.basis < 0) :
    Calls Try.prog 11 #[.agg (x.cells (.slice ta tn tc)).toArray] w fun e w' => e = .returned (.int .i64 1) ∧ Below w.heap.size w w' := by
  have V := va_new w (x.cells (.slice ta tn tc)) 24
  have HD := (show Hid _ from (Below.refl w.heap.size w).alloc (Nat.le_refl _) (.cells (x.cells (.slice ta tn tc)).toArray 24))
  have p0 := V.cell 0 (v := .int .i64 x.id) rfl
  have p1 := V.cell 1 (v := .int .i64 x.kind) rfl
  have p2 := V.cell 2 (v := .int .i64 x.cur) rfl
  have p3 := V.cell 3 (v := .int .i64 x.day) rfl
  have p4 := V.cell 4 (v := .int .i64 x.basis) rfl
  clear V
  obtain ⟨a0, b0⟩ := wi_yes g0
  obtain ⟨a1, b1⟩ := wi_yes g1
  go_enter Try.func11, Try.ntmps11
  go_wp2_with fail
  refine (rcur_ok _ _).mono ?_
  rintro e w1 ⟨rfl, rfl⟩
  rw [g2]
  go_wp2_with fail
  refine (ris_ok _ _).mono ?_
  rintro e w1 ⟨rfl, rfl⟩
  rw [g3]
  go_wp2_with fail
  go_ret
  exact ⟨rfl, HD.out⟩
set_option maxHeartbeats 2000000 in
set_option maxRecDepth 100000 in
theorem rcheck_41 (x : PV) (ta : Option Addr) (tn tc : Nat) (w : World) (g0 : wi x.id 1 1000000000 = true) (g1 : wi x.kind 1 2 = true) (g2 : wi x.cur 0 3 = true) (g3 : wi x.day 1 3652059 = true) (m4 : 0 ≤ x.basis) (n4 : 3 < x.basis) :
    Calls Try.prog 11 #[.agg (x.cells (.slice ta tn tc)).toArray] w fun e w' => e = .returned (.int .i64 1) ∧ Below w.heap.size w w' := by
  have V := va_new w (x.cells (.slice ta tn tc)) 24
  have HD := (show Hid _ from (Below.refl w.heap.size w).alloc (Nat.le_refl _) (.cells (x.cells (.slice ta tn tc)).toArray 24))
  have p0 := V.cell 0 (v := .int .i64 x.id) rfl
  have p1 := V.cell 1 (v := .int .i64 x.kind) rfl
  have p2 := V.cell 2 (v := .int .i64 x.cur) rfl
  have p3 := V.cell 3 (v := .int .i64 x.day) rfl
  have p4 := V.cell 4 (v := .int .i64 x.basis) rfl
  clear V
  obtain ⟨a0, b0⟩ := wi_yes g0
  obtain ⟨a1, b1⟩ := wi_yes g1
  go_enter Try.func11, Try.ntmps11
  go_wp2_with fail
  refine (rcur_ok _ _).mono ?_
  rintro e w1 ⟨rfl, rfl⟩
  rw [g2]
  go_wp2_with fail
  refine (ris_ok _ _).mono ?_
  rintro e w1 ⟨rfl, rfl⟩
  rw [g3]
  go_wp2_with fail
  go_ret
  exact ⟨rfl, HD.out⟩
end Go.Proofs.Ytgbphbeafomabaa
