/- prod: a version by itself: its numbers, by the program and by the document. -/
import Derived.Test.YtgbphbeafomabaaGb
namespace Go.Proofs.Ytgbphbeafomabaa
open Go.RowKit
set_option linter.unusedVariables false

/-- a version's numbers and tiers -/
structure PV where
  id : Int
  kind : Int
  cur : Int
  day : Int
  basis : Int
  mode : Int
  fee : Int
  lim : Int
  ts : List (Int × Int)
def PV.cells (x : PV) (tv : Value) : List Value := [.int .i64 x.id, .int .i64 x.kind, .int .i64 x.cur, .int .i64 x.day, .int .i64 x.basis, .int .i64 x.mode, .int .i64 x.fee, .int .i64 x.lim, tv]
theorem PV.len (x : PV) (tv : Value) : (x.cells tv).length = 9 := rfl
structure PV.wf (x : PV) : Prop where
  id : I64 x.id
  kind : I64 x.kind
  cur : I64 x.cur
  day : I64 x.day
  basis : I64 x.basis
  mode : I64 x.mode
  fee : I64 x.fee
  lim : I64 x.lim
def PV.inr (x : PV) : Bool := wi x.id 1 1000000000 && wi x.kind 1 2 && wi x.cur 0 3 && wi x.day 1 3652059 && wi x.basis 0 3 && wi x.mode 0 6 && wi x.fee 0 10000000000000 && wi x.lim 0 10000000000000
set_option maxHeartbeats 1000000 in
set_option maxRecDepth 100000 in
theorem numbers_ok (x : PV) (tv : Value) (w : World) : Calls Try.prog 23 #[.agg (x.cells tv).toArray] w fun e w' => e = .returned (.bool x.inr) ∧ Below w.heap.size w w' := by
  have V := va_new w (x.cells tv) 25
  have HV := (show Hid _ from V)
  have HD := (show Hid _ from (Below.refl w.heap.size w).alloc (Nat.le_refl _) (.cells (x.cells tv).toArray 25))
  have p0 := V.cell 0 (v := .int .i64 x.id) rfl
  have p1 := V.cell 1 (v := .int .i64 x.kind) rfl
  have p2 := V.cell 2 (v := .int .i64 x.cur) rfl
  clear V
  cases g0 : wi x.id 1 1000000000
  · rw [show x.inr = false by simp [PV.inr, g0]]
    go_enter Try.func23, Try.ntmps23
    go_wp2_with fail
    refine (within64_ok _ _ _ _).mono ?_
    rintro e w2 ⟨rfl, rfl⟩
    rw [g0]
    go_wp2_with fail
    go_ret
    exact ⟨rfl, HD.out⟩
  cases g1 : wi x.kind 1 2
  · rw [show x.inr = false by simp [PV.inr, g0, g1]]
    go_enter Try.func23, Try.ntmps23
    go_wp2_with fail
    refine (within64_ok _ _ _ _).mono ?_
    rintro e w2 ⟨rfl, rfl⟩
    rw [g0]
    go_wp2_with fail
    refine (within_ok _ _ _ _).mono ?_
    rintro e w2 ⟨rfl, rfl⟩
    rw [g1]
    go_wp2_with fail
    go_ret
    exact ⟨rfl, HD.out⟩
  cases g2 : wi x.cur 0 3
  · rw [show x.inr = false by simp [PV.inr, g0, g1, g2]]
    go_enter Try.func23, Try.ntmps23
    go_wp2_with fail
    refine (within64_ok _ _ _ _).mono ?_
    rintro e w2 ⟨rfl, rfl⟩
    rw [g0]
    go_wp2_with fail
    refine (within_ok _ _ _ _).mono ?_
    rintro e w2 ⟨rfl, rfl⟩
    rw [g1]
    go_wp2_with fail
    refine (mcheck_ok _ _).mono ?_
    rintro e w1 ⟨rfl, b1⟩
    rw [g2]
    have D1 := (show Hid _ from HD.out.trans (b1.mono HD.out.size))
    go_wp2_with fail
    go_ret
    exact ⟨rfl, D1.out⟩
  cases g3 : wi x.day 1 3652059
  · rw [show x.inr = false by simp [PV.inr, g0, g1, g2, g3]]
    go_enter Try.func23, Try.ntmps23
    go_wp2_with fail
    refine (within64_ok _ _ _ _).mono ?_
    rintro e w2 ⟨rfl, rfl⟩
    rw [g0]
    go_wp2_with fail
    refine (within_ok _ _ _ _).mono ?_
    rintro e w2 ⟨rfl, rfl⟩
    rw [g1]
    go_wp2_with fail
    refine (mcheck_ok _ _).mono ?_
    rintro e w1 ⟨rfl, b1⟩
    rw [g2]
    have V1 := HV.out.step b1
    have D1 := (show Hid _ from HD.out.trans (b1.mono HD.out.size))
    have q3 := V1.cell 3 (v := .int .i64 x.day) rfl
    have q4 := V1.cell 4 (v := .int .i64 x.basis) rfl
    have q5 := V1.cell 5 (v := .int .i64 x.mode) rfl
    have q6 := V1.cell 6 (v := .int .i64 x.fee) rfl
    have q7 := V1.cell 7 (v := .int .i64 x.lim) rfl
    clear V1 b1
    go_wp2_with fail
    refine (isday_ok _ _).mono ?_
    rintro e w2 ⟨rfl, rfl⟩
    rw [g3]
    go_wp2_with fail
    go_ret
    exact ⟨rfl, D1.out⟩
  cases g4 : wi x.basis 0 3
  · rw [show x.inr = false by simp [PV.inr, g0, g1, g2, g3, g4]]
    go_enter Try.func23, Try.ntmps23
    go_wp2_with fail
    refine (within64_ok _ _ _ _).mono ?_
    rintro e w2 ⟨rfl, rfl⟩
    rw [g0]
    go_wp2_with fail
    refine (within_ok _ _ _ _).mono ?_
    rintro e w2 ⟨rfl, rfl⟩
    rw [g1]
    go_wp2_with fail
    refine (mcheck_ok _ _).mono ?_
    rintro e w1 ⟨rfl, b1⟩
    rw [g2]
    have V1 := HV.out.step b1
    have D1 := (show Hid _ from HD.out.trans (b1.mono HD.out.size))
    have q3 := V1.cell 3 (v := .int .i64 x.day) rfl
    have q4 := V1.cell 4 (v := .int .i64 x.basis) rfl
    have q5 := V1.cell 5 (v := .int .i64 x.mode) rfl
    have q6 := V1.cell 6 (v := .int .i64 x.fee) rfl
    have q7 := V1.cell 7 (v := .int .i64 x.lim) rfl
    clear V1 b1
    go_wp2_with fail
    refine (isday_ok _ _).mono ?_
    rintro e w2 ⟨rfl, rfl⟩
    rw [g3]
    go_wp2_with fail
    refine (within_ok _ _ _ _).mono ?_
    rintro e w2 ⟨rfl, rfl⟩
    rw [g4]
    go_wp2_with fail
    go_ret
    exact ⟨rfl, D1.out⟩
  cases g5 : wi x.mode 0 6
  · rw [show x.inr = false by simp [PV.inr, g0, g1, g2, g3, g4, g5]]
    go_enter Try.func23, Try.ntmps23
    go_wp2_with fail
    refine (within64_ok _ _ _ _).mono ?_
    rintro e w2 ⟨rfl, rfl⟩
    rw [g0]
    go_wp2_with fail
    refine (within_ok _ _ _ _).mono ?_
    rintro e w2 ⟨rfl, rfl⟩
    rw [g1]
    go_wp2_with fail
    refine (mcheck_ok _ _).mono ?_
    rintro e w1 ⟨rfl, b1⟩
    rw [g2]
    have V1 := HV.out.step b1
    have D1 := (show Hid _ from HD.out.trans (b1.mono HD.out.size))
    have q3 := V1.cell 3 (v := .int .i64 x.day) rfl
    have q4 := V1.cell 4 (v := .int .i64 x.basis) rfl
    have q5 := V1.cell 5 (v := .int .i64 x.mode) rfl
    have q6 := V1.cell 6 (v := .int .i64 x.fee) rfl
    have q7 := V1.cell 7 (v := .int .i64 x.lim) rfl
    clear V1 b1
    go_wp2_with fail
    refine (isday_ok _ _).mono ?_
    rintro e w2 ⟨rfl, rfl⟩
    rw [g3]
    go_wp2_with fail
    refine (within_ok _ _ _ _).mono ?_
    rintro e w2 ⟨rfl, rfl⟩
    rw [g4]
    go_wp2_with fail
    refine (within_ok _ _ _ _).mono ?_
    rintro e w2 ⟨rfl, rfl⟩
    rw [g5]
    go_wp2_with fail
    go_ret
    exact ⟨rfl, D1.out⟩
  cases g6 : wi x.fee 0 10000000000000
  · rw [show x.inr = false by simp [PV.inr, g0, g1, g2, g3, g4, g5, g6]]
    go_enter Try.func23, Try.ntmps23
    go_wp2_with fail
    refine (within64_ok _ _ _ _).mono ?_
    rintro e w2 ⟨rfl, rfl⟩
    rw [g0]
    go_wp2_with fail
    refine (within_ok _ _ _ _).mono ?_
    rintro e w2 ⟨rfl, rfl⟩
    rw [g1]
    go_wp2_with fail
    refine (mcheck_ok _ _).mono ?_
    rintro e w1 ⟨rfl, b1⟩
    rw [g2]
    have V1 := HV.out.step b1
    have D1 := (show Hid _ from HD.out.trans (b1.mono HD.out.size))
    have q3 := V1.cell 3 (v := .int .i64 x.day) rfl
    have q4 := V1.cell 4 (v := .int .i64 x.basis) rfl
    have q5 := V1.cell 5 (v := .int .i64 x.mode) rfl
    have q6 := V1.cell 6 (v := .int .i64 x.fee) rfl
    have q7 := V1.cell 7 (v := .int .i64 x.lim) rfl
    clear V1 b1
    go_wp2_with fail
    refine (isday_ok _ _).mono ?_
    rintro e w2 ⟨rfl, rfl⟩
    rw [g3]
    go_wp2_with fail
    refine (within_ok _ _ _ _).mono ?_
    rintro e w2 ⟨rfl, rfl⟩
    rw [g4]
    go_wp2_with fail
    refine (within_ok _ _ _ _).mono ?_
    rintro e w2 ⟨rfl, rfl⟩
    rw [g5]
    go_wp2_with fail
    refine (within64_ok _ _ _ _).mono ?_
    rintro e w2 ⟨rfl, rfl⟩
    rw [g6]
    go_wp2_with fail
    go_ret
    exact ⟨rfl, D1.out⟩
  cases g7 : wi x.lim 0 10000000000000
  · rw [show x.inr = false by simp [PV.inr, g0, g1, g2, g3, g4, g5, g6, g7]]
    go_enter Try.func23, Try.ntmps23
    go_wp2_with fail
    refine (within64_ok _ _ _ _).mono ?_
    rintro e w2 ⟨rfl, rfl⟩
    rw [g0]
    go_wp2_with fail
    refine (within_ok _ _ _ _).mono ?_
    rintro e w2 ⟨rfl, rfl⟩
    rw [g1]
    go_wp2_with fail
    refine (mcheck_ok _ _).mono ?_
    rintro e w1 ⟨rfl, b1⟩
    rw [g2]
    have V1 := HV.out.step b1
    have D1 := (show Hid _ from HD.out.trans (b1.mono HD.out.size))
    have q3 := V1.cell 3 (v := .int .i64 x.day) rfl
    have q4 := V1.cell 4 (v := .int .i64 x.basis) rfl
    have q5 := V1.cell 5 (v := .int .i64 x.mode) rfl
    have q6 := V1.cell 6 (v := .int .i64 x.fee) rfl
    have q7 := V1.cell 7 (v := .int .i64 x.lim) rfl
    clear V1 b1
    go_wp2_with fail
    refine (isday_ok _ _).mono ?_
    rintro e w2 ⟨rfl, rfl⟩
    rw [g3]
    go_wp2_with fail
    refine (within_ok _ _ _ _).mono ?_
    rintro e w2 ⟨rfl, rfl⟩
    rw [g4]
    go_wp2_with fail
    refine (within_ok _ _ _ _).mono ?_
    rintro e w2 ⟨rfl, rfl⟩
    rw [g5]
    go_wp2_with fail
    refine (within64_ok _ _ _ _).mono ?_
    rintro e w2 ⟨rfl, rfl⟩
    rw [g6]
    go_wp2_with fail
    refine (within64_ok _ _ _ _).mono ?_
    rintro e w2 ⟨rfl, rfl⟩
    rw [g7]
    go_wp2_with fail
    go_ret
    exact ⟨rfl, D1.out⟩
  rw [show x.inr = true by simp [PV.inr, g0, g1, g2, g3, g4, g5, g6, g7]]
  go_enter Try.func23, Try.ntmps23
  go_wp2_with fail
  refine (within64_ok _ _ _ _).mono ?_
  rintro e w2 ⟨rfl, rfl⟩
  rw [g0]
  go_wp2_with fail
  refine (within_ok _ _ _ _).mono ?_
  rintro e w2 ⟨rfl, rfl⟩
  rw [g1]
  go_wp2_with fail
  refine (mcheck_ok _ _).mono ?_
  rintro e w1 ⟨rfl, b1⟩
  rw [g2]
  have V1 := HV.out.step b1
  have D1 := (show Hid _ from HD.out.trans (b1.mono HD.out.size))
  have q3 := V1.cell 3 (v := .int .i64 x.day) rfl
  have q4 := V1.cell 4 (v := .int .i64 x.basis) rfl
  have q5 := V1.cell 5 (v := .int .i64 x.mode) rfl
  have q6 := V1.cell 6 (v := .int .i64 x.fee) rfl
  have q7 := V1.cell 7 (v := .int .i64 x.lim) rfl
  clear V1 b1
  go_wp2_with fail
  refine (isday_ok _ _).mono ?_
  rintro e w2 ⟨rfl, rfl⟩
  rw [g3]
  go_wp2_with fail
  refine (within_ok _ _ _ _).mono ?_
  rintro e w2 ⟨rfl, rfl⟩
  rw [g4]
  go_wp2_with fail
  refine (within_ok _ _ _ _).mono ?_
  rintro e w2 ⟨rfl, rfl⟩
  rw [g5]
  go_wp2_with fail
  refine (within64_ok _ _ _ _).mono ?_
  rintro e w2 ⟨rfl, rfl⟩
  rw [g6]
  go_wp2_with fail
  refine (within64_ok _ _ _ _).mono ?_
  rintro e w2 ⟨rfl, rfl⟩
  rw [g7]
  go_wp2_with fail
  go_ret
  exact ⟨rfl, D1.out⟩
end Go.Proofs.Ytgbphbeafomabaa
