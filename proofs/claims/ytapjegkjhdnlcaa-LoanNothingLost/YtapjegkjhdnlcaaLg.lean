/- loan: the walk of LoanNothingLost. -/
import Derived.Test.YtapjegkjhdnlcaaLf
import Derived.Deep.DeepCutAuto
namespace Go.Proofs.Ytapjegkjhdnlcaa
open Go.RowKit
set_option linter.unusedVariables false

set_option maxRecDepth 100000 in
set_option maxHeartbeats 1000000 in
theorem lost_walk (y f i p : Int) (w : World) : Calls Try.prog 6 #[.int .i64 y, .int .i64 f, .int .i64 i, .int .i64 p] w fun e w' => e = .returned (.bool true) ∧ Below w.heap.size w w' := by
  go_enter Try.func6, Try.ntmps6
  go_wp2_with (go_at_call 14; refine (awake_ok _).mono ?_; rintro e w1 ⟨rfl, b1⟩; have B1 := (show Hid _ from b1); clear b1)
  go_quiet (fail)
  have B2 := (show Hid _ from bel_drewN' B1.out nq)
  generalize w1.drewN nq = w2 at *
  clear B1
  go_wp2_with fail
  have a1 := um y 10000000000001 (by omega) (by omega)
  have a2 := um f 10000000000001 (by omega) (by omega)
  have a3 := um i 10000000000001 (by omega) (by omega)
  have a4 := um p 10000000000001 (by omega) (by omega)
  generalize wrap64 ((IntKind.u64.wrap y).tmod 10000000000001) = a at *
  generalize wrap64 ((IntKind.u64.wrap f).tmod 10000000000001) = b at *
  generalize wrap64 ((IntKind.u64.wrap i).tmod 10000000000001) = c at *
  generalize wrap64 ((IntKind.u64.wrap p).tmod 10000000000001) = d at *
  refine (Pays_ok a b c d _ ⟨a1.1, by omega⟩ ⟨a2.1, by omega⟩ ⟨a3.1, by omega⟩ ⟨a4.1, by omega⟩).mono ?_
  rintro e w3 ⟨rfl, b3⟩
  have V3 := (show Hid _ from va_new w3 (pc 0 0 0 0) 38)
  have B3 := (show Hid _ from (B2.out.trans (b3.mono B2.out.size)).alloc (Nat.le_trans B2.out.size b3.size) (.cells (pc 0 0 0 0).toArray 38))
  have s3 := Nat.le_trans B2.out.size b3.size
  clear b3 B2
  obtain ⟨F, I, P, R, hF⟩ : ∃ F I P R, F = pf a b ∧ I = pq a b c ∧ P = pp a b c d ∧ R = pr a b c d := ⟨_, _, _, _, rfl, rfl, rfl, rfl⟩
  rw [← hF.1, ← hF.2.1, ← hF.2.2.1, ← hF.2.2.2]
  have hf := (show Hid (0 ≤ F ∧ F ≤ b ∧ 0 ≤ I ∧ I ≤ c ∧ 0 ≤ P ∧ P ≤ d ∧ 0 ≤ R ∧ R ≤ a ∧ F + I + P + R = a ∧ (I = 0 ∨ F = b) ∧ (P = 0 ∨ I = c) ∧ (R = 0 ∨ P = d)) from by
    obtain ⟨rfl, rfl, rfl, rfl⟩ := hF
    show _ ∧ _
    unfold pr pp pq pf
    omega)
  clear hF
  go_upto_region 6 with (refine stA rfl 38 _ _ rfl w3.heap.size (by rfl) (pc 0 0 0 0) (pc F I P R) (by rfl) 38 V3.out infoP4 rfl (pc_one _ _ _ _) ?_; intro w4 va up; have V4 := (show Hid _ from va); have B4 := (show Hid _ from up.bel B3.out s3); clear va up V3 B3)
  have c0 := V4.out.cell 0 (v := .int .i64 F) rfl
  have c1 := V4.out.cell 1 (v := .int .i64 I) rfl
  have c2 := V4.out.cell 2 (v := .int .i64 P) rfl
  have c3 := V4.out.cell 3 (v := .int .i64 R) rfl
  have hlt := V4.out.lt
  clear V4
  obtain ⟨f1, f2, i1, i2, p1, p2, r1, r2, hs, o1, o2, o3⟩ := hf.out
  obtain ⟨a11, a12⟩ := a1
  obtain ⟨a21, a22⟩ := a2
  obtain ⟨a31, a32⟩ := a3
  obtain ⟨a41, a42⟩ := a4
  clear hf
  have d1 : decide (F < 0) = false := decide_eq_false (by omega)
  have d2 : decide (I < 0) = false := decide_eq_false (by omega)
  have d3 : decide (P < 0) = false := decide_eq_false (by omega)
  have d4 : decide (R < 0) = false := decide_eq_false (by omega)
  have d5 : decide (b < F) = false := decide_eq_false (by omega)
  have d6 : decide (c < I) = false := decide_eq_false (by omega)
  have d7 : decide (d < P) = false := decide_eq_false (by omega)
  have o1' : (I == 0) = true ∨ (I == 0) = false ∧ (F == b) = true := by
    by_cases h : I = 0
    · left; simpa using h
    · right; exact ⟨by simpa using h, by simpa using o1.resolve_left h⟩
  have o2' : (P == 0) = true ∨ (P == 0) = false ∧ (I == c) = true := by
    by_cases h : P = 0
    · left; simpa using h
    · right; exact ⟨by simpa using h, by simpa using o2.resolve_left h⟩
  have o3' : (R == 0) = true ∨ (R == 0) = false ∧ (P == d) = true := by
    by_cases h : R = 0
    · left; simpa using h
    · right; exact ⟨by simpa using h, by simpa using o3.resolve_left h⟩
  clear o1 o2 o3
  rcases o1' with o1 | ⟨o1, p1'⟩ <;> rcases o2' with o2 | ⟨o2, p2'⟩ <;> rcases o3' with o3 | ⟨o3, p3'⟩
  all_goals
    go_wp2_with fail
    go_ret
    exact ⟨rfl, B4.out⟩
end Go.Proofs.Ytapjegkjhdnlcaa
