/- The law DecWholes: its walk, of all arguments. -/
import Derived.Test.YtghdkchbaadddaaVe
namespace Go.Proofs.Ytghdkchbaadddaa
open Go.RowKit
set_option linter.unusedVariables false
attribute [local go_sem] ext_cell ext_frozen ext_drew ext_of_drew ext_of_drewN ext_setCell ext_lt ext_lt1 ext_lt2 ext_lt3 lt_n2 lt_n3 lt_n4 lt_n5 lt_n6

set_option maxHeartbeats 4000000 in
set_option maxRecDepth 100000 in
theorem wholes_law (n sc h l s x0' x1' x2' e1 i e2 : Int) (w : World) (S1 : Hid (∀ w, Calls Try.prog 21 #[.int .i64 n, .int .i64 sc] w fun e w' => e = .returned (.tuple #[.agg #[.int .i64 x0', .int .u64 x1', .int .i64 x2'], .int .i64 e1]) ∧ Below w.heap.size w w')) (S2 : Hid (∀ w, Calls Try.prog 22 #[.int .i64 n, .int .i64 sc] w fun e w' => e = .returned (.tuple #[.agg #[.int .i64 x0', .int .u64 x1', .int .i64 x2'], .int .i64 e1]) ∧ Below w.heap.size w w')) (I1 : Hid (∀ w, Calls Try.prog 23 #[.agg #[.int .i64 h, .int .u64 l, .int .i64 s]] w fun e w' => e = .returned (.tuple #[.int .i64 i, .int .i64 e2]) ∧ Below w.heap.size w w')) (I2 : Hid (∀ w, Calls Try.prog 24 #[.agg #[.int .i64 h, .int .u64 l, .int .i64 s]] w fun e w' => e = .returned (.tuple #[.int .i64 i, .int .i64 e2]) ∧ Below w.heap.size w w')) :
    Calls Try.prog 4 #[.int .i64 n, .int .i64 sc, .agg #[.int .i64 h, .int .u64 l, .int .i64 s]] w fun e w' => e = .returned (.bool true) ∧ Below w.heap.size w w' := by
  go_enter Try.func4, Try.ntmps4
  go_wp2_with fail
  refine (S1.out _).mono ?_
  rintro e w1 ⟨rfl, bb⟩
  have Aa := (at3_new w (.int .i64 h) (.int .u64 l) (.int .i64 s) 24).step bb
  have G : Below w.heap.size w w1 := (bel_alloc (Below.refl _ _) _).trans (bb.mono (by simp <;> omega))
  clear bb
  obtain ⟨a0, a1, a2, a3⟩ := Aa
  go_wp2_with fail
  refine (S2.out _).mono ?_
  rintro e w2 ⟨rfl, bb⟩
  have Aa := ((At3.mk a0 a1 a2 a3).alloc _).step bb
  clear a0 a1 a2 a3
  have Ap := (at3_new w1 _ _ _ _).step bb
  have G := G.trans ((below_over bb).mono G.size)
  clear bb
  generalize w1.heap.size = pp at *
  obtain ⟨a0, a1, a2, a3⟩ := Aa
  obtain ⟨p0, p1, p2, p3⟩ := Ap
  go_wp2_with fail
  refine (I1.out _).mono ?_
  rintro e w3 ⟨rfl, bb⟩
  have Aa := ((At3.mk a0 a1 a2 a3).alloc _).step bb
  have Ap := ((At3.mk p0 p1 p2 p3).alloc _).step bb
  clear a0 a1 a2 a3 p0 p1 p2 p3
  have Aq := (at3_new w2 _ _ _ _).step bb
  have G := G.trans ((below_over bb).mono G.size)
  clear bb
  generalize w2.heap.size = pq at *
  obtain ⟨a0, a1, a2, a3⟩ := Aa
  obtain ⟨p0, p1, p2, p3⟩ := Ap
  obtain ⟨q0, q1, q2, q3⟩ := Aq
  go_wp2_with fail
  refine (I2.out _).mono ?_
  rintro e w4 ⟨rfl, bb⟩
  have Aa := ((At3.mk a0 a1 a2 a3)).step bb
  have Ap := ((At3.mk p0 p1 p2 p3)).step bb
  have Aq := ((At3.mk q0 q1 q2 q3)).step bb
  clear a0 a1 a2 a3 p0 p1 p2 p3 q0 q1 q2 q3
  have G := G.trans (bb.mono G.size)
  clear bb
  obtain ⟨a0, a1, a2, a3⟩ := Aa
  obtain ⟨p0, p1, p2, p3⟩ := Ap
  obtain ⟨q0, q1, q2, q3⟩ := Aq
  go_wp2_with fail
  refine (awake_any _).mono ?_
  rintro e w5 ⟨rfl, bb⟩
  have Aa := ((At3.mk a0 a1 a2 a3)).step bb
  have Ap := ((At3.mk p0 p1 p2 p3)).step bb
  have Aq := ((At3.mk q0 q1 q2 q3)).step bb
  clear a0 a1 a2 a3 p0 p1 p2 p3 q0 q1 q2 q3
  have G := G.trans (bb.mono G.size)
  clear bb
  obtain ⟨a0, a1, a2, a3⟩ := Aa
  obtain ⟨p0, p1, p2, p3⟩ := Ap
  obtain ⟨q0, q1, q2, q3⟩ := Aq
  go_wp2_with fail
  go_ret
  exact ⟨rfl, G⟩

theorem wholes_walk (n sc h l s : Int) (wn : (Lit.int .i64 n).wf = true) (wh : (Lit.int .i64 h).wf = true) (wl : (Lit.int .u64 l).wf = true) (w : World) :
    Calls Try.prog 4 #[.int .i64 n, .int .i64 sc, .agg #[.int .i64 h, .int .u64 l, .int .i64 s]] w fun e w' => e = .returned (.bool true) ∧ Below w.heap.size w w' := by
  have hn : -9223372036854775808 ≤ n ∧ n ≤ 9223372036854775807 := by simpa [Lit.wf, IntKind.min, IntKind.max, IntKind.signed, IntKind.bits] using wn
  obtain ⟨x0, x1, x2, e1, S1, S2⟩ : ∃ x0 x1 x2 e1 : Int, (∀ w, Calls Try.prog 21 #[.int .i64 n, .int .i64 sc] w fun e w' => e = .returned (.tuple #[.agg #[.int .i64 x0, .int .u64 x1, .int .i64 x2], .int .i64 e1]) ∧ Below w.heap.size w w') ∧
      (∀ w, Calls Try.prog 22 #[.int .i64 n, .int .i64 sc] w fun e w' => e = .returned (.tuple #[.agg #[.int .i64 x0, .int .u64 x1, .int .i64 x2], .int .i64 e1]) ∧ Below w.heap.size w w') := by
    by_cases hs : sc < 0 ∨ 18 < sc
    · exact ⟨0, 0, 0, 1, fun w => of_arg n sc w hs, fun w => dof_arg n sc w hs⟩
    · obtain ⟨k, rfl⟩ := Int.eq_ofNat_of_zero_le (show 0 ≤ sc by omega)
      exact ⟨_, _, _, _, fun w => of_ok n k w hn.1 hn.2 (by omega), fun w => dof_ok n k w hn.1 hn.2 (by omega)⟩
  rcases form_cases h l s wh wl with hbad | ⟨c, m, rfl, rfl, rfl, ic, hm⟩
  · exact wholes_law n sc h l s x0 x1 x2 e1 0 3 w S1 S2 (fun w => int_form h l s w hbad) (fun w => dint_form h l s w hbad)
  · by_cases hz : c.natAbs % 10 ^ m = 0
    · have hz' := (cut0_tv c m).2 hz
      by_cases hr : -9223372036854775808 ≤ cut0 c m ∧ cut0 c m ≤ 9223372036854775807
      · exact wholes_law n sc _ _ _ x0 x1 x2 e1 (cut0 c m) 0 w S1 S2 (fun w => int_yes c m w ic hm hz' hr.1 hr.2) (fun w => dint_yes c m w ic hm _ true (fun v w hv => small_yes v _ w hv hr.1 hr.2) hz rfl)
      · exact wholes_law n sc _ _ _ x0 x1 x2 e1 0 4 w S1 S2 (fun w => int_out c m w ic hm hz' hr) (fun w => dint_out c m w ic hm 0 false (fun v w hv => small_no v _ w hv hr) hz rfl)
    · have hz' : ¬ tv (cut0 c m) 0 (-c) m = 0 := fun e => hz ((cut0_tv c m).1 e)
      by_cases hr : -9223372036854775808 ≤ cut0 c m ∧ cut0 c m ≤ 9223372036854775807
      · exact wholes_law n sc _ _ _ x0 x1 x2 e1 0 4 w S1 S2 (fun w => int_part c m w ic hm hz') (fun w => dint_part c m w ic hm _ true (fun v w hv => small_yes v _ w hv hr.1 hr.2) (Nat.pos_of_ne_zero hz))
      · exact wholes_law n sc _ _ _ x0 x1 x2 e1 0 4 w S1 S2 (fun w => int_part c m w ic hm hz') (fun w => dint_part c m w ic hm _ false (fun v w hv => small_no v _ w hv hr) (Nat.pos_of_ne_zero hz))
end Go.Proofs.Ytghdkchbaadddaa
