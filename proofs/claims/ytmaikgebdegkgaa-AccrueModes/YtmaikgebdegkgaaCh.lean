/- The law BasisParts: the document's parts, the errors, the walk. -/
import Derived.Test.YtmaikgebdegkgaaCe
import Derived.Test.YtmaikgebdegkgaaCg
namespace Go.Proofs.Ytmaikgebdegkgaa.cb
open Go.RowKit
set_option linter.unusedVariables false

theorem bIsDay_no (n : Int) (w : World) (h : ¬ (1 ≤ n ∧ n ≤ 3652059)) :
    Calls Try.prog 72 #[.int .i64 n] w fun e w' => e = .returned (.bool false) ∧ w' = w := by
  by_cases h1 : 1 ≤ n
  · have h2 : ¬ n ≤ 3652059 := by omega
    clear h
    go_enter Try.func72, Try.ntmps72
    go_wp2
    go_ret
    exact ⟨by simp, rfl⟩
  · clear h
    go_enter Try.func72, Try.ntmps72
    go_wp2
    go_ret
    exact ⟨rfl, rfl⟩
theorem check_arg (how f t : Int) (w : World) (h : how < 0 ∨ 3 < how ∨ ¬ (1 ≤ f ∧ f ≤ 3652059) ∨ ¬ (1 ≤ t ∧ t ≤ 3652059)) :
    Calls Try.prog 49 #[.int .i64 how, .int .i64 f, .int .i64 t] w fun e w' => e = .returned (.int .i64 1) ∧ w' = w := by
  by_cases c1 : how < 0
  · clear h
    go_enter Try.func49, Try.ntmps49
    go_wp2_with fail
    go_ret
    exact ⟨rfl, rfl⟩
  have c1' : decide (how < 0) = false := decide_eq_false c1
  by_cases c2 : 3 < how
  · clear h
    go_enter Try.func49, Try.ntmps49
    go_wp2_with fail
    go_ret
    exact ⟨rfl, rfl⟩
  have c2' : decide (3 < how) = false := decide_eq_false c2
  by_cases c3 : 1 ≤ f ∧ f ≤ 3652059
  · have c4 : ¬ (1 ≤ t ∧ t ≤ 3652059) := by omega
    have H4 : Hid (¬ (1 ≤ t ∧ t ≤ 3652059)) := c4
    clear h c4
    go_enter Try.func49, Try.ntmps49
    go_wp2_with fail
    refine (bIsDay_yes f _ c3.1 c3.2).mono ?_
    rintro e w1 ⟨rfl, rfl⟩
    go_wp2_with fail
    refine (bIsDay_no t _ H4.out).mono ?_
    rintro e w1 ⟨rfl, rfl⟩
    go_wp2_with fail
    go_ret
    exact ⟨rfl, rfl⟩
  · have H3 : Hid (¬ (1 ≤ f ∧ f ≤ 3652059)) := c3
    clear h c3
    go_enter Try.func49, Try.ntmps49
    go_wp2_with fail
    refine (bIsDay_no f _ H3.out).mono ?_
    rintro e w1 ⟨rfl, rfl⟩
    go_wp2_with fail
    go_ret
    exact ⟨rfl, rfl⟩
theorem check_date (how f t : Int) (w : World) (h1 : 0 ≤ how) (h2 : how ≤ 3) (f1 : 1 ≤ t) (f2 : t < f) (f3 : f ≤ 3652059) :
    Calls Try.prog 49 #[.int .i64 how, .int .i64 f, .int .i64 t] w fun e w' => e = .returned (.int .i64 9) ∧ w' = w := by
  have hd0 : decide (how < 0) = false := decide_eq_false (by omega)
  have hd1 : decide (3 < how) = false := decide_eq_false (by omega)
  go_enter Try.func49, Try.ntmps49
  go_wp2_with (first | (go_at_call 72; refine (bIsDay_yes _ _ (by omega) (by omega)).mono ?_; rintro e w1 ⟨rfl, rfl⟩))
  go_ret
  exact ⟨rfl, rfl⟩

theorem rCheck_arg (how f t : Int) (w : World) (h : how < 0 ∨ 3 < how ∨ ¬ (1 ≤ f ∧ f ≤ 3652059) ∨ ¬ (1 ≤ t ∧ t ≤ 3652059)) :
    Calls Try.prog 23 #[.int .i64 how, .int .i64 f, .int .i64 t] w fun e w' => e = .returned (.int .i64 1) ∧ w' = w := by
  by_cases c1 : how < 0
  · clear h
    go_enter Try.func23, Try.ntmps23
    go_wp2_with fail
    go_ret
    exact ⟨rfl, rfl⟩
  have c1' : decide (how < 0) = false := decide_eq_false c1
  by_cases c2 : 3 < how
  · clear h
    go_enter Try.func23, Try.ntmps23
    go_wp2_with fail
    go_ret
    exact ⟨rfl, rfl⟩
  have c2' : decide (3 < how) = false := decide_eq_false c2
  by_cases c3 : 1 ≤ f ∧ f ≤ 3652059
  · have c4 : ¬ (1 ≤ t ∧ t ≤ 3652059) := by omega
    have H4 : Hid (¬ (1 ≤ t ∧ t ≤ 3652059)) := c4
    clear h c4
    go_enter Try.func23, Try.ntmps23
    go_wp2_with fail
    refine (rIs_yes f _ c3.1 c3.2).mono ?_
    rintro e w1 ⟨rfl, rfl⟩
    go_wp2_with fail
    refine (rIs_no t _ H4.out).mono ?_
    rintro e w1 ⟨rfl, rfl⟩
    go_wp2_with fail
    go_ret
    exact ⟨rfl, rfl⟩
  · have H3 : Hid (¬ (1 ≤ f ∧ f ≤ 3652059)) := c3
    clear h c3
    go_enter Try.func23, Try.ntmps23
    go_wp2_with fail
    refine (rIs_no f _ H3.out).mono ?_
    rintro e w1 ⟨rfl, rfl⟩
    go_wp2_with fail
    go_ret
    exact ⟨rfl, rfl⟩
theorem rCheck_date (how f t : Int) (w : World) (h1 : 0 ≤ how) (h2 : how ≤ 3) (f1 : 1 ≤ t) (f2 : t < f) (f3 : f ≤ 3652059) :
    Calls Try.prog 23 #[.int .i64 how, .int .i64 f, .int .i64 t] w fun e w' => e = .returned (.int .i64 9) ∧ w' = w := by
  have hd0 : decide (how < 0) = false := decide_eq_false (by omega)
  have hd1 : decide (3 < how) = false := decide_eq_false (by omega)
  go_enter Try.func23, Try.ntmps23
  go_wp2_with (first | (go_at_call 38; refine (rIs_yes _ _ (by omega) (by omega)).mono ?_; rintro e w1 ⟨rfl, rfl⟩))
  go_ret
  exact ⟨rfl, rfl⟩

theorem rCheck_ok (how from' to : Int) (w : World) (h1 : 0 ≤ how) (h2 : how ≤ 3) (f1 : 1 ≤ from') (f2 : from' ≤ to) (f3 : to ≤ 3652059) :
    Calls Try.prog 23 #[.int .i64 how, .int .i64 from', .int .i64 to] w fun e w' => e = .returned (.int .i64 0) ∧ w' = w := by
  have hd0 : decide (how < 0) = false := decide_eq_false (by omega)
  have hd1 : decide (3 < how) = false := decide_eq_false (by omega)
  go_enter Try.func23, Try.ntmps23
  go_wp2_with (first | (go_at_call 38; refine (rIs_yes _ _ (by omega) (by omega)).mono ?_; rintro e w1 ⟨rfl, rfl⟩))
  go_ret
  exact ⟨rfl, rfl⟩
/-- within a year -/
theorem act_span {n y e z : Int} (h : InY n y) (h' : InY e z) (h1 : n ≤ e) (h2 : e ≤ first (y + 1) + 1) : act e z - act n y = (366 - lp y) * (e - n) := by
  obtain ⟨k, rfl⟩ : ∃ k : Nat, e = n + k := ⟨(e - n).toNat, by omega⟩
  clear h1
  induction k generalizing z with
  | zero =>
    rw [show n + ((0 : Nat) : Int) = n by omega] at *
    obtain rfl := h.uniq h'
    rw [show n - n = 0 by omega]; omega
  | succ k ih =>
    rw [show n + ((k + 1 : Nat) : Int) = n + k + 1 by omega] at *
    have hz : InY (n + k) y := ⟨by have := h.1; omega, by omega⟩
    have a := ih hz (by omega)
    have b := act_step hz h'
    rw [show n + (k : Int) + 1 - n = (n + k - n) + 1 by omega, Int.mul_add]
    omega
theorem rThirty_ok (f t y m d y' m' d' : Int) (w : World) (D : Date f y m d) (D' : Date t y' m' d') :
    Calls Try.prog 66 #[.int .i64 f, .int .i64 t] w fun e w' => e = .returned (.int .i64 (thi y' m' d' - thi y m d)) ∧ w' = w := by
  have y1 := D.ylo
  have y2 := D.yhi
  have m1 := D.mlo
  have m2 := D.mhi
  have d1 := D.dlo
  have d2 := D.d31
  have y1' := D'.ylo
  have y2' := D'.yhi
  have m1' := D'.mlo
  have m2' := D'.mhi
  have d1' := D'.dlo
  have d2' := D'.d31
  have H : Hid ((d ≤ 30 ∧ thi y m d = 360 * y + 30 * m + d ∨ d = 31 ∧ thi y m d = 360 * y + 30 * m + 30) ∧ (d' ≤ 30 ∧ thi y' m' d' = 360 * y' + 30 * m' + d' ∨ d' = 31 ∧ thi y' m' d' = 360 * y' + 30 * m' + 30)) := by
    constructor
    · unfold thi; omega
    · unfold thi; omega
  by_cases hd : d = 31 <;> by_cases hd' : d' = 31
  all_goals
    go_enter Try.func66, Try.ntmps66
    go_wp2_with fail
    refine (rCivil_ok f y m d _ D).mono ?_
    rintro e w1 ⟨rfl, rfl⟩
    go_wp2_with fail
    refine (rCivil_ok t y' m' d' _ D').mono ?_
    rintro e w1 ⟨rfl, rfl⟩
    go_wp2_with fail
    go_ret
    have := H.out
    refine ⟨?_, rfl⟩
    show Ending.returned (.int .i64 _) = Ending.returned (.int .i64 _)
    refine congrArg (fun x => Ending.returned (.int .i64 x)) ?_
    omega
theorem rPart_0 (f t : Int) (w : World) (h1 : 1 ≤ f) (h2 : f ≤ t) (h3 : t ≤ 3652059) :
    Calls Try.prog 43 #[.int .i64 0, .int .i64 f, .int .i64 t] w fun e w' => e = .returned (.tuple #[.int .i64 (t - f), .int .i64 360]) ∧ w' = w := by
  go_enter Try.func43, Try.ntmps43
  go_wp2_with fail
  refine bodyPost_ret (v := .tuple #[.int .i64 (t - f), .int .i64 360]) (by simp [results, Try.results43, go_sem]) rfl ⟨rfl, rfl⟩
theorem rPart_1 (f t : Int) (w : World) (h1 : 1 ≤ f) (h2 : f ≤ t) (h3 : t ≤ 3652059) :
    Calls Try.prog 43 #[.int .i64 1, .int .i64 f, .int .i64 t] w fun e w' => e = .returned (.tuple #[.int .i64 (t - f), .int .i64 365]) ∧ w' = w := by
  go_enter Try.func43, Try.ntmps43
  go_wp2_with fail
  refine bodyPost_ret (v := .tuple #[.int .i64 (t - f), .int .i64 365]) (by simp [results, Try.results43, go_sem]) rfl ⟨rfl, rfl⟩
theorem rPart_2 (f t y m d y' m' d' : Int) (w : World) (D : Date f y m d) (D' : Date t y' m' d') :
    Calls Try.prog 43 #[.int .i64 2, .int .i64 f, .int .i64 t] w fun e w' => e = .returned (.tuple #[.int .i64 (thi y' m' d' - thi y m d), .int .i64 360]) ∧ w' = w := by
  have t1 := thi_bounds D
  have t2 := thi_bounds D'
  go_enter Try.func43, Try.ntmps43
  go_wp2_with fail
  refine (rThirty_ok f t _ _ _ _ _ _ _ D D').mono ?_
  rintro e w1 ⟨rfl, rfl⟩
  go_wp2_with fail
  refine bodyPost_ret (v := .tuple #[.int .i64 (thi y' m' d' - thi y m d), .int .i64 360]) (by simp [results, Try.results43, go_sem]) rfl ⟨rfl, rfl⟩
set_option maxHeartbeats 400000 in
set_option maxRecDepth 100000 in
theorem rPart_3 (f t y m d y' m' d' : Int) (w : World) (D : Date f y m d) (D' : Date t y' m' d') (h2 : f ≤ t) :
    Calls Try.prog 43 #[.int .i64 3, .int .i64 f, .int .i64 t] w fun e w' => e = .returned (.tuple #[.int .i64 (act t y' - act f y), .int .i64 133590]) ∧ w' = w := by
  have b1 := D.bounds.1
  have b2 := D'.bounds.2
  have t1 := act_bounds D
  have t2 := act_bounds D'
  go_enter Try.func43, Try.ntmps43
  go_wp2_with fail
  go_loop [8, 9] (fun s i => ∃ A z : Int, f ≤ A ∧ A ≤ t ∧ InY A z ∧ i = .int .i64 A ∧ s = .int .i64 (act A z - act f y)) (fun _ i => t.toNat - (intOf i).toNat)
  case atStart => exact ⟨f, y, by omega, h2, D.inY, rfl, by congr 1; omega⟩
  case round =>
    obtain ⟨A, z, hA1, hA2, hz, rfl, rfl⟩ := hrel
    by_cases hAt : A = t
    · subst hAt
      obtain rfl := hz.uniq D'.inY
      go_wp2_with fail
      refine bodyPost_ret (v := .tuple #[.int .i64 (act A z - act f y), .int .i64 133590]) (by simp [results, Try.results43, go_sem]) rfl ⟨rfl, rfl⟩
    · have hlt : A < t := by omega
      obtain ⟨z0, m0, d0, D0⟩ := date_ex A (by omega) (by omega)
      obtain rfl := hz.uniq D0.inY
      have u1 := act_bounds D0
      have z1 := D0.ylo
      have z2 := D0.yhi
      have hf := first_mono (show z + 1 ≤ 10000 by omega)
      rw [first_10000] at hf
      have hA3 := hz.2
      have hA4 := hz.1
      have N : ∀ w, Calls Try.prog 68 #[.int .i64 z, .int .i64 12, .int .i64 31] w fun e w' => e = .returned (.int .i64 (first (z + 1))) ∧ w' = w := by
        intro w
        have := rNumber_ok z 12 31 w z1 z2 (by omega) (by omega) (by omega) (by omega)
        rw [show first z + ahead z ((12 : Int) - 1).toNat + 31 = first (z + 1) by rw [first_step, show ((12 : Int) - 1).toNat = 11 from rfl, (ahead_tab z).2.2.2.2.2.2.2.2.2.2.2.1]; omega] at this
        exact this
      have l1 := lp_lo z
      have l2 := lp_hi z
      obtain ⟨E, hE⟩ : ∃ E, E = min (first (z + 1) + 1) t := ⟨_, rfl⟩
      obtain ⟨zE, mE, dE, DE⟩ := date_ex E (by omega) (by omega)
      have hs := act_span hz DE.inY (by omega) (by omega)
      have u2 := act_bounds DE
      have hE' : (E = first (z + 1) + 1 ∧ first (z + 1) + 1 ≤ t) ∨ (E = t ∧ t < first (z + 1) + 1) := by omega
      clear hE
      by_cases hl : leap z
      · rw [lp_yes hl] at hs
        have HS : Hid (act E zE - act A z = (366 - 1) * (E - A)) := hs
        clear hs
        rcases hE' with ⟨hE, hq⟩ | ⟨hE, hq⟩
        all_goals
          subst hE
          go_wp2_with fail
          refine (rCivil_ok A z m0 d0 _ D0).mono ?_
          rintro e w1 ⟨rfl, rfl⟩
          go_wp2_with fail
          refine (N _).mono ?_
          rintro e w1 ⟨rfl, rfl⟩
          go_wp2_with fail
          refine (rLeap_ok z _ (by omega)).mono ?_
          rintro e w1 ⟨rfl, rfl⟩
          go_wp2_with fail
          have := HS.out
          exact ⟨⟨_, zE, by omega, by omega, DE.inY, rfl, by congr 1; omega⟩, by simp [intOf]; omega⟩
      · rw [lp_no hl] at hs
        have HS : Hid (act E zE - act A z = (366 - 0) * (E - A)) := hs
        clear hs
        rcases hE' with ⟨hE, hq⟩ | ⟨hE, hq⟩
        all_goals
          subst hE
          go_wp2_with fail
          refine (rCivil_ok A z m0 d0 _ D0).mono ?_
          rintro e w1 ⟨rfl, rfl⟩
          go_wp2_with fail
          refine (N _).mono ?_
          rintro e w1 ⟨rfl, rfl⟩
          go_wp2_with fail
          refine (rLeap_ok z _ (by omega)).mono ?_
          rintro e w1 ⟨rfl, rfl⟩
          go_wp2_with fail
          have := HS.out
          exact ⟨⟨_, zE, by omega, by omega, DE.inY, rfl, by congr 1; omega⟩, by simp [intOf]; omega⟩

theorem Part_err (how f t e : Int) (w : World) (he : 1 ≤ e) (C : ∀ w, Calls Try.prog 49 #[.int .i64 how, .int .i64 f, .int .i64 t] w fun r w' => r = .returned (.int .i64 e) ∧ w' = w) :
    Calls Try.prog 32 #[.int .i64 how, .int .i64 f, .int .i64 t] w fun r w' => r = .returned (.tuple #[.int .i64 0, .int .i64 0, .int .i64 e]) ∧ w' = w := by
  go_enter Try.func32, Try.ntmps32
  go_wp2_with fail
  refine (C _).mono ?_
  rintro e w1 ⟨rfl, rfl⟩
  go_wp2_with fail
  refine bodyPost_ret (v := .tuple #[.int .i64 0, .int .i64 0, .int .i64 e]) (by simp [results, Try.results32, go_sem]) rfl ⟨rfl, rfl⟩
end Go.Proofs.Ytmaikgebdegkgaa.cb
