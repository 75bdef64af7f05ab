/- The contracts of Part; what the laws of basis lean on. -/
import Derived.Test.YtmnnkipfciahmaeCd
namespace Go.Proofs.Ytmnnkipfciahmae
open Go.RowKit
set_option linter.unusedVariables false

theorem Part_0 (f t : Int) (w : World) (h1 : 1 ≤ f) (h2 : f ≤ t) (h3 : t ≤ 3652059) :
    Calls Try.prog 6 #[.int .i64 0, .int .i64 f, .int .i64 t] w fun e w' => e = .returned (.tuple #[.int .i64 (t - f), .int .i64 360, .int .i64 0]) ∧ w' = w := by
  go_enter Try.func6, Try.ntmps6
  go_wp2_with (first | (go_at_call 15; refine (check_ok 0 f t _ (by omega) (by omega) h1 h2 h3).mono ?_; rintro e w1 ⟨rfl, rfl⟩))
  refine bodyPost_ret (v := .tuple #[.int .i64 (t - f), .int .i64 360, .int .i64 0]) (by simp [results, Try.results6, go_sem]) rfl ⟨rfl, rfl⟩
theorem Part_1 (f t : Int) (w : World) (h1 : 1 ≤ f) (h2 : f ≤ t) (h3 : t ≤ 3652059) :
    Calls Try.prog 6 #[.int .i64 1, .int .i64 f, .int .i64 t] w fun e w' => e = .returned (.tuple #[.int .i64 (t - f), .int .i64 365, .int .i64 0]) ∧ w' = w := by
  go_enter Try.func6, Try.ntmps6
  go_wp2_with (first | (go_at_call 15; refine (check_ok 1 f t _ (by omega) (by omega) h1 h2 h3).mono ?_; rintro e w1 ⟨rfl, rfl⟩))
  refine bodyPost_ret (v := .tuple #[.int .i64 (t - f), .int .i64 365, .int .i64 0]) (by simp [results, Try.results6, go_sem]) rfl ⟨rfl, rfl⟩
theorem Part_2 (f t y m d y' m' d' : Int) (w : World) (D : Date f y m d) (D' : Date t y' m' d') (h2 : f ≤ t) :
    Calls Try.prog 6 #[.int .i64 2, .int .i64 f, .int .i64 t] w fun e w' => e = .returned (.tuple #[.int .i64 (thi y' m' d' - thi y m d), .int .i64 360, .int .i64 0]) ∧ w' = w := by
  obtain ⟨h1, -⟩ := D.bounds
  obtain ⟨-, h3⟩ := D'.bounds
  have t1 := thi_bounds D
  have t2 := thi_bounds D'
  go_enter Try.func6, Try.ntmps6
  go_wp2_with fail
  refine (check_ok 2 f t _ (by omega) (by omega) h1 h2 h3).mono ?_
  rintro e w1 ⟨rfl, rfl⟩
  go_wp2_with fail
  refine (thirties_ok t y' m' d' _ D').mono ?_
  rintro e w1 ⟨rfl, rfl⟩
  go_wp2_with fail
  refine (thirties_ok f y m d _ D).mono ?_
  rintro e w1 ⟨rfl, rfl⟩
  go_wp2_with fail
  refine bodyPost_ret (v := .tuple #[.int .i64 (thi y' m' d' - thi y m d), .int .i64 360, .int .i64 0]) (by simp [results, Try.results6, go_sem]) rfl ⟨rfl, rfl⟩
theorem act_bounds {n y m d : Int} (D : Date n y m d) : -3700000 ≤ act n y ∧ act n y ≤ 1400000000 := by
  have := lpd_bounds D.inY D.ylo D.yhi
  have := D.bounds
  unfold act; omega
theorem Part_3 (f t y m d y' m' d' : Int) (w : World) (D : Date f y m d) (D' : Date t y' m' d') (h2 : f ≤ t) :
    Calls Try.prog 6 #[.int .i64 3, .int .i64 f, .int .i64 t] w fun e w' => e = .returned (.tuple #[.int .i64 (act t y' - act f y), .int .i64 133590, .int .i64 0]) ∧ w' = w := by
  obtain ⟨h1, -⟩ := D.bounds
  obtain ⟨-, h3⟩ := D'.bounds
  have t1 := act_bounds D
  have t2 := act_bounds D'
  go_enter Try.func6, Try.ntmps6
  go_wp2_with fail
  refine (check_ok 3 f t _ (by omega) (by omega) h1 h2 h3).mono ?_
  rintro e w1 ⟨rfl, rfl⟩
  go_wp2_with fail
  refine (actuals_ok t y' m' d' _ D').mono ?_
  rintro e w1 ⟨rfl, rfl⟩
  go_wp2_with fail
  refine (actuals_ok f y m d _ D).mono ?_
  rintro e w1 ⟨rfl, rfl⟩
  go_wp2_with fail
  refine bodyPost_ret (v := .tuple #[.int .i64 (act t y' - act f y), .int .i64 133590, .int .i64 0]) (by simp [results, Try.results6, go_sem]) rfl ⟨rfl, rfl⟩
theorem date_a : Date 738886 2024 1 1 := ⟨by decide, by decide, by decide, by decide, by decide, by decide, by decide⟩
theorem date_b : Date 738917 2024 2 1 := ⟨by decide, by decide, by decide, by decide, by decide, by decide, by decide⟩
theorem thi_a : thi 2024 1 1 = 728671 := by decide
theorem thi_b : thi 2024 2 1 = 728701 := by decide
theorem awake04 (w : World) : Calls Try.prog 10 #[] w fun e w' => e = .returned (.bool true) ∧ w' = w := by
  have P2 := fun w => Part_2 738886 738917 _ _ _ _ _ _ w date_a date_b (by omega)
  rw [thi_a, thi_b] at P2
  go_enter Try.func10, Try.ntmps10
  go_wp2_with fail
  refine (Number_ok _ _ _ _ _ date_a).mono ?_
  rintro e w1 ⟨rfl, rfl⟩
  go_wp2_with fail
  refine (Number_ok _ _ _ _ _ date_b).mono ?_
  rintro e w1 ⟨rfl, rfl⟩
  go_wp2_with fail
  refine (Part_0 738886 738917 _ (by omega) (by omega) (by omega)).mono ?_
  rintro e w1 ⟨rfl, rfl⟩
  go_wp2_with fail
  refine (P2 _).mono ?_
  rintro e w1 ⟨rfl, rfl⟩
  go_wp2_with fail
  go_ret
  exact ⟨rfl, rfl⟩
theorem u_mod (a : Int) {k : Int} (hk : 0 < k) : 0 ≤ (IntKind.u64.wrap a).tmod k ∧ (IntKind.u64.wrap a).tmod k < k := by
  have h : 0 ≤ IntKind.u64.wrap a := by rw [IntKind.wrap_u64]; omega
  rw [Int.tmod_eq_emod_of_nonneg h]
  exact ⟨Int.emod_nonneg _ (by omega), Int.emod_lt_of_pos _ hk⟩
theorem days_ok (a b c : Int) (w : World) : Calls Try.prog 11 #[.int .i64 a, .int .i64 b, .int .i64 c] w fun e w' => ∃ x y z : Int, (1 ≤ x ∧ x ≤ y ∧ y ≤ z ∧ z ≤ 3652059) ∧ e = .returned (.tuple #[.int .i64 x, .int .i64 y, .int .i64 z]) ∧ w' = w := by
  have ha := u_mod a (show (0 : Int) < 3652059 by omega)
  have hb := u_mod b (show (0 : Int) < 4000 by omega)
  have hc := u_mod c (show (0 : Int) < 4000 by omega)
  go_enter Try.func11, Try.ntmps11
  go_wp2
  all_goals
    refine bodyPost_ret (v := .tuple #[_, _, _]) (by simp [results, Try.results11, go_sem]; exact ⟨rfl, rfl, rfl⟩) rfl ⟨_, _, _, ⟨?_, ?_, ?_, ?_⟩, rfl, rfl⟩ <;> omega
end Go.Proofs.Ytmnnkipfciahmae
