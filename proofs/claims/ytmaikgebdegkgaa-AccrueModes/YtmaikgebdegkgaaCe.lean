/- The contracts of Part; what the laws of basis lean on. -/
import Derived.Test.YtmaikgebdegkgaaCd
namespace Go.Proofs.Ytmaikgebdegkgaa.cb
open Go.RowKit
set_option linter.unusedVariables false

theorem Part_0 (f t : Int) (w : World) (h1 : 1 ≤ f) (h2 : f ≤ t) (h3 : t ≤ 3652059) :
    Calls Try.prog 32 #[.int .i64 0, .int .i64 f, .int .i64 t] w fun e w' => e = .returned (.tuple #[.int .i64 (t - f), .int .i64 360, .int .i64 0]) ∧ w' = w := by
  go_enter Try.func32, Try.ntmps32
  go_wp2_with (first | (go_at_call 49; refine (check_ok 0 f t _ (by omega) (by omega) h1 h2 h3).mono ?_; rintro e w1 ⟨rfl, rfl⟩))
  refine bodyPost_ret (v := .tuple #[.int .i64 (t - f), .int .i64 360, .int .i64 0]) (by simp [results, Try.results32, go_sem]) rfl ⟨rfl, rfl⟩
theorem Part_1 (f t : Int) (w : World) (h1 : 1 ≤ f) (h2 : f ≤ t) (h3 : t ≤ 3652059) :
    Calls Try.prog 32 #[.int .i64 1, .int .i64 f, .int .i64 t] w fun e w' => e = .returned (.tuple #[.int .i64 (t - f), .int .i64 365, .int .i64 0]) ∧ w' = w := by
  go_enter Try.func32, Try.ntmps32
  go_wp2_with (first | (go_at_call 49; refine (check_ok 1 f t _ (by omega) (by omega) h1 h2 h3).mono ?_; rintro e w1 ⟨rfl, rfl⟩))
  refine bodyPost_ret (v := .tuple #[.int .i64 (t - f), .int .i64 365, .int .i64 0]) (by simp [results, Try.results32, go_sem]) rfl ⟨rfl, rfl⟩
theorem Part_2 (f t y m d y' m' d' : Int) (w : World) (D : Date f y m d) (D' : Date t y' m' d') (h2 : f ≤ t) :
    Calls Try.prog 32 #[.int .i64 2, .int .i64 f, .int .i64 t] w fun e w' => e = .returned (.tuple #[.int .i64 (thi y' m' d' - thi y m d), .int .i64 360, .int .i64 0]) ∧ w' = w := by
  obtain ⟨h1, -⟩ := D.bounds
  obtain ⟨-, h3⟩ := D'.bounds
  have t1 := thi_bounds D
  have t2 := thi_bounds D'
  go_enter Try.func32, Try.ntmps32
  go_wp2_with fail
  refine (check_ok 2 f t _ (by omega) (by omega) h1 h2 h3).mono ?_
  rintro e w1 ⟨rfl, rfl⟩
  go_wp2_with fail
  refine (thirties_ok t y' m' d' _ D').mono ?_
  rintro e w1 ⟨rfl, rfl⟩
  go_wp2_with fail
  refine (thirties_ok f y m d _ D).mono ?_
  rintro e w1 ⟨rfl, rfl⟩
  go_wp2_with fail
  refine bodyPost_ret (v := .tuple #[.int .i64 (thi y' m' d' - thi y m d), .int .i64 360, .int .i64 0]) (by simp [results, Try.results32, go_sem]) rfl ⟨rfl, rfl⟩
theorem act_bounds {n y m d : Int} (D : Date n y m d) : -3700000 ≤ act n y ∧ act n y ≤ 1400000000 := by
  have := lpd_bounds D.inY D.ylo D.yhi
  have := D.bounds
  unfold act; omega
theorem Part_3 (f t y m d y' m' d' : Int) (w : World) (D : Date f y m d) (D' : Date t y' m' d') (h2 : f ≤ t) :
    Calls Try.prog 32 #[.int .i64 3, .int .i64 f, .int .i64 t] w fun e w' => e = .returned (.tuple #[.int .i64 (act t y' - act f y), .int .i64 133590, .int .i64 0]) ∧ w' = w := by
  obtain ⟨h1, -⟩ := D.bounds
  obtain ⟨-, h3⟩ := D'.bounds
  have t1 := act_bounds D
  have t2 := act_bounds D'
  go_enter Try.func32, Try.ntmps32
  go_wp2_with fail
  refine (check_ok 3 f t _ (by omega) (by omega) h1 h2 h3).mono ?_
  rintro e w1 ⟨rfl, rfl⟩
  go_wp2_with fail
  refine (actuals_ok t y' m' d' _ D').mono ?_
  rintro e w1 ⟨rfl, rfl⟩
  go_wp2_with fail
  refine (actuals_ok f y m d _ D).mono ?_
  rintro e w1 ⟨rfl, rfl⟩
  go_wp2_with fail
  refine bodyPost_ret (v := .tuple #[.int .i64 (act t y' - act f y), .int .i64 133590, .int .i64 0]) (by simp [results, Try.results32, go_sem]) rfl ⟨rfl, rfl⟩
theorem date_a : Date 738886 2024 1 1 := ⟨by decide, by decide, by decide, by decide, by decide, by decide, by decide⟩
theorem date_b : Date 738917 2024 2 1 := ⟨by decide, by decide, by decide, by decide, by decide, by decide, by decide⟩
theorem thi_a : thi 2024 1 1 = 728671 := by decide
theorem thi_b : thi 2024 2 1 = 728701 := by decide
theorem u_mod (a : Int) {k : Int} (hk : 0 < k) : 0 ≤ (IntKind.u64.wrap a).tmod k ∧ (IntKind.u64.wrap a).tmod k < k := by
  have h : 0 ≤ IntKind.u64.wrap a := by rw [IntKind.wrap_u64]; omega
  rw [Int.tmod_eq_emod_of_nonneg h]
  exact ⟨Int.emod_nonneg _ (by omega), Int.emod_lt_of_pos _ hk⟩
end Go.Proofs.Ytmaikgebdegkgaa.cb
