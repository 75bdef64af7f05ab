/- The contracts of cal's and basis' functions, of right arguments. -/
import Derived.Test.YtmaikgebdegkgaaCc
namespace Go.Proofs.Ytmaikgebdegkgaa.cb
open Go.RowKit
set_option linter.unusedVariables false

theorem Date.d31 {n y m d : Int} (D : Date n y m d) : d ≤ 31 := by have := D.dhi; have := mlen_hi y m; omega
theorem Number_ok (n y m d : Int) (w : World) (D : Date n y m d) :
    Calls Try.prog 93 #[.int .i64 y, .int .i64 m, .int .i64 d] w fun e w' => e = .returned (.tuple #[.int .i64 n, .int .i64 0]) ∧ w' = w := by
  have h31 := D.d31
  obtain ⟨y1, y2, m1, m2, d1, d2, e⟩ := D
  subst e
  have hd0 : decide (d < 1) = false := decide_eq_false (by omega)
  have hd1 : decide (mlen y m < d) = false := decide_eq_false (by omega)
  go_enter Try.func93, Try.ntmps93
  go_wp2_with (first | (go_at_call 105; refine (isYear_yes _ _ y1 y2).mono ?_; rintro e w1 ⟨rfl, rfl⟩) | (go_at_call 106; refine (isMonth_yes _ _ m1 m2).mono ?_; rintro e w1 ⟨rfl, rfl⟩) | (go_at_call 103; refine (length_ok y m _ (by omega)).mono ?_; rintro e w1 ⟨rfl, rfl⟩) | (go_at_call 107; refine (number_ok y m d _ y1 y2 m1 m2 d1 h31).mono ?_; rintro e w1 ⟨rfl, rfl⟩))
  refine bodyPost_ret (v := .tuple #[.int .i64 (first y + ahead y (m - 1).toNat + d), .int .i64 0]) (by simp [results, Try.results93, go_sem]) rfl ⟨rfl, rfl⟩
theorem Civil_ok (n y m d : Int) (w : World) (D : Date n y m d) :
    Calls Try.prog 73 #[.int .i64 n] w fun e w' => e = .returned (.tuple #[.int .i64 y, .int .i64 m, .int .i64 d, .int .i64 0]) ∧ w' = w := by
  obtain ⟨b1, b2⟩ := D.bounds
  go_enter Try.func73, Try.ntmps73
  go_wp2_with (first | (go_at_call 90; refine (isDay_yes _ _ b1 b2).mono ?_; rintro e w1 ⟨rfl, rfl⟩) | (go_at_call 91; refine (civil_ok n y m d _ D).mono ?_; rintro e w1 ⟨rfl, rfl⟩))
  refine bodyPost_ret (v := .tuple #[.int .i64 y, .int .i64 m, .int .i64 d, .int .i64 0]) (by simp [results, Try.results73, go_sem]) rfl ⟨rfl, rfl⟩
theorem Length_ok (y m : Int) (w : World) (y1 : 1 ≤ y) (y2 : y ≤ 9999) (m1 : 1 ≤ m) (m2 : m ≤ 12) :
    Calls Try.prog 104 #[.int .i64 y, .int .i64 m] w fun e w' => e = .returned (.tuple #[.int .i64 (mlen y m), .int .i64 0]) ∧ w' = w := by
  go_enter Try.func104, Try.ntmps104
  go_wp2_with (first | (go_at_call 105; refine (isYear_yes _ _ y1 y2).mono ?_; rintro e w1 ⟨rfl, rfl⟩) | (go_at_call 106; refine (isMonth_yes _ _ m1 m2).mono ?_; rintro e w1 ⟨rfl, rfl⟩) | (go_at_call 103; refine (length_ok y m _ (by omega)).mono ?_; rintro e w1 ⟨rfl, rfl⟩))
  refine bodyPost_ret (v := .tuple #[.int .i64 (mlen y m), .int .i64 0]) (by simp [results, Try.results104, go_sem]) rfl ⟨rfl, rfl⟩

/-- the day that is k months later -/
def shy (y m k : Int) : Int := ((y - 1) * 12 + m - 1 + k) / 12 + 1
def shm (y m k : Int) : Int := ((y - 1) * 12 + m - 1 + k) % 12 + 1
def shd (y m d k : Int) : Int := min d (mlen (shy y m k) (shm y m k))
def shn (y m d k : Int) : Int := first (shy y m k) + ahead (shy y m k) (shm y m k - 1).toNat + shd y m d k
theorem Date.shift {n y m d : Int} (D : Date n y m d) (k : Int) (h1 : 0 ≤ (y - 1) * 12 + m - 1 + k) (h2 : (y - 1) * 12 + m - 1 + k ≤ 119987) : Date (shn y m d k) (shy y m k) (shm y m k) (shd y m d k) := by
  have := D.dlo
  have := mlen_lo (shy y m k) (shm y m k)
  refine ⟨?_, ?_, ?_, ?_, ?_, ?_, rfl⟩
  · unfold shy; omega
  · unfold shy; omega
  · unfold shm; omega
  · unfold shm; omega
  · unfold shd; omega
  · unfold shd; omega
theorem bIsDay_yes (y : Int) (w : World) (h1 : 1 ≤ y) (h2 : y ≤ 3652059) :
    Calls Try.prog 72 #[.int .i64 y] w fun e w' => e = .returned (.bool true) ∧ w' = w := by
  go_enter Try.func72, Try.ntmps72
  go_wp2
  go_ret
  exact ⟨rfl, rfl⟩
theorem bIsLeap_ok (y : Int) (w : World) (y1 : 1 ≤ y) (y2 : y ≤ 9999) :
    Calls Try.prog 92 #[.int .i64 y] w fun e w' => e = .returned (.bool (decide (leap y))) ∧ w' = w := by
  have e : (mlen y 2 == 29) = decide (leap y) := by
    unfold mlen lp
    by_cases h : leap y <;> simp [h]
  go_enter Try.func92, Try.ntmps92
  go_wp2_with (go_at_call 104; refine (Length_ok y 2 _ y1 y2 (by omega) (by omega)).mono ?_; rintro e w1 ⟨rfl, rfl⟩)
  go_ret
  exact ⟨rfl, rfl⟩
theorem check_ok (how from' to : Int) (w : World) (h1 : 0 ≤ how) (h2 : how ≤ 3) (f1 : 1 ≤ from') (f2 : from' ≤ to) (f3 : to ≤ 3652059) :
    Calls Try.prog 49 #[.int .i64 how, .int .i64 from', .int .i64 to] w fun e w' => e = .returned (.int .i64 0) ∧ w' = w := by
  have hd0 : decide (how < 0) = false := decide_eq_false (by omega)
  have hd1 : decide (3 < how) = false := decide_eq_false (by omega)
  go_enter Try.func49, Try.ntmps49
  go_wp2_with (go_at_call 72; refine (bIsDay_yes _ _ (by omega) (by omega)).mono ?_; rintro e w1 ⟨rfl, rfl⟩)
  go_ret
  exact ⟨rfl, rfl⟩
theorem thirties_ok (n y m d : Int) (w : World) (D : Date n y m d) :
    Calls Try.prog 50 #[.int .i64 n] w fun e w' => e = .returned (.int .i64 (thi y m d)) ∧ w' = w := by
  have y1 := D.ylo
  have y2 := D.yhi
  have m1 := D.mlo
  have m2 := D.mhi
  have d1 := D.dlo
  have d2 := D.d31
  unfold thi
  go_enter Try.func50, Try.ntmps50
  go_wp2_with (go_at_call 73; refine (Civil_ok n y m d _ D).mono ?_; rintro e w1 ⟨rfl, rfl⟩)
  all_goals go_ret
  all_goals exact ⟨by simp; omega, rfl⟩
theorem date_first {y : Int} (h1 : 1 ≤ y) (h2 : y ≤ 9999) : Date (first y + 1) y 1 1 := ⟨h1, h2, by omega, by omega, by omega, by have := mlen_lo y 1; omega, by rw [show ((1 : Int) - 1).toNat = 0 from rfl, ahead]; omega⟩
theorem leapDaysAhead_ok (n y m d : Int) (w : World) (D : Date n y m d) :
    Calls Try.prog 74 #[.int .i64 n] w fun e w' => e = .returned (.int .i64 (lpd n y)) ∧ w' = w := by
  have y1 := D.ylo
  have y2 := D.yhi
  have hb := D.bounds
  have hi := D.inY
  have hf := first_mono y1
  have hi1 := hi.1
  rw [first_1] at hf
  unfold lpd
  clear hi
  go_enter Try.func74, Try.ntmps74
  go_wp2_with (first | (go_at_call 73; refine (Civil_ok n y m d _ D).mono ?_; rintro e w1 ⟨rfl, rfl⟩) | (go_at_call 92; refine (bIsLeap_ok y _ y1 y2).mono ?_; rintro e w1 ⟨rfl, rfl⟩) | (go_at_call 93; refine (Number_ok _ y 1 1 _ (date_first y1 y2)).mono ?_; rintro e w1 ⟨rfl, rfl⟩))
  all_goals go_ret
  all_goals exact ⟨by simp, rfl⟩
theorem actuals_ok (n y m d : Int) (w : World) (D : Date n y m d) :
    Calls Try.prog 51 #[.int .i64 n] w fun e w' => e = .returned (.int .i64 (act n y)) ∧ w' = w := by
  have hb := D.bounds
  have hl := lpd_bounds D.inY D.ylo D.yhi
  unfold act
  go_enter Try.func51, Try.ntmps51
  go_wp2_with (first | (go_at_call 74; refine (leapDaysAhead_ok n y m d _ D).mono ?_; rintro e w1 ⟨rfl, rfl⟩))
  go_ret
  exact ⟨by simp, rfl⟩
end Go.Proofs.Ytmaikgebdegkgaa.cb
