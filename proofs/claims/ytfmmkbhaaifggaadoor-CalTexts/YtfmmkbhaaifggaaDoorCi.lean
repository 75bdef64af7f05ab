/- The contracts of cal's functions, and awake (its texts too). -/
import Derived.Test.YtfmmkbhaaifggaaDoorCc
namespace Go.Proofs.YtfmmkbhaaifggaaDoor
open Go.RowKit
set_option linter.unusedVariables false

theorem itoa_1 (w : World) : Calls Tryd.prog 27 #[.int .i64 1] w fun e w' => e = .returned (.string ⟨#[49]⟩) ∧ w' = w := by
  go_enter Tryd.func27, Tryd.ntmps27
  go_wp2_with go_in
  go_ret
  exact ⟨rfl, rfl⟩
set_option maxRecDepth 100000 in
theorem repeat_1 (w : World) : Calls Tryd.prog 28 #[.string ⟨#[48]⟩, .int .i64 1] w fun e w' => e = .returned (.string ⟨#[48]⟩) ∧ w' = w := by
  go_enter Tryd.func28, Tryd.ntmps28
  go_wp2_with go_in
  go_ret
  exact ⟨rfl, rfl⟩
set_option maxRecDepth 100000 in
theorem mul_1_3 (w : World) : Calls Tryd.prog 33 #[.int .u64 1, .int .u64 3] w fun e w' => e = .returned (.tuple #[.int .u64 0, .int .u64 3]) ∧ w' = w := by
  go_enter Tryd.func33, Tryd.ntmps33
  go_wp2_with go_in
  refine bodyPost_ret (v := .tuple #[.int .u64 0, .int .u64 3]) (by kernel_rfl) rfl ⟨rfl, rfl⟩
theorem hp_go (s : ByteArray) (b : Bool) (w : World) (hs : 1 ≤ s.size) (h : ((s.extract 0 1).toList == [48]) = b) :
    Calls Tryd.prog 34 #[.string s, .string ⟨#[48]⟩] w fun e w' => e = .returned (.bool b) ∧ w' = w := by
  have h1 : (1 : Int) ≤ s.size := by omega
  go_enter Tryd.func34, Tryd.ntmps34
  go_wp2_with go_in
  go_ret
  exact ⟨by simp, rfl⟩
set_option maxRecDepth 100000 in
theorem repeat_3 (w : World) : Calls Tryd.prog 28 #[.string ⟨#[48]⟩, .int .i64 3] w fun e w' => e = .returned (.string ⟨#[48, 48, 48]⟩) ∧ w' = w := by
  go_enter Tryd.func28, Tryd.ntmps28
  go_wp2_with fail
  refine (mul_1_3 _).mono ?_
  rintro e w1 ⟨rfl, rfl⟩
  go_wp2_with fail
  refine (hp_go _ false _ (Nat.le_of_ble_eq_true (by kernel_rfl)) (by kernel_rfl)).mono ?_
  rintro e w1 ⟨rfl, rfl⟩
  go_wp2_with fail
  refine (hp_go _ false _ (Nat.le_of_ble_eq_true (by kernel_rfl)) (by kernel_rfl)).mono ?_
  rintro e w1 ⟨rfl, rfl⟩
  go_wp2_with fail
  refine (hp_go _ true _ (Nat.le_of_ble_eq_true (by kernel_rfl)) (by kernel_rfl)).mono ?_
  rintro e w1 ⟨rfl, rfl⟩
  go_wp2_with fail
  go_ret
  exact ⟨by kernel_rfl, rfl⟩
theorem padded_4 (w : World) : Calls Tryd.prog 17 #[.int .i64 1, .int .i64 4] w fun e w' => e = .returned (.string ⟨#[48, 48, 48, 49]⟩) ∧ w' = w := by
  go_enter Tryd.func17, Tryd.ntmps17
  go_wp2_with fail
  refine (itoa_1 _).mono ?_
  rintro e w1 ⟨rfl, rfl⟩
  go_wp2_with fail
  refine (repeat_3 _).mono ?_
  rintro e w1 ⟨rfl, rfl⟩
  go_wp2_with fail
  go_ret
  exact ⟨rfl, rfl⟩
theorem padded_2 (w : World) : Calls Tryd.prog 17 #[.int .i64 1, .int .i64 2] w fun e w' => e = .returned (.string ⟨#[48, 49]⟩) ∧ w' = w := by
  go_enter Tryd.func17, Tryd.ntmps17
  go_wp2_with fail
  refine (itoa_1 _).mono ?_
  rintro e w1 ⟨rfl, rfl⟩
  go_wp2_with fail
  refine (repeat_1 _).mono ?_
  rintro e w1 ⟨rfl, rfl⟩
  go_wp2_with fail
  go_ret
  exact ⟨rfl, rfl⟩
theorem date_1 : Date 1 1 1 1 := ⟨by decide, by decide, by decide, by decide, by decide, by decide, by decide⟩
theorem Write_1 (w : World) : Calls Tryd.prog 7 #[.int .i64 1] w fun e w' => e = .returned (.tuple #[.string ⟨#[48, 48, 48, 49, 45, 48, 49, 45, 48, 49]⟩, .int .i64 0]) ∧ w' = w := by
  go_enter Tryd.func7, Tryd.ntmps7
  go_wp2_with fail
  refine (isDay_yes 1 _ (by omega) (by omega)).mono ?_
  rintro e w1 ⟨rfl, rfl⟩
  go_wp2_with fail
  refine (civil_ok 1 1 1 1 _ date_1).mono ?_
  rintro e w1 ⟨rfl, rfl⟩
  go_wp2_with fail
  refine (padded_4 _).mono ?_
  rintro e w1 ⟨rfl, rfl⟩
  go_wp2_with fail
  refine (padded_2 _).mono ?_
  rintro e w1 ⟨rfl, rfl⟩
  go_wp2_with fail
  refine (padded_2 _).mono ?_
  rintro e w1 ⟨rfl, rfl⟩
  go_wp2_with fail
  refine bodyPost_ret (v := .tuple #[.string ⟨#[48, 48, 48, 49, 45, 48, 49, 45, 48, 49]⟩, .int .i64 0]) (by simp [results, Tryd.results7, go_sem]; rfl) rfl ⟨rfl, rfl⟩
theorem Date.d31 {n y m d : Int} (D : Date n y m d) : d ≤ 31 := by have := D.dhi; have := mlen_hi y m; omega
theorem Number_ok (n y m d : Int) (w : World) (D : Date n y m d) :
    Calls Tryd.prog 11 #[.int .i64 y, .int .i64 m, .int .i64 d] w fun e w' => e = .returned (.tuple #[.int .i64 n, .int .i64 0]) ∧ w' = w := by
  have h31 := D.d31
  obtain ⟨y1, y2, m1, m2, d1, d2, e⟩ := D
  subst e
  have hd0 : decide (d < 1) = false := decide_eq_false (by omega)
  have hd1 : decide (mlen y m < d) = false := decide_eq_false (by omega)
  go_enter Tryd.func11, Tryd.ntmps11
  go_wp2_with (first | (go_at_call 19; refine (isYear_yes _ _ y1 y2).mono ?_; rintro e w1 ⟨rfl, rfl⟩) | (go_at_call 20; refine (isMonth_yes _ _ m1 m2).mono ?_; rintro e w1 ⟨rfl, rfl⟩) | (go_at_call 21; refine (length_ok y m _ (by omega)).mono ?_; rintro e w1 ⟨rfl, rfl⟩) | (go_at_call 22; refine (number_ok y m d _ y1 y2 m1 m2 d1 h31).mono ?_; rintro e w1 ⟨rfl, rfl⟩))
  refine bodyPost_ret (v := .tuple #[.int .i64 (first y + ahead y (m - 1).toNat + d), .int .i64 0]) (by simp [results, Tryd.results11, go_sem]) rfl ⟨rfl, rfl⟩
theorem weekday_ok (n : Int) (w : World) (h1 : 1 ≤ n) (h2 : n ≤ 3652059) :
    Calls Tryd.prog 25 #[.int .i64 n] w fun e w' => e = .returned (.int .i64 ((n - 1) % 7)) ∧ w' = w := by
  go_enter Tryd.func25, Tryd.ntmps25
  go_wp2_with fail
  go_ret
  exact ⟨rfl, rfl⟩
theorem Weekday_ok (n : Int) (w : World) (h1 : 1 ≤ n) (h2 : n ≤ 3652059) :
    Calls Tryd.prog 14 #[.int .i64 n] w fun e w' => e = .returned (.tuple #[.int .i64 ((n - 1) % 7), .int .i64 0]) ∧ w' = w := by
  go_enter Tryd.func14, Tryd.ntmps14
  go_wp2_with (first | (go_at_call 15; refine (isDay_yes _ _ h1 h2).mono ?_; rintro e w1 ⟨rfl, rfl⟩) | (go_at_call 25; refine (weekday_ok n _ h1 h2).mono ?_; rintro e w1 ⟨rfl, rfl⟩))
  refine bodyPost_ret (v := .tuple #[.int .i64 ((n - 1) % 7), .int .i64 0]) (by simp [results, Tryd.results14, go_sem]) rfl ⟨rfl, rfl⟩
theorem date_70 : Date 719163 1970 1 1 := ⟨by decide, by decide, by decide, by decide, by decide, by decide, by decide⟩
theorem awake03 (w : World) : Calls Tryd.prog 6 #[] w fun e w' => e = .returned (.bool true) ∧ w' = w := by
  go_enter Tryd.func6, Tryd.ntmps6
  go_wp2_with fail
  refine (Number_ok _ _ _ _ _ date_70).mono ?_
  rintro e w1 ⟨rfl, rfl⟩
  go_wp2_with fail
  refine (Weekday_ok _ _ (by omega) (by omega)).mono ?_
  rintro e w1 ⟨rfl, rfl⟩
  go_wp2_with fail
  refine (Write_1 _).mono ?_
  rintro e w1 ⟨rfl, rfl⟩
  go_wp2_with fail
  go_ret
  exact ⟨rfl, rfl⟩
end Go.Proofs.YtfmmkbhaaifggaaDoor
