/- The law CalNumbers: errors, the document's answers, the walk. -/
import Derived.Test.YtfmmkbhaaifggaaDoorCi
import Derived.Test.YtfmmkbhaaifggaaDoorCg
namespace Go.Proofs.YtfmmkbhaaifggaaDoor
open Go.RowKit
set_option linter.unusedVariables false

theorem isDay_no (n : Int) (w : World) (h : ¬ (1 ≤ n ∧ n ≤ 3652059)) :
    Calls Tryd.prog 15 #[.int .i64 n] w fun e w' => e = .returned (.bool false) ∧ w' = w := by
  by_cases h1 : 1 ≤ n
  · have h2 : ¬ n ≤ 3652059 := by omega
    clear h
    go_enter Tryd.func15, Tryd.ntmps15
    go_wp2
    go_ret
    exact ⟨by simp, rfl⟩
  · clear h
    go_enter Tryd.func15, Tryd.ntmps15
    go_wp2
    go_ret
    exact ⟨rfl, rfl⟩
theorem isYear_no (n : Int) (w : World) (h : ¬ (1 ≤ n ∧ n ≤ 9999)) :
    Calls Tryd.prog 19 #[.int .i64 n] w fun e w' => e = .returned (.bool false) ∧ w' = w := by
  by_cases h1 : 1 ≤ n
  · have h2 : ¬ n ≤ 9999 := by omega
    clear h
    go_enter Tryd.func19, Tryd.ntmps19
    go_wp2
    go_ret
    exact ⟨by simp, rfl⟩
  · clear h
    go_enter Tryd.func19, Tryd.ntmps19
    go_wp2
    go_ret
    exact ⟨rfl, rfl⟩
theorem isMonth_no (n : Int) (w : World) (h : ¬ (1 ≤ n ∧ n ≤ 12)) :
    Calls Tryd.prog 20 #[.int .i64 n] w fun e w' => e = .returned (.bool false) ∧ w' = w := by
  by_cases h1 : 1 ≤ n
  · have h2 : ¬ n ≤ 12 := by omega
    clear h
    go_enter Tryd.func20, Tryd.ntmps20
    go_wp2
    go_ret
    exact ⟨by simp, rfl⟩
  · clear h
    go_enter Tryd.func20, Tryd.ntmps20
    go_wp2
    go_ret
    exact ⟨rfl, rfl⟩
theorem number_any (y m d : Int) : ∃ a e : Int, (∀ w, Calls Tryd.prog 11 #[.int .i64 y, .int .i64 m, .int .i64 d] w fun r w' => r = .returned (.tuple #[.int .i64 a, .int .i64 e]) ∧ w' = w)
    ∧ (∀ w, Calls Tryd.prog 13 #[.int .i64 y, .int .i64 m, .int .i64 d] w fun r w' => r = .returned (.tuple #[.int .i64 a, .int .i64 e]) ∧ w' = w) := by
  by_cases hy : 1 ≤ y ∧ y ≤ 9999
  · obtain ⟨y1, y2⟩ := hy
    have ry1 : decide (y < 1) = false := decide_eq_false (by omega)
    have ry2 : decide (9999 < y) = false := decide_eq_false (by omega)
    by_cases hm : 1 ≤ m ∧ m ≤ 12
    · obtain ⟨m1, m2⟩ := hm
      have rm1 : decide (m < 1) = false := decide_eq_false (by omega)
      have rm2 : decide (12 < m) = false := decide_eq_false (by omega)
      by_cases hd1 : d < 1
      · refine ⟨0, 9, fun w => ?_, fun w => ?_⟩
        · go_enter Tryd.func11, Tryd.ntmps11
          go_wp2_with (first | (go_at_call 19; refine (isYear_yes _ _ y1 y2).mono ?_; rintro e w1 ⟨rfl, rfl⟩) | (go_at_call 20; refine (isMonth_yes _ _ m1 m2).mono ?_; rintro e w1 ⟨rfl, rfl⟩))
          refine bodyPost_ret (v := .tuple #[.int .i64 0, .int .i64 9]) (by simp [results, Tryd.results11, go_sem]) rfl ⟨rfl, rfl⟩
        · go_enter Tryd.func13, Tryd.ntmps13
          go_wp2_with fail
          refine bodyPost_ret (v := .tuple #[.int .i64 0, .int .i64 9]) (by simp [results, Tryd.results13, go_sem]) rfl ⟨rfl, rfl⟩
      · have rd1 : decide (d < 1) = false := decide_eq_false hd1
        by_cases hd2 : mlen y m < d
        · refine ⟨0, 9, fun w => ?_, fun w => ?_⟩
          · go_enter Tryd.func11, Tryd.ntmps11
            go_wp2_with (first | (go_at_call 19; refine (isYear_yes _ _ y1 y2).mono ?_; rintro e w1 ⟨rfl, rfl⟩) | (go_at_call 20; refine (isMonth_yes _ _ m1 m2).mono ?_; rintro e w1 ⟨rfl, rfl⟩) | (go_at_call 21; refine (length_ok y m _ (by omega)).mono ?_; rintro e w1 ⟨rfl, rfl⟩))
            refine bodyPost_ret (v := .tuple #[.int .i64 0, .int .i64 9]) (by simp [results, Tryd.results11, go_sem]) rfl ⟨rfl, rfl⟩
          · go_enter Tryd.func13, Tryd.ntmps13
            go_wp2_with (first | (go_at_call 23; refine (rLength_ok y m _ (by omega)).mono ?_; rintro e w1 ⟨rfl, rfl⟩))
            refine bodyPost_ret (v := .tuple #[.int .i64 0, .int .i64 9]) (by simp [results, Tryd.results13, go_sem]) rfl ⟨rfl, rfl⟩
        · have D : Date (first y + ahead y (m - 1).toNat + d) y m d := ⟨y1, y2, m1, m2, by omega, by omega, rfl⟩
          have rd2 : decide (mlen y m < d) = false := decide_eq_false hd2
          have h31 := mlen_hi y m
          refine ⟨_, 0, fun w => Number_ok _ y m d w D, fun w => ?_⟩
          go_enter Tryd.func13, Tryd.ntmps13
          go_wp2_with (first | (go_at_call 23; refine (rLength_ok y m _ (by omega)).mono ?_; rintro e w1 ⟨rfl, rfl⟩) | (go_at_call 24; refine (rNumber_ok y m d _ y1 y2 m1 m2 (by omega) (by omega)).mono ?_; rintro e w1 ⟨rfl, rfl⟩))
          refine bodyPost_ret (v := .tuple #[.int .i64 (first y + ahead y (m - 1).toNat + d), .int .i64 0]) (by simp [results, Tryd.results13, go_sem]) rfl ⟨rfl, rfl⟩
    · have HM : Hid (¬ (1 ≤ m ∧ m ≤ 12)) := hm
      refine ⟨0, 9, fun w => ?_, fun w => ?_⟩
      · clear hm
        go_enter Tryd.func11, Tryd.ntmps11
        go_wp2_with (first | (go_at_call 19; refine (isYear_yes _ _ y1 y2).mono ?_; rintro e w1 ⟨rfl, rfl⟩) | (go_at_call 20; refine (isMonth_no _ _ HM.out).mono ?_; rintro e w1 ⟨rfl, rfl⟩))
        refine bodyPost_ret (v := .tuple #[.int .i64 0, .int .i64 9]) (by simp [results, Tryd.results11, go_sem]) rfl ⟨rfl, rfl⟩
      · by_cases h1 : m < 1
        · clear hm
          go_enter Tryd.func13, Tryd.ntmps13
          go_wp2_with fail
          refine bodyPost_ret (v := .tuple #[.int .i64 0, .int .i64 9]) (by simp [results, Tryd.results13, go_sem]) rfl ⟨rfl, rfl⟩
        · have h2 : 12 < m := by omega
          have rm1 : decide (m < 1) = false := decide_eq_false h1
          clear hm
          go_enter Tryd.func13, Tryd.ntmps13
          go_wp2_with fail
          refine bodyPost_ret (v := .tuple #[.int .i64 0, .int .i64 9]) (by simp [results, Tryd.results13, go_sem]) rfl ⟨rfl, rfl⟩
  · have HY : Hid (¬ (1 ≤ y ∧ y ≤ 9999)) := hy
    refine ⟨0, 1, fun w => ?_, fun w => ?_⟩
    · clear hy
      go_enter Tryd.func11, Tryd.ntmps11
      go_wp2_with (first | (go_at_call 19; refine (isYear_no _ _ HY.out).mono ?_; rintro e w1 ⟨rfl, rfl⟩))
      refine bodyPost_ret (v := .tuple #[.int .i64 0, .int .i64 1]) (by simp [results, Tryd.results11, go_sem]) rfl ⟨rfl, rfl⟩
    · by_cases h1 : y < 1
      · clear hy
        go_enter Tryd.func13, Tryd.ntmps13
        go_wp2_with fail
        refine bodyPost_ret (v := .tuple #[.int .i64 0, .int .i64 1]) (by simp [results, Tryd.results13, go_sem]) rfl ⟨rfl, rfl⟩
      · have h2 : 9999 < y := by omega
        have rm1 : decide (y < 1) = false := decide_eq_false h1
        clear hy
        go_enter Tryd.func13, Tryd.ntmps13
        go_wp2_with fail
        refine bodyPost_ret (v := .tuple #[.int .i64 0, .int .i64 1]) (by simp [results, Tryd.results13, go_sem]) rfl ⟨rfl, rfl⟩
theorem Weekday_arg (n : Int) (w : World) (h : ¬ (1 ≤ n ∧ n ≤ 3652059)) :
    Calls Tryd.prog 14 #[.int .i64 n] w fun e w' => e = .returned (.tuple #[.int .i64 0, .int .i64 1]) ∧ w' = w := by
  have H : Hid (¬ (1 ≤ n ∧ n ≤ 3652059)) := h
  clear h
  go_enter Tryd.func14, Tryd.ntmps14
  go_wp2_with fail
  refine (isDay_no n _ H.out).mono ?_
  rintro e w1 ⟨rfl, rfl⟩
  go_wp2_with fail
  refine bodyPost_ret (v := .tuple #[.int .i64 0, .int .i64 1]) (by simp [results, Tryd.results14, go_sem]) rfl ⟨rfl, rfl⟩
theorem Write_arg (n : Int) (w : World) (h : ¬ (1 ≤ n ∧ n ≤ 3652059)) :
    Calls Tryd.prog 7 #[.int .i64 n] w fun e w' => e = .returned (.tuple #[.string ⟨#[]⟩, .int .i64 1]) ∧ w' = w := by
  have H : Hid (¬ (1 ≤ n ∧ n ≤ 3652059)) := h
  clear h
  go_enter Tryd.func7, Tryd.ntmps7
  go_wp2_with fail
  refine (isDay_no n _ H.out).mono ?_
  rintro e w1 ⟨rfl, rfl⟩
  go_wp2_with fail
  refine bodyPost_ret (v := .tuple #[.string ⟨#[]⟩, .int .i64 1]) (by simp [results, Tryd.results7, go_sem]) rfl ⟨rfl, rfl⟩

end Go.Proofs.YtfmmkbhaaifggaaDoor
