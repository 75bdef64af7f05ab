/- The law CalNumbers: errors, the document's answers, the walk. -/
import Derived.Test.YtmnnkipfciahmacDoorCi
import Derived.Test.YtmnnkipfciahmacDoorCg
namespace Go.Proofs.YtmnnkipfciahmacDoor
open Go.RowKit
set_option linter.unusedVariables false

theorem isDay_no (n : Int) (w : World) (h : ¬ (1 ≤ n ∧ n ≤ 3652059)) :
    Calls Tryd.prog 21 #[.int .i64 n] w fun e w' => e = .returned (.bool false) ∧ w' = w := by
  by_cases h1 : 1 ≤ n
  · have h2 : ¬ n ≤ 3652059 := by omega
    clear h
    go_enter Tryd.func21, Tryd.ntmps21
    go_wp2
    go_ret
    exact ⟨by simp, rfl⟩
  · clear h
    go_enter Tryd.func21, Tryd.ntmps21
    go_wp2
    go_ret
    exact ⟨rfl, rfl⟩
theorem isYear_no (n : Int) (w : World) (h : ¬ (1 ≤ n ∧ n ≤ 9999)) :
    Calls Tryd.prog 16 #[.int .i64 n] w fun e w' => e = .returned (.bool false) ∧ w' = w := by
  by_cases h1 : 1 ≤ n
  · have h2 : ¬ n ≤ 9999 := by omega
    clear h
    go_enter Tryd.func16, Tryd.ntmps16
    go_wp2
    go_ret
    exact ⟨by simp, rfl⟩
  · clear h
    go_enter Tryd.func16, Tryd.ntmps16
    go_wp2
    go_ret
    exact ⟨rfl, rfl⟩
theorem isMonth_no (n : Int) (w : World) (h : ¬ (1 ≤ n ∧ n ≤ 12)) :
    Calls Tryd.prog 17 #[.int .i64 n] w fun e w' => e = .returned (.bool false) ∧ w' = w := by
  by_cases h1 : 1 ≤ n
  · have h2 : ¬ n ≤ 12 := by omega
    clear h
    go_enter Tryd.func17, Tryd.ntmps17
    go_wp2
    go_ret
    exact ⟨by simp, rfl⟩
  · clear h
    go_enter Tryd.func17, Tryd.ntmps17
    go_wp2
    go_ret
    exact ⟨rfl, rfl⟩
theorem MonthEnd_ok (n y m d : Int) (w : World) (D : Date n y m d) :
    Calls Tryd.prog 12 #[.int .i64 n] w fun e w' => e = .returned (.tuple #[.bool (d == mlen y m), .int .i64 0]) ∧ w' = w := by
  obtain ⟨b1, b2⟩ := D.bounds
  have y1 := D.ylo
  go_enter Tryd.func12, Tryd.ntmps12
  go_wp2_with (first | (go_at_call 21; refine (isDay_yes _ _ b1 b2).mono ?_; rintro e w1 ⟨rfl, rfl⟩) | (go_at_call 22; refine (civil_ok n y m d _ D).mono ?_; rintro e w1 ⟨rfl, rfl⟩) | (go_at_call 18; refine (length_ok y m _ (by omega)).mono ?_; rintro e w1 ⟨rfl, rfl⟩))
  refine bodyPost_ret (v := .tuple #[.bool (d == mlen y m), .int .i64 0]) (by simp [results, Tryd.results12, go_sem]) rfl ⟨rfl, rfl⟩
theorem number_any (y m d : Int) : ∃ a e : Int, (∀ w, Calls Tryd.prog 4 #[.int .i64 y, .int .i64 m, .int .i64 d] w fun r w' => r = .returned (.tuple #[.int .i64 a, .int .i64 e]) ∧ w' = w)
    ∧ (∀ w, Calls Tryd.prog 5 #[.int .i64 y, .int .i64 m, .int .i64 d] w fun r w' => r = .returned (.tuple #[.int .i64 a, .int .i64 e]) ∧ w' = w) := by
  by_cases hy : 1 ≤ y ∧ y ≤ 9999
  · obtain ⟨y1, y2⟩ := hy
    have ry1 : decide (y < 1) = false := decide_eq_false (by omega)
    have ry2 : decide (9999 < y) = false := decide_eq_false (by omega)
    by_cases hm : 1 ≤ m ∧ m ≤ 12
    · obtain ⟨m1, m2⟩ := hm
      have rm1 : decide (m < 1) = false := decide_eq_false (by omega)
      have rm2 : decide (12 < m) = false := decide_eq_false (by omega)
      by_cases hd1 : d < 1
      · refine ⟨0, 9, fun w => ?_, fun w => ?_⟩
        · go_enter Tryd.func4, Tryd.ntmps4
          go_wp2_with (first | (go_at_call 16; refine (isYear_yes _ _ y1 y2).mono ?_; rintro e w1 ⟨rfl, rfl⟩) | (go_at_call 17; refine (isMonth_yes _ _ m1 m2).mono ?_; rintro e w1 ⟨rfl, rfl⟩))
          refine bodyPost_ret (v := .tuple #[.int .i64 0, .int .i64 9]) (by simp [results, Tryd.results4, go_sem]) rfl ⟨rfl, rfl⟩
        · go_enter Tryd.func5, Tryd.ntmps5
          go_wp2_with fail
          refine bodyPost_ret (v := .tuple #[.int .i64 0, .int .i64 9]) (by simp [results, Tryd.results5, go_sem]) rfl ⟨rfl, rfl⟩
      · have rd1 : decide (d < 1) = false := decide_eq_false hd1
        by_cases hd2 : mlen y m < d
        · refine ⟨0, 9, fun w => ?_, fun w => ?_⟩
          · go_enter Tryd.func4, Tryd.ntmps4
            go_wp2_with (first | (go_at_call 16; refine (isYear_yes _ _ y1 y2).mono ?_; rintro e w1 ⟨rfl, rfl⟩) | (go_at_call 17; refine (isMonth_yes _ _ m1 m2).mono ?_; rintro e w1 ⟨rfl, rfl⟩) | (go_at_call 18; refine (length_ok y m _ (by omega)).mono ?_; rintro e w1 ⟨rfl, rfl⟩))
            refine bodyPost_ret (v := .tuple #[.int .i64 0, .int .i64 9]) (by simp [results, Tryd.results4, go_sem]) rfl ⟨rfl, rfl⟩
          · go_enter Tryd.func5, Tryd.ntmps5
            go_wp2_with (first | (go_at_call 15; refine (rLength_ok y m _ (by omega)).mono ?_; rintro e w1 ⟨rfl, rfl⟩))
            refine bodyPost_ret (v := .tuple #[.int .i64 0, .int .i64 9]) (by simp [results, Tryd.results5, go_sem]) rfl ⟨rfl, rfl⟩
        · have D : Date (first y + ahead y (m - 1).toNat + d) y m d := ⟨y1, y2, m1, m2, by omega, by omega, rfl⟩
          have rd2 : decide (mlen y m < d) = false := decide_eq_false hd2
          have h31 := mlen_hi y m
          refine ⟨_, 0, fun w => Number_ok _ y m d w D, fun w => ?_⟩
          go_enter Tryd.func5, Tryd.ntmps5
          go_wp2_with (first | (go_at_call 15; refine (rLength_ok y m _ (by omega)).mono ?_; rintro e w1 ⟨rfl, rfl⟩) | (go_at_call 20; refine (rNumber_ok y m d _ y1 y2 m1 m2 (by omega) (by omega)).mono ?_; rintro e w1 ⟨rfl, rfl⟩))
          refine bodyPost_ret (v := .tuple #[.int .i64 (first y + ahead y (m - 1).toNat + d), .int .i64 0]) (by simp [results, Tryd.results5, go_sem]) rfl ⟨rfl, rfl⟩
    · have HM : Hid (¬ (1 ≤ m ∧ m ≤ 12)) := hm
      refine ⟨0, 9, fun w => ?_, fun w => ?_⟩
      · clear hm
        go_enter Tryd.func4, Tryd.ntmps4
        go_wp2_with (first | (go_at_call 16; refine (isYear_yes _ _ y1 y2).mono ?_; rintro e w1 ⟨rfl, rfl⟩) | (go_at_call 17; refine (isMonth_no _ _ HM.out).mono ?_; rintro e w1 ⟨rfl, rfl⟩))
        refine bodyPost_ret (v := .tuple #[.int .i64 0, .int .i64 9]) (by simp [results, Tryd.results4, go_sem]) rfl ⟨rfl, rfl⟩
      · by_cases h1 : m < 1
        · clear hm
          go_enter Tryd.func5, Tryd.ntmps5
          go_wp2_with fail
          refine bodyPost_ret (v := .tuple #[.int .i64 0, .int .i64 9]) (by simp [results, Tryd.results5, go_sem]) rfl ⟨rfl, rfl⟩
        · have h2 : 12 < m := by omega
          have rm1 : decide (m < 1) = false := decide_eq_false h1
          clear hm
          go_enter Tryd.func5, Tryd.ntmps5
          go_wp2_with fail
          refine bodyPost_ret (v := .tuple #[.int .i64 0, .int .i64 9]) (by simp [results, Tryd.results5, go_sem]) rfl ⟨rfl, rfl⟩
  · have HY : Hid (¬ (1 ≤ y ∧ y ≤ 9999)) := hy
    refine ⟨0, 1, fun w => ?_, fun w => ?_⟩
    · clear hy
      go_enter Tryd.func4, Tryd.ntmps4
      go_wp2_with (first | (go_at_call 16; refine (isYear_no _ _ HY.out).mono ?_; rintro e w1 ⟨rfl, rfl⟩))
      refine bodyPost_ret (v := .tuple #[.int .i64 0, .int .i64 1]) (by simp [results, Tryd.results4, go_sem]) rfl ⟨rfl, rfl⟩
    · by_cases h1 : y < 1
      · clear hy
        go_enter Tryd.func5, Tryd.ntmps5
        go_wp2_with fail
        refine bodyPost_ret (v := .tuple #[.int .i64 0, .int .i64 1]) (by simp [results, Tryd.results5, go_sem]) rfl ⟨rfl, rfl⟩
      · have h2 : 9999 < y := by omega
        have rm1 : decide (y < 1) = false := decide_eq_false h1
        clear hy
        go_enter Tryd.func5, Tryd.ntmps5
        go_wp2_with fail
        refine bodyPost_ret (v := .tuple #[.int .i64 0, .int .i64 1]) (by simp [results, Tryd.results5, go_sem]) rfl ⟨rfl, rfl⟩
theorem length_any (y m : Int) : ∃ a e : Int, (∀ w, Calls Tryd.prog 6 #[.int .i64 y, .int .i64 m] w fun r w' => r = .returned (.tuple #[.int .i64 a, .int .i64 e]) ∧ w' = w)
    ∧ (∀ w, Calls Tryd.prog 7 #[.int .i64 y, .int .i64 m] w fun r w' => r = .returned (.tuple #[.int .i64 a, .int .i64 e]) ∧ w' = w) := by
  have fin : ∀ {v : Value} {P : Prop}, P → P := fun h => h
  by_cases hy : 1 ≤ y ∧ y ≤ 9999
  · obtain ⟨y1, y2⟩ := hy
    have ry1 : decide (y < 1) = false := decide_eq_false (by omega)
    have ry2 : decide (9999 < y) = false := decide_eq_false (by omega)
    by_cases hm : 1 ≤ m ∧ m ≤ 12
    · obtain ⟨m1, m2⟩ := hm
      have rm1 : decide (m < 1) = false := decide_eq_false (by omega)
      have rm2 : decide (12 < m) = false := decide_eq_false (by omega)
      refine ⟨mlen y m, 0, fun w => ?_, fun w => ?_⟩
      · go_enter Tryd.func6, Tryd.ntmps6
        go_wp2_with (first | (go_at_call 16; refine (isYear_yes _ _ y1 y2).mono ?_; rintro e w1 ⟨rfl, rfl⟩) | (go_at_call 17; refine (isMonth_yes _ _ m1 m2).mono ?_; rintro e w1 ⟨rfl, rfl⟩) | (go_at_call 18; refine (length_ok y m _ (by omega)).mono ?_; rintro e w1 ⟨rfl, rfl⟩))
        refine bodyPost_ret (v := .tuple #[.int .i64 (mlen y m), .int .i64 0]) (by simp [results, Tryd.results6, go_sem]) rfl ⟨rfl, rfl⟩
      · go_enter Tryd.func7, Tryd.ntmps7
        go_wp2_with (first | (go_at_call 15; refine (rLength_ok y m _ (by omega)).mono ?_; rintro e w1 ⟨rfl, rfl⟩))
        refine bodyPost_ret (v := .tuple #[.int .i64 (mlen y m), .int .i64 0]) (by simp [results, Tryd.results7, go_sem]) rfl ⟨rfl, rfl⟩
    · have HM : Hid (¬ (1 ≤ m ∧ m ≤ 12)) := hm
      refine ⟨0, 1, fun w => ?_, fun w => ?_⟩
      · clear hm
        go_enter Tryd.func6, Tryd.ntmps6
        go_wp2_with (first | (go_at_call 16; refine (isYear_yes _ _ y1 y2).mono ?_; rintro e w1 ⟨rfl, rfl⟩) | (go_at_call 17; refine (isMonth_no _ _ HM.out).mono ?_; rintro e w1 ⟨rfl, rfl⟩))
        refine bodyPost_ret (v := .tuple #[.int .i64 0, .int .i64 1]) (by simp [results, Tryd.results6, go_sem]) rfl ⟨rfl, rfl⟩
      · by_cases h1 : m < 1
        · clear hm
          go_enter Tryd.func7, Tryd.ntmps7
          go_wp2_with fail
          refine bodyPost_ret (v := .tuple #[.int .i64 0, .int .i64 1]) (by simp [results, Tryd.results7, go_sem]) rfl ⟨rfl, rfl⟩
        · have h2 : 12 < m := by omega
          have rm1 : decide (m < 1) = false := decide_eq_false h1
          clear hm
          go_enter Tryd.func7, Tryd.ntmps7
          go_wp2_with fail
          refine bodyPost_ret (v := .tuple #[.int .i64 0, .int .i64 1]) (by simp [results, Tryd.results7, go_sem]) rfl ⟨rfl, rfl⟩
  · have HY : Hid (¬ (1 ≤ y ∧ y ≤ 9999)) := hy
    refine ⟨0, 1, fun w => ?_, fun w => ?_⟩
    · clear hy
      go_enter Tryd.func6, Tryd.ntmps6
      go_wp2_with (first | (go_at_call 16; refine (isYear_no _ _ HY.out).mono ?_; rintro e w1 ⟨rfl, rfl⟩))
      refine bodyPost_ret (v := .tuple #[.int .i64 0, .int .i64 1]) (by simp [results, Tryd.results6, go_sem]) rfl ⟨rfl, rfl⟩
    · by_cases h1 : y < 1
      · clear hy
        go_enter Tryd.func7, Tryd.ntmps7
        go_wp2_with fail
        refine bodyPost_ret (v := .tuple #[.int .i64 0, .int .i64 1]) (by simp [results, Tryd.results7, go_sem]) rfl ⟨rfl, rfl⟩
      · have h2 : 9999 < y := by omega
        have rm1 : decide (y < 1) = false := decide_eq_false h1
        clear hy
        go_enter Tryd.func7, Tryd.ntmps7
        go_wp2_with fail
        refine bodyPost_ret (v := .tuple #[.int .i64 0, .int .i64 1]) (by simp [results, Tryd.results7, go_sem]) rfl ⟨rfl, rfl⟩
theorem Civil_arg (n : Int) (w : World) (h : ¬ (1 ≤ n ∧ n ≤ 3652059)) :
    Calls Tryd.prog 9 #[.int .i64 n] w fun e w' => e = .returned (.tuple #[.int .i64 0, .int .i64 0, .int .i64 0, .int .i64 1]) ∧ w' = w := by
  have H : Hid (¬ (1 ≤ n ∧ n ≤ 3652059)) := h
  clear h
  go_enter Tryd.func9, Tryd.ntmps9
  go_wp2_with fail
  refine (isDay_no n _ H.out).mono ?_
  rintro e w1 ⟨rfl, rfl⟩
  go_wp2_with fail
  refine bodyPost_ret (v := .tuple #[.int .i64 0, .int .i64 0, .int .i64 0, .int .i64 1]) (by simp [results, Tryd.results9, go_sem]) rfl ⟨rfl, rfl⟩
theorem Weekday_arg (n : Int) (w : World) (h : ¬ (1 ≤ n ∧ n ≤ 3652059)) :
    Calls Tryd.prog 11 #[.int .i64 n] w fun e w' => e = .returned (.tuple #[.int .i64 0, .int .i64 1]) ∧ w' = w := by
  have H : Hid (¬ (1 ≤ n ∧ n ≤ 3652059)) := h
  clear h
  go_enter Tryd.func11, Tryd.ntmps11
  go_wp2_with fail
  refine (isDay_no n _ H.out).mono ?_
  rintro e w1 ⟨rfl, rfl⟩
  go_wp2_with fail
  refine bodyPost_ret (v := .tuple #[.int .i64 0, .int .i64 1]) (by simp [results, Tryd.results11, go_sem]) rfl ⟨rfl, rfl⟩
theorem MonthEnd_arg (n : Int) (w : World) (h : ¬ (1 ≤ n ∧ n ≤ 3652059)) :
    Calls Tryd.prog 12 #[.int .i64 n] w fun e w' => e = .returned (.tuple #[.bool false, .int .i64 1]) ∧ w' = w := by
  have H : Hid (¬ (1 ≤ n ∧ n ≤ 3652059)) := h
  clear h
  go_enter Tryd.func12, Tryd.ntmps12
  go_wp2_with fail
  refine (isDay_no n _ H.out).mono ?_
  rintro e w1 ⟨rfl, rfl⟩
  go_wp2_with fail
  refine bodyPost_ret (v := .tuple #[.bool false, .int .i64 1]) (by simp [results, Tryd.results12, go_sem]) rfl ⟨rfl, rfl⟩
theorem Write_arg (n : Int) (w : World) (h : ¬ (1 ≤ n ∧ n ≤ 3652059)) :
    Calls Tryd.prog 13 #[.int .i64 n] w fun e w' => e = .returned (.tuple #[.string ⟨#[]⟩, .int .i64 1]) ∧ w' = w := by
  have H : Hid (¬ (1 ≤ n ∧ n ≤ 3652059)) := h
  clear h
  go_enter Tryd.func13, Tryd.ntmps13
  go_wp2_with fail
  refine (isDay_no n _ H.out).mono ?_
  rintro e w1 ⟨rfl, rfl⟩
  go_wp2_with fail
  refine bodyPost_ret (v := .tuple #[.string ⟨#[]⟩, .int .i64 1]) (by simp [results, Tryd.results13, go_sem]) rfl ⟨rfl, rfl⟩

set_option maxRecDepth 100000 in
set_option maxHeartbeats 1000000 in
theorem numbers_some (y m d n a e l g : Int) (w : World)
    (A : ∀ w, Calls Tryd.prog 4 #[.int .i64 y, .int .i64 m, .int .i64 d] w fun r w' => r = .returned (.tuple #[.int .i64 a, .int .i64 e]) ∧ w' = w)
    (B : ∀ w, Calls Tryd.prog 5 #[.int .i64 y, .int .i64 m, .int .i64 d] w fun r w' => r = .returned (.tuple #[.int .i64 a, .int .i64 e]) ∧ w' = w)
    (C : ∀ w, Calls Tryd.prog 6 #[.int .i64 y, .int .i64 m] w fun r w' => r = .returned (.tuple #[.int .i64 l, .int .i64 g]) ∧ w' = w)
    (E : ∀ w, Calls Tryd.prog 7 #[.int .i64 y, .int .i64 m] w fun r w' => r = .returned (.tuple #[.int .i64 l, .int .i64 g]) ∧ w' = w) :
    Calls Tryd.prog 3 #[.int .i64 y, .int .i64 m, .int .i64 d, .int .i64 n] w fun r w' => r = .returned (.bool true) ∧ w' = w := by
  by_cases hn : 1 ≤ n ∧ n ≤ 3652059
  · obtain ⟨y', m', d', D⟩ := date_ex n hn.1 hn.2
    have yb := D.ylo
    have hw : (n - 1) % 7 = (n + 6) % 7 := by omega
    have W := fun w => Weekday_ok n w hn.1 hn.2
    rw [hw] at W
    clear hw
    go_enter Tryd.func3, Tryd.ntmps3
    go_wp2_with fail
    refine (A _).mono ?_
    rintro e w1 ⟨rfl, rfl⟩
    go_wp2_with fail
    refine (B _).mono ?_
    rintro e w1 ⟨rfl, rfl⟩
    go_wp2_with fail
    refine (C _).mono ?_
    rintro e w1 ⟨rfl, rfl⟩
    go_wp2_with fail
    refine (E _).mono ?_
    rintro e w1 ⟨rfl, rfl⟩
    go_wp2_with fail
    refine (awake03 _).mono ?_
    rintro e w1 ⟨rfl, rfl⟩
    go_wp2_with fail
    refine (Civil_ok n y' m' d' _ D).mono ?_
    rintro e w1 ⟨rfl, rfl⟩
    go_wp2_with fail
    refine (rIs_yes n _ hn.1 hn.2).mono ?_
    rintro e w1 ⟨rfl, rfl⟩
    go_wp2_with fail
    refine (rCivil_ok n y' m' d' _ D).mono ?_
    rintro e w1 ⟨rfl, rfl⟩
    go_wp2_with fail
    refine (W _).mono ?_
    rintro e w1 ⟨rfl, rfl⟩
    go_wp2_with fail
    refine (MonthEnd_ok n y' m' d' _ D).mono ?_
    rintro e w1 ⟨rfl, rfl⟩
    go_wp2_with fail
    refine (rLength_ok y' m' _ (by omega)).mono ?_
    rintro e w1 ⟨rfl, rfl⟩
    go_wp2_with fail
    go_ret
    exact ⟨by simp, rfl⟩
  · have HN : Hid (¬ (1 ≤ n ∧ n ≤ 3652059)) := hn
    clear hn
    go_enter Tryd.func3, Tryd.ntmps3
    go_wp2_with fail
    refine (A _).mono ?_
    rintro e w1 ⟨rfl, rfl⟩
    go_wp2_with fail
    refine (B _).mono ?_
    rintro e w1 ⟨rfl, rfl⟩
    go_wp2_with fail
    refine (C _).mono ?_
    rintro e w1 ⟨rfl, rfl⟩
    go_wp2_with fail
    refine (E _).mono ?_
    rintro e w1 ⟨rfl, rfl⟩
    go_wp2_with fail
    refine (awake03 _).mono ?_
    rintro e w1 ⟨rfl, rfl⟩
    go_wp2_with fail
    refine (Civil_arg n _ HN.out).mono ?_
    rintro e w1 ⟨rfl, rfl⟩
    go_wp2_with fail
    refine (rIs_no n _ HN.out).mono ?_
    rintro e w1 ⟨rfl, rfl⟩
    go_wp2_with fail
    refine (Weekday_arg n _ HN.out).mono ?_
    rintro e w1 ⟨rfl, rfl⟩
    go_wp2_with fail
    refine (MonthEnd_arg n _ HN.out).mono ?_
    rintro e w1 ⟨rfl, rfl⟩
    go_wp2_with fail
    refine (Write_arg n _ HN.out).mono ?_
    rintro e w1 ⟨rfl, rfl⟩
    go_wp2_with fail
    go_ret
    exact ⟨by simp, rfl⟩
theorem numbers_walk (y m d n : Int) (w : World) :
    Calls Tryd.prog 3 #[.int .i64 y, .int .i64 m, .int .i64 d, .int .i64 n] w fun r w' => r = .returned (.bool true) ∧ w' = w := by
  obtain ⟨a, e, A, B⟩ := number_any y m d
  obtain ⟨l, g, C, E⟩ := length_any y m
  exact numbers_some y m d n a e l g w A B C E
end Go.Proofs.YtmnnkipfciahmacDoor
