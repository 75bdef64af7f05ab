/- The laws CalFollows and CalCycle: their walks. -/
import Derived.Test.YtmnnkipfciahmadDoorCi
namespace Go.Proofs.YtmnnkipfciahmadDoor
open Go.RowKit
set_option linter.unusedVariables false

theorem MonthEnd_ok (n y m d : Int) (w : World) (D : Date n y m d) :
    Calls Tryd.prog 22 #[.int .i64 n] w fun e w' => e = .returned (.tuple #[.bool (d == mlen y m), .int .i64 0]) ∧ w' = w := by
  obtain ⟨b1, b2⟩ := D.bounds
  have y1 := D.ylo
  go_enter Tryd.func22, Tryd.ntmps22
  go_wp2_with (first | (go_at_call 24; refine (isDay_yes _ _ b1 b2).mono ?_; rintro e w1 ⟨rfl, rfl⟩) | (go_at_call 25; refine (civil_ok n y m d _ D).mono ?_; rintro e w1 ⟨rfl, rfl⟩) | (go_at_call 27; refine (length_ok y m _ (by omega)).mono ?_; rintro e w1 ⟨rfl, rfl⟩))
  refine bodyPost_ret (v := .tuple #[.bool (d == mlen y m), .int .i64 0]) (by simp [results, Tryd.results22, go_sem]) rfl ⟨rfl, rfl⟩
theorem u_mod (a : Int) {k : Int} (hk : 0 < k) : 0 ≤ (IntKind.u64.wrap a).tmod k ∧ (IntKind.u64.wrap a).tmod k < k := by
  have h : 0 ≤ IntKind.u64.wrap a := by rw [IntKind.wrap_u64]; omega
  rw [Int.tmod_eq_emod_of_nonneg h]
  exact ⟨Int.emod_nonneg _ (by omega), Int.emod_lt_of_pos _ hk⟩
set_option maxHeartbeats 1000000 in
theorem follows_walk (n : Int) (w : World) :
    Calls Tryd.prog 6 #[.int .i64 n] w fun e w' => e = .returned (.bool true) ∧ w' = w := by
  by_cases c1 : n < 1
  · have hn := u_mod n (show (0 : Int) < 3652058 by omega)
    obtain ⟨N, hN⟩ : ∃ N, N = 1 + (IntKind.u64.wrap n).tmod 3652058 := ⟨_, rfl⟩
    have HN : Hid (N = 1 + (IntKind.u64.wrap n).tmod 3652058) := hN
    have n1 : 1 ≤ N := by omega
    have n2 : N ≤ 3652058 := by omega
    clear hN
    go_enter Tryd.func6, Tryd.ntmps6
    go_wp2_with fail
    refine (awake03 _).mono ?_
    rintro e w1 ⟨rfl, rfl⟩
    go_wp2_with fail
    rw [← HN.out]
    obtain ⟨y, m, d, D⟩ := date_ex N n1 (by omega)
    have hml := mlen_hi y m
    have d1 := D.dlo
    have y1 := D.ylo
    have y2 := D.yhi
    have m1 := D.mlo
    have m2 := D.mhi
    have hd := D.dhi
    by_cases h : d < mlen y m
    · have D' := (D.next (by omega)).1 h
      have hb : (d == mlen y m) = false := by simp; omega
      clear hd
      refine (Civil_ok N y m d _ D).mono ?_
      rintro e w1 ⟨rfl, rfl⟩
      go_wp2_with fail
      refine (Civil_ok _ _ _ _ _ D').mono ?_
      rintro e w1 ⟨rfl, rfl⟩
      go_wp2_with fail
      refine (MonthEnd_ok N y m d _ D).mono ?_
      rintro e w1 ⟨rfl, rfl⟩
      go_wp2_with fail
      refine (Weekday_ok N _ n1 (by omega)).mono ?_
      rintro e w1 ⟨rfl, rfl⟩
      go_wp2_with fail
      refine (Weekday_ok (N + 1) _ (by omega) (by omega)).mono ?_
      rintro e w1 ⟨rfl, rfl⟩
      have hw : (N + 1 - 1) % 7 = ((N - 1) % 7 + 1) % 7 := by omega
      rw [hw]
      clear hw
      go_wp2_with fail
      all_goals go_ret
      all_goals exact ⟨by simp, rfl⟩
    have h' : d = mlen y m := by omega
    have hb : (d == mlen y m) = true := by simp; omega
    have HH : Hid (d = mlen y m) := h'
    clear hd h
    by_cases hm : m < 12
    · have D' := (D.next (by omega)).2.1 h' hm
      clear h'
      refine (Civil_ok N y m d _ D).mono ?_
      rintro e w1 ⟨rfl, rfl⟩
      go_wp2_with fail
      refine (Civil_ok _ _ _ _ _ D').mono ?_
      rintro e w1 ⟨rfl, rfl⟩
      go_wp2_with fail
      refine (MonthEnd_ok N y m d _ D).mono ?_
      rintro e w1 ⟨rfl, rfl⟩
      go_wp2_with fail
      refine (Weekday_ok N _ n1 (by omega)).mono ?_
      rintro e w1 ⟨rfl, rfl⟩
      go_wp2_with fail
      refine (Weekday_ok (N + 1) _ (by omega) (by omega)).mono ?_
      rintro e w1 ⟨rfl, rfl⟩
      have hw : (N + 1 - 1) % 7 = ((N - 1) % 7 + 1) % 7 := by omega
      rw [hw]
      clear hw
      go_wp2_with fail
      all_goals go_ret
      all_goals exact ⟨by simp, rfl⟩
    have D' := (D.next (by omega)).2.2 h' hm
    clear h'
    have HM : Hid (¬ m < 12) := hm
    refine (Civil_ok N y m d _ D).mono ?_
    rintro e w1 ⟨rfl, rfl⟩
    go_wp2_with fail
    refine (Civil_ok _ _ _ _ _ D').mono ?_
    rintro e w1 ⟨rfl, rfl⟩
    go_wp2_with fail
    refine (MonthEnd_ok N y m d _ D).mono ?_
    rintro e w1 ⟨rfl, rfl⟩
    go_wp2_with fail
    refine (Weekday_ok N _ n1 (by omega)).mono ?_
    rintro e w1 ⟨rfl, rfl⟩
    go_wp2_with fail
    refine (Weekday_ok (N + 1) _ (by omega) (by omega)).mono ?_
    rintro e w1 ⟨rfl, rfl⟩
    have hw : (N + 1 - 1) % 7 = ((N - 1) % 7 + 1) % 7 := by omega
    rw [hw]
    clear hw
    go_wp2_with fail
    all_goals go_ret
    all_goals exact ⟨by simp, rfl⟩
  have c1' : decide (n < 1) = false := decide_eq_false c1
  by_cases c2 : 3652058 < n
  · have hn := u_mod n (show (0 : Int) < 3652058 by omega)
    obtain ⟨N, hN⟩ : ∃ N, N = 1 + (IntKind.u64.wrap n).tmod 3652058 := ⟨_, rfl⟩
    have HN : Hid (N = 1 + (IntKind.u64.wrap n).tmod 3652058) := hN
    have n1 : 1 ≤ N := by omega
    have n2 : N ≤ 3652058 := by omega
    clear hN
    go_enter Tryd.func6, Tryd.ntmps6
    go_wp2_with fail
    refine (awake03 _).mono ?_
    rintro e w1 ⟨rfl, rfl⟩
    go_wp2_with fail
    rw [← HN.out]
    obtain ⟨y, m, d, D⟩ := date_ex N n1 (by omega)
    have hml := mlen_hi y m
    have d1 := D.dlo
    have y1 := D.ylo
    have y2 := D.yhi
    have m1 := D.mlo
    have m2 := D.mhi
    have hd := D.dhi
    by_cases h : d < mlen y m
    · have D' := (D.next (by omega)).1 h
      have hb : (d == mlen y m) = false := by simp; omega
      clear hd
      refine (Civil_ok N y m d _ D).mono ?_
      rintro e w1 ⟨rfl, rfl⟩
      go_wp2_with fail
      refine (Civil_ok _ _ _ _ _ D').mono ?_
      rintro e w1 ⟨rfl, rfl⟩
      go_wp2_with fail
      refine (MonthEnd_ok N y m d _ D).mono ?_
      rintro e w1 ⟨rfl, rfl⟩
      go_wp2_with fail
      refine (Weekday_ok N _ n1 (by omega)).mono ?_
      rintro e w1 ⟨rfl, rfl⟩
      go_wp2_with fail
      refine (Weekday_ok (N + 1) _ (by omega) (by omega)).mono ?_
      rintro e w1 ⟨rfl, rfl⟩
      have hw : (N + 1 - 1) % 7 = ((N - 1) % 7 + 1) % 7 := by omega
      rw [hw]
      clear hw
      go_wp2_with fail
      all_goals go_ret
      all_goals exact ⟨by simp, rfl⟩
    have h' : d = mlen y m := by omega
    have hb : (d == mlen y m) = true := by simp; omega
    have HH : Hid (d = mlen y m) := h'
    clear hd h
    by_cases hm : m < 12
    · have D' := (D.next (by omega)).2.1 h' hm
      clear h'
      refine (Civil_ok N y m d _ D).mono ?_
      rintro e w1 ⟨rfl, rfl⟩
      go_wp2_with fail
      refine (Civil_ok _ _ _ _ _ D').mono ?_
      rintro e w1 ⟨rfl, rfl⟩
      go_wp2_with fail
      refine (MonthEnd_ok N y m d _ D).mono ?_
      rintro e w1 ⟨rfl, rfl⟩
      go_wp2_with fail
      refine (Weekday_ok N _ n1 (by omega)).mono ?_
      rintro e w1 ⟨rfl, rfl⟩
      go_wp2_with fail
      refine (Weekday_ok (N + 1) _ (by omega) (by omega)).mono ?_
      rintro e w1 ⟨rfl, rfl⟩
      have hw : (N + 1 - 1) % 7 = ((N - 1) % 7 + 1) % 7 := by omega
      rw [hw]
      clear hw
      go_wp2_with fail
      all_goals go_ret
      all_goals exact ⟨by simp, rfl⟩
    have D' := (D.next (by omega)).2.2 h' hm
    clear h'
    have HM : Hid (¬ m < 12) := hm
    refine (Civil_ok N y m d _ D).mono ?_
    rintro e w1 ⟨rfl, rfl⟩
    go_wp2_with fail
    refine (Civil_ok _ _ _ _ _ D').mono ?_
    rintro e w1 ⟨rfl, rfl⟩
    go_wp2_with fail
    refine (MonthEnd_ok N y m d _ D).mono ?_
    rintro e w1 ⟨rfl, rfl⟩
    go_wp2_with fail
    refine (Weekday_ok N _ n1 (by omega)).mono ?_
    rintro e w1 ⟨rfl, rfl⟩
    go_wp2_with fail
    refine (Weekday_ok (N + 1) _ (by omega) (by omega)).mono ?_
    rintro e w1 ⟨rfl, rfl⟩
    have hw : (N + 1 - 1) % 7 = ((N - 1) % 7 + 1) % 7 := by omega
    rw [hw]
    clear hw
    go_wp2_with fail
    all_goals go_ret
    all_goals exact ⟨by simp, rfl⟩
  obtain ⟨N, hN⟩ : ∃ N, N = n := ⟨_, rfl⟩
  subst hN
  have n1 : 1 ≤ N := by omega
  have n2 : N ≤ 3652058 := by omega
  go_enter Tryd.func6, Tryd.ntmps6
  go_wp2_with fail
  refine (awake03 _).mono ?_
  rintro e w1 ⟨rfl, rfl⟩
  go_wp2_with fail
  obtain ⟨y, m, d, D⟩ := date_ex N n1 (by omega)
  have hml := mlen_hi y m
  have d1 := D.dlo
  have y1 := D.ylo
  have y2 := D.yhi
  have m1 := D.mlo
  have m2 := D.mhi
  have hd := D.dhi
  by_cases h : d < mlen y m
  · have D' := (D.next (by omega)).1 h
    have hb : (d == mlen y m) = false := by simp; omega
    clear hd
    refine (Civil_ok N y m d _ D).mono ?_
    rintro e w1 ⟨rfl, rfl⟩
    go_wp2_with fail
    refine (Civil_ok _ _ _ _ _ D').mono ?_
    rintro e w1 ⟨rfl, rfl⟩
    go_wp2_with fail
    refine (MonthEnd_ok N y m d _ D).mono ?_
    rintro e w1 ⟨rfl, rfl⟩
    go_wp2_with fail
    refine (Weekday_ok N _ n1 (by omega)).mono ?_
    rintro e w1 ⟨rfl, rfl⟩
    go_wp2_with fail
    refine (Weekday_ok (N + 1) _ (by omega) (by omega)).mono ?_
    rintro e w1 ⟨rfl, rfl⟩
    have hw : (N + 1 - 1) % 7 = ((N - 1) % 7 + 1) % 7 := by omega
    rw [hw]
    clear hw
    go_wp2_with fail
    all_goals go_ret
    all_goals exact ⟨by simp, rfl⟩
  have h' : d = mlen y m := by omega
  have hb : (d == mlen y m) = true := by simp; omega
  have HH : Hid (d = mlen y m) := h'
  clear hd h
  by_cases hm : m < 12
  · have D' := (D.next (by omega)).2.1 h' hm
    clear h'
    refine (Civil_ok N y m d _ D).mono ?_
    rintro e w1 ⟨rfl, rfl⟩
    go_wp2_with fail
    refine (Civil_ok _ _ _ _ _ D').mono ?_
    rintro e w1 ⟨rfl, rfl⟩
    go_wp2_with fail
    refine (MonthEnd_ok N y m d _ D).mono ?_
    rintro e w1 ⟨rfl, rfl⟩
    go_wp2_with fail
    refine (Weekday_ok N _ n1 (by omega)).mono ?_
    rintro e w1 ⟨rfl, rfl⟩
    go_wp2_with fail
    refine (Weekday_ok (N + 1) _ (by omega) (by omega)).mono ?_
    rintro e w1 ⟨rfl, rfl⟩
    have hw : (N + 1 - 1) % 7 = ((N - 1) % 7 + 1) % 7 := by omega
    rw [hw]
    clear hw
    go_wp2_with fail
    all_goals go_ret
    all_goals exact ⟨by simp, rfl⟩
  have D' := (D.next (by omega)).2.2 h' hm
  clear h'
  have HM : Hid (¬ m < 12) := hm
  refine (Civil_ok N y m d _ D).mono ?_
  rintro e w1 ⟨rfl, rfl⟩
  go_wp2_with fail
  refine (Civil_ok _ _ _ _ _ D').mono ?_
  rintro e w1 ⟨rfl, rfl⟩
  go_wp2_with fail
  refine (MonthEnd_ok N y m d _ D).mono ?_
  rintro e w1 ⟨rfl, rfl⟩
  go_wp2_with fail
  refine (Weekday_ok N _ n1 (by omega)).mono ?_
  rintro e w1 ⟨rfl, rfl⟩
  go_wp2_with fail
  refine (Weekday_ok (N + 1) _ (by omega) (by omega)).mono ?_
  rintro e w1 ⟨rfl, rfl⟩
  have hw : (N + 1 - 1) % 7 = ((N - 1) % 7 + 1) % 7 := by omega
  rw [hw]
  clear hw
  go_wp2_with fail
  all_goals go_ret
  all_goals exact ⟨by simp, rfl⟩
set_option maxHeartbeats 1000000 in
theorem cycle_walk (n : Int) (w : World) :
    Calls Tryd.prog 8 #[.int .i64 n] w fun e w' => e = .returned (.bool true) ∧ w' = w := by
  by_cases c1 : n < 1
  · have hn := u_mod n (show (0 : Int) < 3505962 by omega)
    obtain ⟨N, hN⟩ : ∃ N, N = 1 + (IntKind.u64.wrap n).tmod 3505962 := ⟨_, rfl⟩
    have HN : Hid (N = 1 + (IntKind.u64.wrap n).tmod 3505962) := hN
    have n1 : 1 ≤ N := by omega
    have n2 : N ≤ 3505962 := by omega
    clear hN
    go_enter Tryd.func8, Tryd.ntmps8
    go_wp2_with fail
    refine (awake03 _).mono ?_
    rintro e w1 ⟨rfl, rfl⟩
    go_wp2_with fail
    rw [← HN.out]
    obtain ⟨y, m, d, D⟩ := date_ex N n1 (by omega)
    have D' := D.cycle (by omega)
    have y1 := D.ylo
    have y2 := D.yhi
    have m1 := D.mlo
    have m2 := D.mhi
    have d1 := D.dlo
    have d2 := D.d31
    refine (Civil_ok N y m d _ D).mono ?_
    rintro e w1 ⟨rfl, rfl⟩
    go_wp2_with fail
    refine (Civil_ok _ _ _ _ _ D').mono ?_
    rintro e w1 ⟨rfl, rfl⟩
    go_wp2_with fail
    refine (Weekday_ok N _ n1 (by omega)).mono ?_
    rintro e w1 ⟨rfl, rfl⟩
    go_wp2_with fail
    refine (Weekday_ok (N + 146097) _ (by omega) (by omega)).mono ?_
    rintro e w1 ⟨rfl, rfl⟩
    have hw : (N + 146097 - 1) % 7 = (N - 1) % 7 := by omega
    rw [hw]
    clear hw
    go_wp2_with fail
    all_goals go_ret
    all_goals exact ⟨by simp, rfl⟩
  have c1' : decide (n < 1) = false := decide_eq_false c1
  by_cases c2 : 3505962 < n
  · have hn := u_mod n (show (0 : Int) < 3505962 by omega)
    obtain ⟨N, hN⟩ : ∃ N, N = 1 + (IntKind.u64.wrap n).tmod 3505962 := ⟨_, rfl⟩
    have HN : Hid (N = 1 + (IntKind.u64.wrap n).tmod 3505962) := hN
    have n1 : 1 ≤ N := by omega
    have n2 : N ≤ 3505962 := by omega
    clear hN
    go_enter Tryd.func8, Tryd.ntmps8
    go_wp2_with fail
    refine (awake03 _).mono ?_
    rintro e w1 ⟨rfl, rfl⟩
    go_wp2_with fail
    rw [← HN.out]
    obtain ⟨y, m, d, D⟩ := date_ex N n1 (by omega)
    have D' := D.cycle (by omega)
    have y1 := D.ylo
    have y2 := D.yhi
    have m1 := D.mlo
    have m2 := D.mhi
    have d1 := D.dlo
    have d2 := D.d31
    refine (Civil_ok N y m d _ D).mono ?_
    rintro e w1 ⟨rfl, rfl⟩
    go_wp2_with fail
    refine (Civil_ok _ _ _ _ _ D').mono ?_
    rintro e w1 ⟨rfl, rfl⟩
    go_wp2_with fail
    refine (Weekday_ok N _ n1 (by omega)).mono ?_
    rintro e w1 ⟨rfl, rfl⟩
    go_wp2_with fail
    refine (Weekday_ok (N + 146097) _ (by omega) (by omega)).mono ?_
    rintro e w1 ⟨rfl, rfl⟩
    have hw : (N + 146097 - 1) % 7 = (N - 1) % 7 := by omega
    rw [hw]
    clear hw
    go_wp2_with fail
    all_goals go_ret
    all_goals exact ⟨by simp, rfl⟩
  obtain ⟨N, hN⟩ : ∃ N, N = n := ⟨_, rfl⟩
  subst hN
  have n1 : 1 ≤ N := by omega
  have n2 : N ≤ 3505962 := by omega
  go_enter Tryd.func8, Tryd.ntmps8
  go_wp2_with fail
  refine (awake03 _).mono ?_
  rintro e w1 ⟨rfl, rfl⟩
  go_wp2_with fail
  obtain ⟨y, m, d, D⟩ := date_ex N n1 (by omega)
  have D' := D.cycle (by omega)
  have y1 := D.ylo
  have y2 := D.yhi
  have m1 := D.mlo
  have m2 := D.mhi
  have d1 := D.dlo
  have d2 := D.d31
  refine (Civil_ok N y m d _ D).mono ?_
  rintro e w1 ⟨rfl, rfl⟩
  go_wp2_with fail
  refine (Civil_ok _ _ _ _ _ D').mono ?_
  rintro e w1 ⟨rfl, rfl⟩
  go_wp2_with fail
  refine (Weekday_ok N _ n1 (by omega)).mono ?_
  rintro e w1 ⟨rfl, rfl⟩
  go_wp2_with fail
  refine (Weekday_ok (N + 146097) _ (by omega) (by omega)).mono ?_
  rintro e w1 ⟨rfl, rfl⟩
  have hw : (N + 146097 - 1) % 7 = (N - 1) % 7 := by omega
  rw [hw]
  clear hw
  go_wp2_with fail
  all_goals go_ret
  all_goals exact ⟨by simp, rfl⟩
end Go.Proofs.YtmnnkipfciahmadDoor
