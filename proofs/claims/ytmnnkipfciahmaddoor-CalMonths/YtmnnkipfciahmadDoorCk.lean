/- AddMonths, and the walk of the law CalSteps. -/
import Derived.Test.YtmnnkipfciahmadDoorCj
namespace Go.Proofs.YtmnnkipfciahmadDoor
open Go.RowKit
set_option linter.unusedVariables false

/-- the day that is k months later -/
def shy (y m k : Int) : Int := ((y - 1) * 12 + m - 1 + k) / 12 + 1
def shm (y m k : Int) : Int := ((y - 1) * 12 + m - 1 + k) % 12 + 1
def shd (y m d k : Int) : Int := min d (mlen (shy y m k) (shm y m k))
def shn (y m d k : Int) : Int := first (shy y m k) + ahead (shy y m k) (shm y m k - 1).toNat + shd y m d k
theorem Date.shift {n y m d : Int} (D : Date n y m d) (k : Int) (h1 : 0 ≤ (y - 1) * 12 + m - 1 + k) (h2 : (y - 1) * 12 + m - 1 + k ≤ 119987) : Date (shn y m d k) (shy y m k) (shm y m k) (shd y m d k) := by
  have := D.dlo
  have := mlen_lo (shy y m k) (shm y m k)
  refine ⟨?_, ?_, ?_, ?_, ?_, ?_, rfl⟩
  · unfold shy; omega
  · unfold shy; omega
  · unfold shm; omega
  · unfold shm; omega
  · unfold shd; omega
  · unfold shd; omega
set_option maxRecDepth 100000 in
theorem AddMonths_ok (n y m d k : Int) (w : World) (D : Date n y m d) (h1 : 0 ≤ (y - 1) * 12 + m - 1 + k) (h2 : (y - 1) * 12 + m - 1 + k ≤ 119987) :
    Calls Tryd.prog 9 #[.int .i64 n, .int .i64 k] w fun e w' => e = .returned (.tuple #[.int .i64 (shn y m d k), .int .i64 0]) ∧ w' = w := by
  have S := D.shift k h1 h2
  have S31 := S.d31
  obtain ⟨b1, b2⟩ := D.bounds
  have y1 := D.ylo
  have y2 := D.yhi
  have m1 := D.mlo
  have m2 := D.mhi
  have d1 := D.dlo
  have hq1 : decide (k < -((y - 1) * 12 + m - 1)) = false := decide_eq_false (by omega)
  have hq2 : decide (119987 - ((y - 1) * 12 + m - 1) < k) = false := decide_eq_false (by omega)
  obtain ⟨z1, z2, p1, p2, q1, q2, -⟩ := S
  have HZ : Hid (1 ≤ shy y m k ∧ shy y m k ≤ 9999 ∧ 1 ≤ shm y m k ∧ shm y m k ≤ 12 ∧ 1 ≤ shd y m d k ∧ shd y m d k ≤ 31) := ⟨z1, z2, p1, p2, q1, S31⟩
  have HM : Hid (28 ≤ mlen (shy y m k) (shm y m k) ∧ mlen (shy y m k) (shm y m k) ≤ 31 ∧ d ≤ 31) := ⟨mlen_lo _ _, mlen_hi _ _, D.d31⟩
  clear z1 z2 p1 p2 q1 q2 S31
  go_enter Tryd.func9, Tryd.ntmps9
  go_wp2_with (first | (go_at_call 24; refine (isDay_yes _ _ b1 b2).mono ?_; rintro e w1 ⟨rfl, rfl⟩) | (go_at_call 25; refine (civil_ok n y m d _ D).mono ?_; rintro e w1 ⟨rfl, rfl⟩) | (go_at_call 27; refine (length_ok (shy y m k) (shm y m k) _ (by have := HZ.out; omega)).mono ?_; rintro e w1 ⟨rfl, rfl⟩) | (go_at_call 26; refine (number_ok (shy y m k) (shm y m k) _ _ (by have := HZ.out; omega) (by have := HZ.out; omega) (by have := HZ.out; omega) (by have := HZ.out; omega) (by have := HM.out; omega) (by have := HM.out; omega)).mono ?_; rintro e w1 ⟨rfl, rfl⟩))
  all_goals
    refine bodyPost_ret (v := .tuple #[.int .i64 (shn y m d k), .int .i64 0]) ?_ rfl ⟨rfl, rfl⟩
    simp [results, Tryd.results9, go_sem]
    rw [show (shm y m k).toNat - 1 = (shm y m k - 1).toNat by omega]
    unfold shn shd
    omega
set_option maxRecDepth 100000 in
theorem AddMonths_far (n y m d k : Int) (w : World) (D : Date n y m d) (h : ¬ (0 ≤ (y - 1) * 12 + m - 1 + k ∧ (y - 1) * 12 + m - 1 + k ≤ 119987)) :
    Calls Tryd.prog 9 #[.int .i64 n, .int .i64 k] w fun e w' => e = .returned (.tuple #[.int .i64 0, .int .i64 4]) ∧ w' = w := by
  obtain ⟨b1, b2⟩ := D.bounds
  have y1 := D.ylo
  have y2 := D.yhi
  have m1 := D.mlo
  have m2 := D.mhi
  by_cases hq1 : k < -((y - 1) * 12 + m - 1)
  · clear h
    go_enter Tryd.func9, Tryd.ntmps9
    go_wp2_with (first | (go_at_call 24; refine (isDay_yes _ _ b1 b2).mono ?_; rintro e w1 ⟨rfl, rfl⟩) | (go_at_call 25; refine (civil_ok n y m d _ D).mono ?_; rintro e w1 ⟨rfl, rfl⟩))
    refine bodyPost_ret (v := .tuple #[.int .i64 0, .int .i64 4]) (by simp [results, Tryd.results9, go_sem]) rfl ⟨rfl, rfl⟩
  · have hq1' : decide (k < -((y - 1) * 12 + m - 1)) = false := decide_eq_false hq1
    have hq2 : 119987 - ((y - 1) * 12 + m - 1) < k := by omega
    clear h
    go_enter Tryd.func9, Tryd.ntmps9
    go_wp2_with (first | (go_at_call 24; refine (isDay_yes _ _ b1 b2).mono ?_; rintro e w1 ⟨rfl, rfl⟩) | (go_at_call 25; refine (civil_ok n y m d _ D).mono ?_; rintro e w1 ⟨rfl, rfl⟩))
    refine bodyPost_ret (v := .tuple #[.int .i64 0, .int .i64 4]) (by simp [results, Tryd.results9, go_sem]) rfl ⟨rfl, rfl⟩
theorem isDay_no (n : Int) (w : World) (h : ¬ (1 ≤ n ∧ n ≤ 3652059)) :
    Calls Tryd.prog 24 #[.int .i64 n] w fun e w' => e = .returned (.bool false) ∧ w' = w := by
  by_cases h1 : 1 ≤ n
  · have h2 : ¬ n ≤ 3652059 := by omega
    clear h
    go_enter Tryd.func24, Tryd.ntmps24
    go_wp2
    go_ret
    exact ⟨by simp, rfl⟩
  · clear h
    go_enter Tryd.func24, Tryd.ntmps24
    go_wp2
    go_ret
    exact ⟨rfl, rfl⟩
theorem AddMonths_arg (n k : Int) (w : World) (h : ¬ (1 ≤ n ∧ n ≤ 3652059)) :
    Calls Tryd.prog 9 #[.int .i64 n, .int .i64 k] w fun e w' => e = .returned (.tuple #[.int .i64 0, .int .i64 1]) ∧ w' = w := by
  go_enter Tryd.func9, Tryd.ntmps9
  go_wp2_with fail
  refine (isDay_no n _ h).mono ?_
  rintro e w1 ⟨rfl, rfl⟩
  go_wp2_with fail
  refine bodyPost_ret (v := .tuple #[.int .i64 0, .int .i64 1]) (by simp [results, Tryd.results9, go_sem]) rfl ⟨rfl, rfl⟩
/-- shifts one behind another -/
theorem sh_mon (y m k : Int) : (shy y m k - 1) * 12 + shm y m k - 1 = (y - 1) * 12 + m - 1 + k := by unfold shy shm; omega
theorem shy_shy (y m a b : Int) : shy (shy y m a) (shm y m a) b = shy y m (a + b) := by
  have := sh_mon y m a
  show ((shy y m a - 1) * 12 + shm y m a - 1 + b) / 12 + 1 = ((y - 1) * 12 + m - 1 + (a + b)) / 12 + 1
  rw [this, Int.add_assoc]
theorem shm_shm (y m a b : Int) : shm (shy y m a) (shm y m a) b = shm y m (a + b) := by
  have := sh_mon y m a
  show ((shy y m a - 1) * 12 + shm y m a - 1 + b) % 12 + 1 = ((y - 1) * 12 + m - 1 + (a + b)) % 12 + 1
  rw [this, Int.add_assoc]
theorem sh_zero {y m : Int} (h1 : 1 ≤ m) (h2 : m ≤ 12) : shy y m 0 = y ∧ shm y m 0 = m := by unfold shy shm; omega
theorem steps_facts {n y m d : Int} (D : Date n y m d) (a b : Int) :
    shn (shy y m a) (shm y m a) (shd y m d a) b ≤ shn y m d (a + b) ∧ shn (shy y m (a + b)) (shm y m (a + b)) (shd y m d (a + b)) (-a - b) ≤ n ∧ n - shn (shy y m (a + b)) (shm y m (a + b)) (shd y m d (a + b)) (-a - b) ≤ 3
      ∧ (d ≤ 28 → shn (shy y m a) (shm y m a) (shd y m d a) b = shn y m d (a + b) ∧ shn (shy y m (a + b)) (shm y m (a + b)) (shd y m d (a + b)) (-a - b) = n) := by
  have e1 := shy_shy y m a b
  have e2 := shm_shm y m a b
  have e3 := shy_shy y m (a + b) (-a - b)
  have e4 := shm_shm y m (a + b) (-a - b)
  rw [show a + b + (-a - b) = 0 by omega, (sh_zero D.mlo D.mhi).1] at e3
  rw [show a + b + (-a - b) = 0 by omega, (sh_zero D.mlo D.mhi).2] at e4
  have l1 := mlen_lo (shy y m a) (shm y m a)
  have l2 := mlen_lo (shy y m (a + b)) (shm y m (a + b))
  have d1 := D.dlo
  have d2 := D.dhi
  have d3 := D.d31
  have dn := D.day
  have g1 : shn (shy y m a) (shm y m a) (shd y m d a) b = first (shy y m (a + b)) + ahead (shy y m (a + b)) (shm y m (a + b) - 1).toNat + min (min d (mlen (shy y m a) (shm y m a))) (mlen (shy y m (a + b)) (shm y m (a + b))) := by
    unfold shn shd; rw [e1, e2]
  have g2 : shn (shy y m (a + b)) (shm y m (a + b)) (shd y m d (a + b)) (-a - b) = first y + ahead y (m - 1).toNat + min (min d (mlen (shy y m (a + b)) (shm y m (a + b)))) (mlen y m) := by
    unfold shn shd; rw [e3, e4]
  have g3 : shn y m d (a + b) = first (shy y m (a + b)) + ahead (shy y m (a + b)) (shm y m (a + b) - 1).toNat + min d (mlen (shy y m (a + b)) (shm y m (a + b))) := rfl
  rw [g1, g2, g3]
  omega
theorem i16_bounds {i : Int} (h : (Lit.int .i16 i).wf = true) : -32768 ≤ i ∧ i ≤ 32767 := by simpa [Lit.wf, IntKind.min, IntKind.max, IntKind.signed, IntKind.bits] using h
set_option maxHeartbeats 2000000 in
theorem steps_walk (n a b : Int) (w : World) (wa : (Lit.int .i16 a).wf = true) (wb : (Lit.int .i16 b).wf = true) :
    Calls Tryd.prog 7 #[.int .i64 n, .int .i16 a, .int .i16 b] w fun e w' => e = .returned (.bool true) ∧ w' = w := by
  have ab := i16_bounds wa
  have bb := i16_bounds wb
  clear wa wb
  by_cases c1 : n < 1
  · have hn := u_mod n (show (0 : Int) < 3652059 by omega)
    obtain ⟨N, hN⟩ : ∃ N, N = 1 + (IntKind.u64.wrap n).tmod 3652059 := ⟨_, rfl⟩
    have HN : Hid (N = 1 + (IntKind.u64.wrap n).tmod 3652059) := hN
    have n1 : 1 ≤ N := by omega
    have n2 : N ≤ 3652059 := by omega
    clear hN
    go_enter Tryd.func7, Tryd.ntmps7
    go_wp2_with fail
    refine (awake03 _).mono ?_
    rintro e w1 ⟨rfl, rfl⟩
    go_wp2_with fail
    rw [← HN.out]
    obtain ⟨y, m, d, D⟩ := date_ex N n1 n2
    have y1 := D.ylo
    have y2 := D.yhi
    have m1 := D.mlo
    have m2 := D.mhi
    refine (Civil_ok N y m d _ D).mono ?_
    rintro e w1 ⟨rfl, rfl⟩
    go_wp2_with fail
    by_cases hA : 0 ≤ (y - 1) * 12 + m - 1 + a ∧ (y - 1) * 12 + m - 1 + a ≤ 119987
    · have X := D.shift a hA.1 hA.2
      have hmon := sh_mon y m a
      by_cases hB : 0 ≤ (y - 1) * 12 + m - 1 + (a + b) ∧ (y - 1) * 12 + m - 1 + (a + b) ≤ 119987
      · have Z := D.shift (a + b) hB.1 hB.2
        obtain ⟨f1, f2, f3, f4⟩ := steps_facts D a b
        have hmon2 := sh_mon y m (a + b)
        have C1 := fun w => AddMonths_ok N y m d a w D hA.1 hA.2
        have C2 := fun w => AddMonths_ok _ _ _ _ b w X (by omega) (by omega)
        have C3 := fun w => AddMonths_ok N y m d (a + b) w D hB.1 hB.2
        have C4 := fun w => AddMonths_ok _ _ _ _ (-a - b) w Z (by omega) (by omega)
        have kb := (Z.shift (-a - b) (by omega) (by omega)).bounds
        generalize shn (shy y m a) (shm y m a) (shd y m d a) b = Y at *
        generalize shn (shy y m (a + b)) (shm y m (a + b)) (shd y m d (a + b)) (-a - b) = K at *
        generalize shn y m d (a + b) = z at *
        generalize shn y m d a = x at *
        clear X Z hmon hmon2 hA hB
        refine (C1 _).mono ?_
        rintro e w1 ⟨rfl, rfl⟩
        go_wp2_with fail
        refine (C2 _).mono ?_
        rintro e w1 ⟨rfl, rfl⟩
        go_wp2_with fail
        refine (C3 _).mono ?_
        rintro e w1 ⟨rfl, rfl⟩
        go_wp2_with fail
        refine (C4 _).mono ?_
        rintro e w1 ⟨rfl, rfl⟩
        clear C1 C2 C3 C4
        by_cases h28 : d ≤ 28
        · obtain ⟨rfl, rfl⟩ := f4 h28
          clear f4 f1 f2 f3
          go_wp2_with fail
          go_ret
          exact ⟨by simp, rfl⟩
        · clear f4
          go_wp2_with fail
          go_ret
          exact ⟨by simp, rfl⟩
      · have C1 := fun w => AddMonths_ok N y m d a w D hA.1 hA.2
        have C2 := fun w => AddMonths_far _ _ _ _ b w X (by omega)
        have C3 := fun w => AddMonths_far N y m d (a + b) w D hB
        generalize shn y m d a = x at *
        clear X hmon hA hB
        refine (C1 _).mono ?_
        rintro e w1 ⟨rfl, rfl⟩
        go_wp2_with fail
        refine (C2 _).mono ?_
        rintro e w1 ⟨rfl, rfl⟩
        go_wp2_with fail
        refine (C3 _).mono ?_
        rintro e w1 ⟨rfl, rfl⟩
        go_wp2_with fail
        go_ret
        exact ⟨rfl, rfl⟩
    have C1 := fun w => AddMonths_far N y m d a w D hA
    have C2 := fun w => AddMonths_arg 0 b w (by omega)
    have C3 : ∃ z h : Int, ∀ w, Calls Tryd.prog 9 #[.int .i64 N, .int .i64 (a + b)] w fun e w' => e = .returned (.tuple #[.int .i64 z, .int .i64 h]) ∧ w' = w := by
      by_cases hB : 0 ≤ (y - 1) * 12 + m - 1 + (a + b) ∧ (y - 1) * 12 + m - 1 + (a + b) ≤ 119987
      · exact ⟨_, _, fun w => AddMonths_ok N y m d (a + b) w D hB.1 hB.2⟩
      · exact ⟨_, _, fun w => AddMonths_far N y m d (a + b) w D hB⟩
    obtain ⟨z, h, C3⟩ := C3
    clear hA
    refine (C1 _).mono ?_
    rintro e w1 ⟨rfl, rfl⟩
    go_wp2_with fail
    refine (C2 _).mono ?_
    rintro e w1 ⟨rfl, rfl⟩
    go_wp2_with fail
    refine (C3 _).mono ?_
    rintro e w1 ⟨rfl, rfl⟩
    go_wp2_with fail
    go_ret
    exact ⟨rfl, rfl⟩
  have c1' : decide (n < 1) = false := decide_eq_false c1
  by_cases c2 : 3652059 < n
  · have hn := u_mod n (show (0 : Int) < 3652059 by omega)
    obtain ⟨N, hN⟩ : ∃ N, N = 1 + (IntKind.u64.wrap n).tmod 3652059 := ⟨_, rfl⟩
    have HN : Hid (N = 1 + (IntKind.u64.wrap n).tmod 3652059) := hN
    have n1 : 1 ≤ N := by omega
    have n2 : N ≤ 3652059 := by omega
    clear hN
    go_enter Tryd.func7, Tryd.ntmps7
    go_wp2_with fail
    refine (awake03 _).mono ?_
    rintro e w1 ⟨rfl, rfl⟩
    go_wp2_with fail
    rw [← HN.out]
    obtain ⟨y, m, d, D⟩ := date_ex N n1 n2
    have y1 := D.ylo
    have y2 := D.yhi
    have m1 := D.mlo
    have m2 := D.mhi
    refine (Civil_ok N y m d _ D).mono ?_
    rintro e w1 ⟨rfl, rfl⟩
    go_wp2_with fail
    by_cases hA : 0 ≤ (y - 1) * 12 + m - 1 + a ∧ (y - 1) * 12 + m - 1 + a ≤ 119987
    · have X := D.shift a hA.1 hA.2
      have hmon := sh_mon y m a
      by_cases hB : 0 ≤ (y - 1) * 12 + m - 1 + (a + b) ∧ (y - 1) * 12 + m - 1 + (a + b) ≤ 119987
      · have Z := D.shift (a + b) hB.1 hB.2
        obtain ⟨f1, f2, f3, f4⟩ := steps_facts D a b
        have hmon2 := sh_mon y m (a + b)
        have C1 := fun w => AddMonths_ok N y m d a w D hA.1 hA.2
        have C2 := fun w => AddMonths_ok _ _ _ _ b w X (by omega) (by omega)
        have C3 := fun w => AddMonths_ok N y m d (a + b) w D hB.1 hB.2
        have C4 := fun w => AddMonths_ok _ _ _ _ (-a - b) w Z (by omega) (by omega)
        have kb := (Z.shift (-a - b) (by omega) (by omega)).bounds
        generalize shn (shy y m a) (shm y m a) (shd y m d a) b = Y at *
        generalize shn (shy y m (a + b)) (shm y m (a + b)) (shd y m d (a + b)) (-a - b) = K at *
        generalize shn y m d (a + b) = z at *
        generalize shn y m d a = x at *
        clear X Z hmon hmon2 hA hB
        refine (C1 _).mono ?_
        rintro e w1 ⟨rfl, rfl⟩
        go_wp2_with fail
        refine (C2 _).mono ?_
        rintro e w1 ⟨rfl, rfl⟩
        go_wp2_with fail
        refine (C3 _).mono ?_
        rintro e w1 ⟨rfl, rfl⟩
        go_wp2_with fail
        refine (C4 _).mono ?_
        rintro e w1 ⟨rfl, rfl⟩
        clear C1 C2 C3 C4
        by_cases h28 : d ≤ 28
        · obtain ⟨rfl, rfl⟩ := f4 h28
          clear f4 f1 f2 f3
          go_wp2_with fail
          go_ret
          exact ⟨by simp, rfl⟩
        · clear f4
          go_wp2_with fail
          go_ret
          exact ⟨by simp, rfl⟩
      · have C1 := fun w => AddMonths_ok N y m d a w D hA.1 hA.2
        have C2 := fun w => AddMonths_far _ _ _ _ b w X (by omega)
        have C3 := fun w => AddMonths_far N y m d (a + b) w D hB
        generalize shn y m d a = x at *
        clear X hmon hA hB
        refine (C1 _).mono ?_
        rintro e w1 ⟨rfl, rfl⟩
        go_wp2_with fail
        refine (C2 _).mono ?_
        rintro e w1 ⟨rfl, rfl⟩
        go_wp2_with fail
        refine (C3 _).mono ?_
        rintro e w1 ⟨rfl, rfl⟩
        go_wp2_with fail
        go_ret
        exact ⟨rfl, rfl⟩
    have C1 := fun w => AddMonths_far N y m d a w D hA
    have C2 := fun w => AddMonths_arg 0 b w (by omega)
    have C3 : ∃ z h : Int, ∀ w, Calls Tryd.prog 9 #[.int .i64 N, .int .i64 (a + b)] w fun e w' => e = .returned (.tuple #[.int .i64 z, .int .i64 h]) ∧ w' = w := by
      by_cases hB : 0 ≤ (y - 1) * 12 + m - 1 + (a + b) ∧ (y - 1) * 12 + m - 1 + (a + b) ≤ 119987
      · exact ⟨_, _, fun w => AddMonths_ok N y m d (a + b) w D hB.1 hB.2⟩
      · exact ⟨_, _, fun w => AddMonths_far N y m d (a + b) w D hB⟩
    obtain ⟨z, h, C3⟩ := C3
    clear hA
    refine (C1 _).mono ?_
    rintro e w1 ⟨rfl, rfl⟩
    go_wp2_with fail
    refine (C2 _).mono ?_
    rintro e w1 ⟨rfl, rfl⟩
    go_wp2_with fail
    refine (C3 _).mono ?_
    rintro e w1 ⟨rfl, rfl⟩
    go_wp2_with fail
    go_ret
    exact ⟨rfl, rfl⟩
  obtain ⟨N, hN⟩ : ∃ N, N = n := ⟨_, rfl⟩
  subst hN
  have n1 : 1 ≤ N := by omega
  have n2 : N ≤ 3652059 := by omega
  go_enter Tryd.func7, Tryd.ntmps7
  go_wp2_with fail
  refine (awake03 _).mono ?_
  rintro e w1 ⟨rfl, rfl⟩
  go_wp2_with fail
  obtain ⟨y, m, d, D⟩ := date_ex N n1 n2
  have y1 := D.ylo
  have y2 := D.yhi
  have m1 := D.mlo
  have m2 := D.mhi
  refine (Civil_ok N y m d _ D).mono ?_
  rintro e w1 ⟨rfl, rfl⟩
  go_wp2_with fail
  by_cases hA : 0 ≤ (y - 1) * 12 + m - 1 + a ∧ (y - 1) * 12 + m - 1 + a ≤ 119987
  · have X := D.shift a hA.1 hA.2
    have hmon := sh_mon y m a
    by_cases hB : 0 ≤ (y - 1) * 12 + m - 1 + (a + b) ∧ (y - 1) * 12 + m - 1 + (a + b) ≤ 119987
    · have Z := D.shift (a + b) hB.1 hB.2
      obtain ⟨f1, f2, f3, f4⟩ := steps_facts D a b
      have hmon2 := sh_mon y m (a + b)
      have C1 := fun w => AddMonths_ok N y m d a w D hA.1 hA.2
      have C2 := fun w => AddMonths_ok _ _ _ _ b w X (by omega) (by omega)
      have C3 := fun w => AddMonths_ok N y m d (a + b) w D hB.1 hB.2
      have C4 := fun w => AddMonths_ok _ _ _ _ (-a - b) w Z (by omega) (by omega)
      have kb := (Z.shift (-a - b) (by omega) (by omega)).bounds
      generalize shn (shy y m a) (shm y m a) (shd y m d a) b = Y at *
      generalize shn (shy y m (a + b)) (shm y m (a + b)) (shd y m d (a + b)) (-a - b) = K at *
      generalize shn y m d (a + b) = z at *
      generalize shn y m d a = x at *
      clear X Z hmon hmon2 hA hB
      refine (C1 _).mono ?_
      rintro e w1 ⟨rfl, rfl⟩
      go_wp2_with fail
      refine (C2 _).mono ?_
      rintro e w1 ⟨rfl, rfl⟩
      go_wp2_with fail
      refine (C3 _).mono ?_
      rintro e w1 ⟨rfl, rfl⟩
      go_wp2_with fail
      refine (C4 _).mono ?_
      rintro e w1 ⟨rfl, rfl⟩
      clear C1 C2 C3 C4
      by_cases h28 : d ≤ 28
      · obtain ⟨rfl, rfl⟩ := f4 h28
        clear f4 f1 f2 f3
        go_wp2_with fail
        go_ret
        exact ⟨by simp, rfl⟩
      · clear f4
        go_wp2_with fail
        go_ret
        exact ⟨by simp, rfl⟩
    · have C1 := fun w => AddMonths_ok N y m d a w D hA.1 hA.2
      have C2 := fun w => AddMonths_far _ _ _ _ b w X (by omega)
      have C3 := fun w => AddMonths_far N y m d (a + b) w D hB
      generalize shn y m d a = x at *
      clear X hmon hA hB
      refine (C1 _).mono ?_
      rintro e w1 ⟨rfl, rfl⟩
      go_wp2_with fail
      refine (C2 _).mono ?_
      rintro e w1 ⟨rfl, rfl⟩
      go_wp2_with fail
      refine (C3 _).mono ?_
      rintro e w1 ⟨rfl, rfl⟩
      go_wp2_with fail
      go_ret
      exact ⟨rfl, rfl⟩
  have C1 := fun w => AddMonths_far N y m d a w D hA
  have C2 := fun w => AddMonths_arg 0 b w (by omega)
  have C3 : ∃ z h : Int, ∀ w, Calls Tryd.prog 9 #[.int .i64 N, .int .i64 (a + b)] w fun e w' => e = .returned (.tuple #[.int .i64 z, .int .i64 h]) ∧ w' = w := by
    by_cases hB : 0 ≤ (y - 1) * 12 + m - 1 + (a + b) ∧ (y - 1) * 12 + m - 1 + (a + b) ≤ 119987
    · exact ⟨_, _, fun w => AddMonths_ok N y m d (a + b) w D hB.1 hB.2⟩
    · exact ⟨_, _, fun w => AddMonths_far N y m d (a + b) w D hB⟩
  obtain ⟨z, h, C3⟩ := C3
  clear hA
  refine (C1 _).mono ?_
  rintro e w1 ⟨rfl, rfl⟩
  go_wp2_with fail
  refine (C2 _).mono ?_
  rintro e w1 ⟨rfl, rfl⟩
  go_wp2_with fail
  refine (C3 _).mono ?_
  rintro e w1 ⟨rfl, rfl⟩
  go_wp2_with fail
  go_ret
  exact ⟨rfl, rfl⟩
end Go.Proofs.YtmnnkipfciahmadDoor
