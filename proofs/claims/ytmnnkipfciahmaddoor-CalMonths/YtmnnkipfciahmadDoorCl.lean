/- The law CalMonths: the document's AddMonths, and the walk. -/
import Derived.Test.YtmnnkipfciahmadDoorCk
import Derived.Test.YtmnnkipfciahmadDoorCg
import Derived.Deep.LoopGhost
namespace Go.Proofs.YtmnnkipfciahmadDoor
open Go.RowKit
set_option linter.unusedVariables false

/-- what the document's loops come to: a month t, counted from the first one on -/
def docOf (d t : Int) : Int × Int :=
  if 0 ≤ t ∧ t ≤ 119987 then (first (t / 12 + 1) + ahead (t / 12 + 1) (t % 12).toNat + min d (mlen (t / 12 + 1) (t % 12 + 1)), 0) else (0, 4)
theorem docOf_yes {d t : Int} (h1 : 0 ≤ t) (h2 : t ≤ 119987) : docOf d t = (first (t / 12 + 1) + ahead (t / 12 + 1) (t % 12).toNat + min d (mlen (t / 12 + 1) (t % 12 + 1)), 0) := if_pos ⟨h1, h2⟩
theorem docOf_no {d t : Int} (h : ¬ (0 ≤ t ∧ t ≤ 119987)) : docOf d t = (0, 4) := if_neg h
theorem AddMonths_doc (n y m d k : Int) (w : World) (D : Date n y m d) :
    Calls Tryd.prog 9 #[.int .i64 n, .int .i64 k] w fun e w' => e = .returned (.tuple #[.int .i64 (docOf d ((y - 1) * 12 + m - 1 + k)).1, .int .i64 (docOf d ((y - 1) * 12 + m - 1 + k)).2]) ∧ w' = w := by
  by_cases h : 0 ≤ (y - 1) * 12 + m - 1 + k ∧ (y - 1) * 12 + m - 1 + k ≤ 119987
  · rw [docOf_yes h.1 h.2]
    have := AddMonths_ok n y m d k w D h.1 h.2
    have e : shn y m d k = first (((y - 1) * 12 + m - 1 + k) / 12 + 1) + ahead (((y - 1) * 12 + m - 1 + k) / 12 + 1) (((y - 1) * 12 + m - 1 + k) % 12).toNat + min d (mlen (((y - 1) * 12 + m - 1 + k) / 12 + 1) (((y - 1) * 12 + m - 1 + k) % 12 + 1)) := by
      unfold shn shd shy shm; rw [show ((y - 1) * 12 + m - 1 + k) % 12 + 1 - 1 = ((y - 1) * 12 + m - 1 + k) % 12 by omega]
    rw [e] at this
    exact this
  · rw [docOf_no h]
    exact AddMonths_far n y m d k w D h
set_option maxHeartbeats 1000000 in
set_option maxRecDepth 100000 in
theorem rDoc_zero (n y m d : Int) (w : World) (D : Date n y m d) :
    Calls Tryd.prog 10 #[.int .i64 n, .int .i64 0] w fun e w' => e = .returned (.tuple #[.int .i64 (docOf d ((y - 1) * 12 + m - 1 + 0)).1, .int .i64 (docOf d ((y - 1) * 12 + m - 1 + 0)).2]) ∧ w' = w := by
  obtain ⟨b1, b2⟩ := D.bounds
  have y1 := D.ylo
  have y2 := D.yhi
  have m1 := D.mlo
  have m2 := D.mhi
  have d1 := D.dlo
  have d2 := D.d31
  go_enter Tryd.func10, Tryd.ntmps10
  go_wp2_with fail
  refine (rIs_yes n _ b1 b2).mono ?_
  rintro e w1 ⟨rfl, rfl⟩
  go_wp2_with fail
  refine (rCivil_ok n y m d _ D).mono ?_
  rintro e w1 ⟨rfl, rfl⟩
  go_wp2_with fail
  refine wp_loop_rounds 1 ?_
  rw [rounds_succ]
  go_wp2_with fail
  refine wp_loop_rounds 1 ?_
  rw [rounds_succ]
  go_wp2_with fail
  have hml := mlen_lo y (m)
  have hmh := mlen_hi y (m)
  refine (rLength_ok y (m) _ (by omega)).mono ?_
  rintro e w1 ⟨rfl, rfl⟩
  by_cases hmin : d ≤ mlen y (m)
  · go_wp2_with fail
    refine (rNumber_ok y (m) _ _ (by omega) (by omega) (by omega) (by omega) (by omega) (by omega)).mono ?_
    rintro e w1 ⟨rfl, rfl⟩
    go_wp2_with fail
    refine bodyPost_ret (v := .tuple #[.int .i64 (docOf d ((y - 1) * 12 + m - 1 + 0)).1, .int .i64 (docOf d ((y - 1) * 12 + m - 1 + 0)).2]) ?_ rfl ⟨rfl, rfl⟩
    have HT := (show (y - 1) * 12 + m - 1 + 0 = (y - 1) * 12 + m - 1 by omega)
    rw [HT, docOf_yes (by omega) (by omega), show ((y - 1) * 12 + m - 1) / 12 + 1 = y by omega, show ((y - 1) * 12 + m - 1) % 12 + 1 = m by omega, show (((y - 1) * 12 + m - 1) % 12).toNat = (m - 1).toNat by omega]
    simp [results, Tryd.results10, go_sem]
    omega
  · go_wp2_with fail
    refine (rNumber_ok y (m) _ _ (by omega) (by omega) (by omega) (by omega) (by omega) (by omega)).mono ?_
    rintro e w1 ⟨rfl, rfl⟩
    go_wp2_with fail
    refine bodyPost_ret (v := .tuple #[.int .i64 (docOf d ((y - 1) * 12 + m - 1 + 0)).1, .int .i64 (docOf d ((y - 1) * 12 + m - 1 + 0)).2]) ?_ rfl ⟨rfl, rfl⟩
    have HT := (show (y - 1) * 12 + m - 1 + 0 = (y - 1) * 12 + m - 1 by omega)
    rw [HT, docOf_yes (by omega) (by omega), show ((y - 1) * 12 + m - 1) / 12 + 1 = y by omega, show ((y - 1) * 12 + m - 1) % 12 + 1 = m by omega, show (((y - 1) * 12 + m - 1) % 12).toNat = (m - 1).toNat by omega]
    simp [results, Tryd.results10, go_sem]
    omega
set_option maxHeartbeats 1000000 in
set_option maxRecDepth 100000 in
theorem rDoc_pos (n y m d k : Int) (w : World) (D : Date n y m d) (hk : 0 < k) (hk2 : k ≤ 9223372036854775807) :
    Calls Tryd.prog 10 #[.int .i64 n, .int .i64 k] w fun e w' => e = .returned (.tuple #[.int .i64 (docOf d ((y - 1) * 12 + m - 1 + k)).1, .int .i64 (docOf d ((y - 1) * 12 + m - 1 + k)).2]) ∧ w' = w := by
  obtain ⟨b1, b2⟩ := D.bounds
  have y1 := D.ylo
  have y2 := D.yhi
  have m1 := D.mlo
  have m2 := D.mhi
  have d1 := D.dlo
  have d2 := D.d31
  go_enter Tryd.func10, Tryd.ntmps10
  go_wp2_with fail
  refine (rIs_yes n _ b1 b2).mono ?_
  rintro e w1 ⟨rfl, rfl⟩
  go_wp2_with fail
  refine (rCivil_ok n y m d _ D).mono ?_
  rintro e w1 ⟨rfl, rfl⟩
  go_wp2_with fail
  go_loop [6, 7, 1] (fun a b c => ∃ Y M K : Int, 1 ≤ Y ∧ Y ≤ 10000 ∧ 1 ≤ M ∧ M ≤ 12 ∧ 0 ≤ K ∧ K ≤ k ∧ (Y = 10000 → M = 1) ∧ Aside ((Y - 1) * 12 + M - 1 + K = (y - 1) * 12 + m - 1 + k) ∧ a = .int .i64 Y ∧ b = .int .i64 M ∧ c = .int .i64 K) (fun _ _ c => (intOf c).toNat)
  case atStart => exact ⟨y, m, k, by omega, by omega, by omega, by omega, by omega, by omega, by omega, (show _ = _ by omega), rfl, rfl, rfl⟩
  case round =>
    obtain ⟨Y, M, K, r1, r2, r3, r4, r5, r6, r7, r8, rfl, rfl, rfl⟩ := hrel
    have r8' := r8.out
    by_cases c1 : K = 0
    · subst c1
      have HT : Hid ((Y - 1) * 12 + M - 1 + 0 = (y - 1) * 12 + m - 1 + k) := r8'
      clear r8 r8'
      by_cases c2 : Y = 10000
      · subst c2
        go_wp2_with fail
        refine wp_loop_rounds 1 ?_
        rw [rounds_succ]
        go_wp2_with fail
        have r8' := HT.out
        refine bodyPost_ret (v := .tuple #[.int .i64 (docOf d ((y - 1) * 12 + m - 1 + k)).1, .int .i64 (docOf d ((y - 1) * 12 + m - 1 + k)).2]) (by rw [docOf_no (by omega)]; simp [results, Tryd.results10, go_sem]) rfl ⟨rfl, rfl⟩
      · have c3 : Y ≤ 9999 := by omega
        clear r7
        go_wp2_with fail
        refine wp_loop_rounds 1 ?_
        rw [rounds_succ]
        go_wp2_with fail
        have r8' := HT.out
        have hml := mlen_lo Y (M)
        have hmh := mlen_hi Y (M)
        refine (rLength_ok Y (M) _ (by omega)).mono ?_
        rintro e w1 ⟨rfl, rfl⟩
        by_cases hmin : d ≤ mlen Y (M)
        · go_wp2_with fail
          refine (rNumber_ok Y (M) _ _ (by omega) (by omega) (by omega) (by omega) (by omega) (by omega)).mono ?_
          rintro e w1 ⟨rfl, rfl⟩
          go_wp2_with fail
          refine bodyPost_ret (v := .tuple #[.int .i64 (docOf d ((y - 1) * 12 + m - 1 + k)).1, .int .i64 (docOf d ((y - 1) * 12 + m - 1 + k)).2]) ?_ rfl ⟨rfl, rfl⟩
          have HT := (show (y - 1) * 12 + m - 1 + k = (Y - 1) * 12 + M - 1 by omega)
          rw [HT, docOf_yes (by omega) (by omega), show ((Y - 1) * 12 + M - 1) / 12 + 1 = Y by omega, show ((Y - 1) * 12 + M - 1) % 12 + 1 = M by omega, show (((Y - 1) * 12 + M - 1) % 12).toNat = (M - 1).toNat by omega]
          simp [results, Tryd.results10, go_sem]
          omega
        · go_wp2_with fail
          refine (rNumber_ok Y (M) _ _ (by omega) (by omega) (by omega) (by omega) (by omega) (by omega)).mono ?_
          rintro e w1 ⟨rfl, rfl⟩
          go_wp2_with fail
          refine bodyPost_ret (v := .tuple #[.int .i64 (docOf d ((y - 1) * 12 + m - 1 + k)).1, .int .i64 (docOf d ((y - 1) * 12 + m - 1 + k)).2]) ?_ rfl ⟨rfl, rfl⟩
          have HT := (show (y - 1) * 12 + m - 1 + k = (Y - 1) * 12 + M - 1 by omega)
          rw [HT, docOf_yes (by omega) (by omega), show ((Y - 1) * 12 + M - 1) / 12 + 1 = Y by omega, show ((Y - 1) * 12 + M - 1) % 12 + 1 = M by omega, show (((Y - 1) * 12 + M - 1) % 12).toNat = (M - 1).toNat by omega]
          simp [results, Tryd.results10, go_sem]
          omega
    · have c1' : 1 ≤ K := by omega
      by_cases c2 : Y = 10000
      · subst c2
        have HT : Hid ((10000 - 1) * 12 + M - 1 + K = (y - 1) * 12 + m - 1 + k) := r8'
        clear r8 r8'
        go_wp2_with fail
        refine wp_loop_rounds 1 ?_
        rw [rounds_succ]
        go_wp2_with fail
        have r8' := HT.out
        refine bodyPost_ret (v := .tuple #[.int .i64 (docOf d ((y - 1) * 12 + m - 1 + k)).1, .int .i64 (docOf d ((y - 1) * 12 + m - 1 + k)).2]) (by rw [docOf_no (by omega)]; simp [results, Tryd.results10, go_sem]) rfl ⟨rfl, rfl⟩
      · have c3 : Y ≤ 9999 := by omega
        have HT : Hid ((Y - 1) * 12 + M - 1 + K = (y - 1) * 12 + m - 1 + k) := r8'
        clear r8 r8' r7
        by_cases c4 : M = 12
        · subst c4
          go_wp2_with fail
          have := HT.out
          exact ⟨⟨Y + 1, 1, K - 1, by omega, by omega, by omega, by omega, by omega, by omega, by omega, (show _ = _ by omega), rfl, rfl, rfl⟩, by simp [intOf]; omega⟩
        · have c5 : M ≤ 11 := by omega
          go_wp2_with fail
          have := HT.out
          exact ⟨⟨Y, M + 1, K - 1, by omega, by omega, by omega, by omega, by omega, by omega, by omega, (show _ = _ by omega), rfl, rfl, rfl⟩, by simp [intOf]; omega⟩
set_option maxHeartbeats 1000000 in
set_option maxRecDepth 100000 in
theorem rDoc_neg (n y m d k : Int) (w : World) (D : Date n y m d) (hk : k < 0) (hk2 : -9223372036854775808 ≤ k) :
    Calls Tryd.prog 10 #[.int .i64 n, .int .i64 k] w fun e w' => e = .returned (.tuple #[.int .i64 (docOf d ((y - 1) * 12 + m - 1 + k)).1, .int .i64 (docOf d ((y - 1) * 12 + m - 1 + k)).2]) ∧ w' = w := by
  obtain ⟨b1, b2⟩ := D.bounds
  have y1 := D.ylo
  have y2 := D.yhi
  have m1 := D.mlo
  have m2 := D.mhi
  have d1 := D.dlo
  have d2 := D.d31
  go_enter Tryd.func10, Tryd.ntmps10
  go_wp2_with fail
  refine (rIs_yes n _ b1 b2).mono ?_
  rintro e w1 ⟨rfl, rfl⟩
  go_wp2_with fail
  refine (rCivil_ok n y m d _ D).mono ?_
  rintro e w1 ⟨rfl, rfl⟩
  go_wp2_with fail
  refine wp_loop_rounds 1 ?_
  rw [rounds_succ]
  go_wp2_with fail
  go_loop [6, 7, 1] (fun a b c => ∃ Y M K : Int, 0 ≤ Y ∧ Y ≤ 9999 ∧ 1 ≤ M ∧ M ≤ 12 ∧ K ≤ 0 ∧ k ≤ K ∧ (Y = 0 → M = 12) ∧ Aside ((Y - 1) * 12 + M - 1 + K = (y - 1) * 12 + m - 1 + k) ∧ a = .int .i64 Y ∧ b = .int .i64 M ∧ c = .int .i64 K) (fun _ _ c => (-(intOf c)).toNat)
  case atStart => exact ⟨y, m, k, by omega, by omega, by omega, by omega, by omega, by omega, by omega, (show _ = _ by omega), rfl, rfl, rfl⟩
  case round =>
    obtain ⟨Y, M, K, r1, r2, r3, r4, r5, r6, r7, r8, rfl, rfl, rfl⟩ := hrel
    have r8' := r8.out
    by_cases c1 : K = 0
    · subst c1
      have HT : Hid ((Y - 1) * 12 + M - 1 + 0 = (y - 1) * 12 + m - 1 + k) := r8'
      clear r8 r8'
      by_cases c2 : Y = 0
      · subst c2
        have r7' : M = 12 := r7 rfl
        subst r7'
        clear r7
        go_wp2_with fail
        have r8' := HT.out
        refine bodyPost_ret (v := .tuple #[.int .i64 (docOf d ((y - 1) * 12 + m - 1 + k)).1, .int .i64 (docOf d ((y - 1) * 12 + m - 1 + k)).2]) (by rw [docOf_no (by omega)]; simp [results, Tryd.results10, go_sem]) rfl ⟨rfl, rfl⟩
      · have c3 : 1 ≤ Y := by omega
        clear r7
        go_wp2_with fail
        have r8' := HT.out
        have hml := mlen_lo Y (M)
        have hmh := mlen_hi Y (M)
        refine (rLength_ok Y (M) _ (by omega)).mono ?_
        rintro e w1 ⟨rfl, rfl⟩
        by_cases hmin : d ≤ mlen Y (M)
        · go_wp2_with fail
          refine (rNumber_ok Y (M) _ _ (by omega) (by omega) (by omega) (by omega) (by omega) (by omega)).mono ?_
          rintro e w1 ⟨rfl, rfl⟩
          go_wp2_with fail
          refine bodyPost_ret (v := .tuple #[.int .i64 (docOf d ((y - 1) * 12 + m - 1 + k)).1, .int .i64 (docOf d ((y - 1) * 12 + m - 1 + k)).2]) ?_ rfl ⟨rfl, rfl⟩
          have HT := (show (y - 1) * 12 + m - 1 + k = (Y - 1) * 12 + M - 1 by omega)
          rw [HT, docOf_yes (by omega) (by omega), show ((Y - 1) * 12 + M - 1) / 12 + 1 = Y by omega, show ((Y - 1) * 12 + M - 1) % 12 + 1 = M by omega, show (((Y - 1) * 12 + M - 1) % 12).toNat = (M - 1).toNat by omega]
          simp [results, Tryd.results10, go_sem]
          omega
        · go_wp2_with fail
          refine (rNumber_ok Y (M) _ _ (by omega) (by omega) (by omega) (by omega) (by omega) (by omega)).mono ?_
          rintro e w1 ⟨rfl, rfl⟩
          go_wp2_with fail
          refine bodyPost_ret (v := .tuple #[.int .i64 (docOf d ((y - 1) * 12 + m - 1 + k)).1, .int .i64 (docOf d ((y - 1) * 12 + m - 1 + k)).2]) ?_ rfl ⟨rfl, rfl⟩
          have HT := (show (y - 1) * 12 + m - 1 + k = (Y - 1) * 12 + M - 1 by omega)
          rw [HT, docOf_yes (by omega) (by omega), show ((Y - 1) * 12 + M - 1) / 12 + 1 = Y by omega, show ((Y - 1) * 12 + M - 1) % 12 + 1 = M by omega, show (((Y - 1) * 12 + M - 1) % 12).toNat = (M - 1).toNat by omega]
          simp [results, Tryd.results10, go_sem]
          omega
    · have c1' : K ≤ -1 := by omega
      by_cases c2 : Y = 0
      · subst c2
        have r7' : M = 12 := r7 rfl
        subst r7'
        have HT : Hid ((0 - 1) * 12 + 12 - 1 + K = (y - 1) * 12 + m - 1 + k) := r8'
        clear r8 r8' r7
        go_wp2_with fail
        have r8' := HT.out
        refine bodyPost_ret (v := .tuple #[.int .i64 (docOf d ((y - 1) * 12 + m - 1 + k)).1, .int .i64 (docOf d ((y - 1) * 12 + m - 1 + k)).2]) (by rw [docOf_no (by omega)]; simp [results, Tryd.results10, go_sem]) rfl ⟨rfl, rfl⟩
      · have c3 : 1 ≤ Y := by omega
        have HT : Hid ((Y - 1) * 12 + M - 1 + K = (y - 1) * 12 + m - 1 + k) := r8'
        clear r8 r8' r7
        by_cases c4 : M = 1
        · subst c4
          go_wp2_with fail
          have := HT.out
          exact ⟨⟨Y - 1, 12, K + 1, by omega, by omega, by omega, by omega, by omega, by omega, by omega, (show _ = _ by omega), rfl, rfl, rfl⟩, by simp [intOf]; omega⟩
        · have c5 : 2 ≤ M := by omega
          go_wp2_with fail
          have := HT.out
          exact ⟨⟨Y, M - 1, K + 1, by omega, by omega, by omega, by omega, by omega, by omega, by omega, (show _ = _ by omega), rfl, rfl, rfl⟩, by simp [intOf]; omega⟩

theorem rDoc_arg (n k : Int) (w : World) (h : ¬ (1 ≤ n ∧ n ≤ 3652059)) :
    Calls Tryd.prog 10 #[.int .i64 n, .int .i64 k] w fun e w' => e = .returned (.tuple #[.int .i64 0, .int .i64 1]) ∧ w' = w := by
  go_enter Tryd.func10, Tryd.ntmps10
  go_wp2_with fail
  refine (rIs_no n _ h).mono ?_
  rintro e w1 ⟨rfl, rfl⟩
  go_wp2_with fail
  refine bodyPost_ret (v := .tuple #[.int .i64 0, .int .i64 1]) (by simp [results, Tryd.results10, go_sem]) rfl ⟨rfl, rfl⟩
theorem months_some (n k a e : Int) (w : World)
    (A : ∀ w, Calls Tryd.prog 9 #[.int .i64 n, .int .i64 k] w fun r w' => r = .returned (.tuple #[.int .i64 a, .int .i64 e]) ∧ w' = w)
    (B : ∀ w, Calls Tryd.prog 10 #[.int .i64 n, .int .i64 k] w fun r w' => r = .returned (.tuple #[.int .i64 a, .int .i64 e]) ∧ w' = w) :
    Calls Tryd.prog 3 #[.int .i64 n, .int .i64 k] w fun r w' => r = .returned (.bool true) ∧ w' = w := by
  go_enter Tryd.func3, Tryd.ntmps3
  go_wp2_with fail
  refine (A _).mono ?_
  rintro e w1 ⟨rfl, rfl⟩
  go_wp2_with fail
  refine (B _).mono ?_
  rintro e w1 ⟨rfl, rfl⟩
  go_wp2_with fail
  refine (awake03 _).mono ?_
  rintro e w1 ⟨rfl, rfl⟩
  go_wp2_with fail
  go_ret
  exact ⟨rfl, rfl⟩
theorem months_walk (n k : Int) (w : World) (wk : (Lit.int .i64 k).wf = true) :
    Calls Tryd.prog 3 #[.int .i64 n, .int .i64 k] w fun r w' => r = .returned (.bool true) ∧ w' = w := by
  have kb : -9223372036854775808 ≤ k ∧ k ≤ 9223372036854775807 := by simpa [Lit.wf, IntKind.min, IntKind.max, IntKind.signed, IntKind.bits] using wk
  by_cases h : 1 ≤ n ∧ n ≤ 3652059
  · obtain ⟨y, m, d, D⟩ := date_ex n h.1 h.2
    refine months_some n k _ _ w (fun w => AddMonths_doc n y m d k w D) (fun w => ?_)
    rcases Int.lt_trichotomy k 0 with c | c | c
    · exact rDoc_neg n y m d k w D c kb.1
    · subst c; exact rDoc_zero n y m d w D
    · exact rDoc_pos n y m d k w D c kb.2
  · exact months_some n k 0 1 w (fun w => AddMonths_arg n k w h) (fun w => rDoc_arg n k w h)
end Go.Proofs.YtmnnkipfciahmadDoor
