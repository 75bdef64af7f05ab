/- The contracts of the document's calendar (passbookref03), of right arguments. -/
import Derived.Test.YtfmmkbhaaifggaaDoorCc
namespace Go.Proofs.YtfmmkbhaaifggaaDoor
open Go.RowKit
set_option linter.unusedVariables false

theorem rLeap_ok (y : Int) (w : World) (h1 : 0 ≤ y) :
    Calls Tryd.prog 31 #[.int .i64 y] w fun e w' => e = .returned (.bool (decide (leap y))) ∧ w' = w := by
  by_cases h : y % 100 = 0
  · have e : (y % 400 == 0) = decide (leap y) := by
      have : leap y ↔ y % 400 = 0 := by unfold leap; omega
      simp only [this]; rfl
    go_enter Tryd.func31, Tryd.ntmps31
    go_wp2
    go_ret
    exact ⟨rfl, rfl⟩
  · have e : (y % 4 == 0) = decide (leap y) := by
      have : leap y ↔ y % 4 = 0 := by unfold leap; omega
      simp only [this]; rfl
    go_enter Tryd.func31, Tryd.ntmps31
    go_wp2
    go_ret
    exact ⟨rfl, rfl⟩
theorem rLength_ok (y m : Int) (w : World) (h1 : 0 ≤ y) :
    Calls Tryd.prog 23 #[.int .i64 y, .int .i64 m] w fun e w' => e = .returned (.int .i64 (mlen y m)) ∧ w' = w := by
  by_cases h2 : m = 2
  · subst h2
    by_cases hl : leap y
    · have e : mlen y 2 = 29 := by simp [mlen, lp, hl]
      rw [e]
      go_enter Tryd.func23, Tryd.ntmps23
      go_wp2_with (first | (go_at_call 31; refine (rLeap_ok y _ h1).mono ?_; rintro e w1 ⟨rfl, rfl⟩))
      go_ret
      exact ⟨rfl, rfl⟩
    · have e : mlen y 2 = 28 := by simp [mlen, lp, hl]
      rw [e]
      go_enter Tryd.func23, Tryd.ntmps23
      go_wp2_with (first | (go_at_call 31; refine (rLeap_ok y _ h1).mono ?_; rintro e w1 ⟨rfl, rfl⟩))
      go_ret
      exact ⟨rfl, rfl⟩
  · by_cases h4 : m = 4 ∨ m = 6 ∨ m = 9 ∨ m = 11
    · have e : mlen y m = 30 := by unfold mlen; rw [if_neg h2, if_pos h4]
      rw [e]
      clear e
      rcases h4 with rfl | rfl | rfl | rfl <;>
      · go_enter Tryd.func23, Tryd.ntmps23
        go_wp2
        go_ret
        exact ⟨rfl, rfl⟩
    · have e : mlen y m = 31 := by unfold mlen; rw [if_neg h2, if_neg h4]
      rw [e]
      clear e
      have h4a : m ≠ 4 := by omega
      have h4b : m ≠ 6 := by omega
      have h4c : m ≠ 9 := by omega
      have h4d : m ≠ 11 := by omega
      clear h4
      go_enter Tryd.func23, Tryd.ntmps23
      go_wp2
      go_ret
      exact ⟨rfl, rfl⟩
theorem rYear_ok (y : Int) (w : World) (h1 : 0 ≤ y) :
    Calls Tryd.prog 29 #[.int .i64 y] w fun e w' => e = .returned (.int .i64 (365 + lp y)) ∧ w' = w := by
  by_cases hl : leap y
  · rw [lp_yes hl]
    go_enter Tryd.func29, Tryd.ntmps29
    go_wp2_with (first | (go_at_call 31; refine (rLeap_ok y _ h1).mono ?_; rintro e w1 ⟨rfl, rfl⟩))
    go_ret
    exact ⟨rfl, rfl⟩
  · rw [lp_no hl]
    go_enter Tryd.func29, Tryd.ntmps29
    go_wp2_with (first | (go_at_call 31; refine (rLeap_ok y _ h1).mono ?_; rintro e w1 ⟨rfl, rfl⟩))
    go_ret
    exact ⟨rfl, rfl⟩
theorem rIs_yes (n : Int) (w : World) (h1 : 1 ≤ n) (h2 : n ≤ 3652059) :
    Calls Tryd.prog 8 #[.int .i64 n] w fun e w' => e = .returned (.bool true) ∧ w' = w := by
  go_enter Tryd.func8, Tryd.ntmps8
  go_wp2
  go_ret
  exact ⟨rfl, rfl⟩
theorem rIs_no (n : Int) (w : World) (h : ¬ (1 ≤ n ∧ n ≤ 3652059)) :
    Calls Tryd.prog 8 #[.int .i64 n] w fun e w' => e = .returned (.bool false) ∧ w' = w := by
  by_cases h1 : 1 ≤ n
  · have h2 : ¬ n ≤ 3652059 := by omega
    clear h
    go_enter Tryd.func8, Tryd.ntmps8
    go_wp2
    go_ret
    exact ⟨by simp, rfl⟩
  · clear h
    go_enter Tryd.func8, Tryd.ntmps8
    go_wp2
    go_ret
    exact ⟨rfl, rfl⟩
theorem first_cent (a : Int) : first (1 + 400 * a) = 146097 * a := by unfold first; omega
set_option maxRecDepth 100000 in
theorem rCivil_ok (n y m d : Int) (w : World) (D : Date n y m d) :
    Calls Tryd.prog 18 #[.int .i64 n] w fun e w' => e = .returned (.tuple #[.int .i64 y, .int .i64 m, .int .i64 d]) ∧ w' = w := by
  obtain ⟨b1, b2⟩ := D.bounds
  have hI := D.inY
  have hin := D.inYear
  obtain ⟨y1, y2, m1, m2, d1, d2, e⟩ := D
  obtain ⟨A, hA⟩ : ∃ A, A = ahead y (m - 1).toNat + d := ⟨_, rfl⟩
  rw [← hA] at hin
  have HnA : Hid (n = first y + A) := show n = first y + A by omega
  have HA : Hid (A = ahead y (m - 1).toNat + d) := hA
  have HI : Hid (InY n y) := hI
  have HD : Hid (d ≤ mlen y m) := d2
  have hl := lp_hi y
  have hl0 := lp_lo y
  clear hI e d2 hA
  obtain ⟨a, ha⟩ : ∃ a, a = (n - 1) / 146097 := ⟨_, rfl⟩
  have hm : (n - 1) % 146097 = n - 1 - first (1 + 400 * a) := by rw [first_cent]; omega
  have hya : 1 + 400 * a ≤ y := by
    apply Classical.byContradiction
    intro c
    have := first_mono (show y + 1 ≤ 1 + 400 * a by omega)
    rw [first_cent, first_step] at this
    have := HnA.out
    omega
  have ha0 : 0 ≤ a := by omega
  have HM : Hid ((n - 1) % 146097 = n - 1 - first (1 + 400 * a)) := hm
  have Ha : Hid (a = (n - 1) / 146097) := ha
  have fy := first_mono y1
  rw [first_1] at fy
  have HC : Hid (1 + 400 * a ≤ y) := hya
  clear ha hm hya
  go_enter Tryd.func18, Tryd.ntmps18
  go_wp2_with fail
  go_loop [0, 5] (fun t i => ∃ Y : Int, 1 ≤ Y ∧ Y ≤ y ∧ i = .int .i64 Y ∧ t = .int .i64 (n - 1 - first Y)) (fun _ i => y.toNat - (intOf i).toNat)
  case atStart =>
    have := HM.out
    have := Ha.out
    have := HC.out
    refine ⟨1 + 400 * a, by omega, by omega, ?_, ?_⟩
    · congr 1; omega
    · congr 1
  case round =>
    obtain ⟨Y, hk0, hk, rfl, rfl⟩ := hrel
    have f0 := first_mono hk0
    rw [first_1] at f0
    have f1 := first_step Y
    have l1 := lp_lo Y
    have l2 := lp_hi Y
    have f4 := HnA.out
    have f5 := first_mono hk
    have f6 : first Y ≤ n - 1 := by omega
    by_cases hy : Y = y
    · subst hy
      have f3 : n - 1 - first Y < 365 + lp Y := by omega
      have HF : Hid (n = first Y + A) := f4
      clear f1 f4 f5
      go_wp2_with (first | (go_at_call 29; refine (rYear_ok _ _ (by omega)).mono ?_; rintro e w1 ⟨rfl, rfl⟩))
      go_loop [0, 6] (fun t i => ∃ k : Nat, (k : Int) ≤ m - 1 ∧ i = .int .i64 (k + 1) ∧ t = .int .i64 (A - 1 - ahead Y k)) (fun _ i => 13 - (intOf i).toNat)
      case atStart =>
        have := HF.out
        refine ⟨0, by omega, rfl, ?_⟩
        rw [ahead]; congr 1; omega
      case round =>
        obtain ⟨k, hk, rfl, rfl⟩ := hrel
        have hm1 := mlen_lo Y (k + 1)
        have hm2 := mlen_hi Y (k + 1)
        have ha1 := ahead_mono Y (show 0 ≤ k by omega)
        have ha2 := ahead_mono Y (show (m - 1).toNat ≤ 12 by omega)
        rw [(ahead_tab Y).1] at ha1
        rw [(ahead_tab Y).2.2.2.2.2.2.2.2.2.2.2.2] at ha2
        have hd := HD.out
        have hA := HA.out
        by_cases hkm : (k : Int) = m - 1
        · obtain rfl : m = (k : Int) + 1 := by omega
          have t2 : A = ahead Y k + d := by rw [hA, show ((k : Int) + 1 - 1).toNat = k by omega]
          have t1 : A - 1 - ahead Y k < mlen Y (k + 1) := by omega
          have HT : Hid (A = ahead Y k + d) := t2
          have t3 : 0 ≤ A - 1 - ahead Y k := by omega
          clear hA hkm t2 ha2
          go_wp2_with (first | (go_at_call 23; refine (rLength_ok Y _ _ (by omega)).mono ?_; rintro e w1 ⟨rfl, rfl⟩))
          refine bodyPost_ret (v := .tuple #[.int .i64 Y, .int .i64 (k + 1), .int .i64 d]) (by have := HT.out; simp [results, Tryd.results18, go_sem]; omega) rfl ⟨rfl, rfl⟩
        · have t1 := ahead_mono Y (show k + 1 ≤ (m - 1).toNat by omega)
          rw [ahead] at t1
          have t2 : A - 1 - ahead Y k ≥ mlen Y (k + 1) := by omega
          have t3 : A ≤ 400 := by omega
          clear hA ha2 t1
          go_wp2_with (first | (go_at_call 23; refine (rLength_ok Y _ _ (by omega)).mono ?_; rintro e w1 ⟨rfl, rfl⟩))
          exact ⟨⟨k + 1, by omega, by go_num, by rw [ahead]; congr 1; omega⟩, by simp [intOf]; omega⟩
    · have f2 := first_mono (show Y + 1 ≤ y by omega)
      have f3 : 365 + lp Y ≤ n - 1 - first Y := by omega
      have HF : Hid (first (Y + 1) = first Y + 365 + lp Y) := f1
      clear f1 f2 f4 f5
      go_wp2_with (first | (go_at_call 29; refine (rYear_ok _ _ (by omega)).mono ?_; rintro e w1 ⟨rfl, rfl⟩))
      exact ⟨⟨Y + 1, by omega, by omega, rfl, by rw [HF.out]; congr 1; omega⟩, by simp [intOf]; omega⟩
set_option maxRecDepth 100000 in
theorem rNumber_ok (y m d : Int) (w : World) (h1 : 1 ≤ y) (h2 : y ≤ 9999) (h3 : 1 ≤ m) (h4 : m ≤ 12) (h5 : 1 ≤ d) (h6 : d ≤ 31) :
    Calls Tryd.prog 24 #[.int .i64 y, .int .i64 m, .int .i64 d] w fun e w' => e = .returned (.int .i64 (first y + ahead y (m - 1).toNat + d)) ∧ w' = w := by
  have HG := (show Hid _ from first_cent ((y - 1) / 400))
  have f9 : first y ≤ 3652059 := by have := first_mono (show y ≤ 10000 by omega); rw [first_10000] at this; exact this
  go_enter Tryd.func24, Tryd.ntmps24
  go_wp2_with fail
  go_loop [7, 8] (fun t i => ∃ Y : Int, 1 ≤ Y ∧ Y ≤ y ∧ i = .int .i64 Y ∧ t = .int .i64 (first Y)) (fun _ i => y.toNat - (intOf i).toNat)
  case atStart =>
    have := HG.out
    refine ⟨1 + 400 * ((y - 1) / 400), by omega, by omega, ?_, ?_⟩
    · congr 1
    · congr 1; omega
  case round =>
    obtain ⟨Y, hk0, hk, rfl, rfl⟩ := hrel
    have f0 := first_mono hk0
    rw [first_1] at f0
    have f5 := first_mono hk
    have l1 := lp_lo Y
    have l2 := lp_hi Y
    have HF : Hid (first (Y + 1) = first Y + 365 + lp Y) := first_step Y
    by_cases hy : Y = y
    · subst hy
      go_wp2_with (first | (go_at_call 29; refine (rYear_ok _ _ (by omega)).mono ?_; rintro e w1 ⟨rfl, rfl⟩))
      go_loop [7, 9] (fun t i => ∃ k : Nat, (k : Int) ≤ m - 1 ∧ i = .int .i64 (k + 1) ∧ t = .int .i64 (first Y + ahead Y k)) (fun _ i => m.toNat - (intOf i).toNat)
      case atStart => exact ⟨0, by omega, rfl, by rw [ahead]; congr 1; omega⟩
      case round =>
        obtain ⟨k, hk, rfl, rfl⟩ := hrel
        have hm1 := mlen_lo Y (k + 1)
        have hm2 := mlen_hi Y (k + 1)
        have ha1 := ahead_mono Y (show 0 ≤ k by omega)
        have ha2 := ahead_mono Y (show k ≤ 12 by omega)
        rw [(ahead_tab Y).1] at ha1
        rw [(ahead_tab Y).2.2.2.2.2.2.2.2.2.2.2.2] at ha2
        go_wp2_with (first | (go_at_call 23; refine (rLength_ok Y _ _ (by omega)).mono ?_; rintro e w1 ⟨rfl, rfl⟩))
        · exact ⟨⟨k + 1, by omega, by go_num, by rw [ahead]; congr 1; omega⟩, by simp [intOf]; omega⟩
        · go_ret
          exact ⟨by rw [show m.toNat - 1 = k by omega]; rfl, rfl⟩
    · have hy2 : Y < y := by omega
      go_wp2_with (first | (go_at_call 29; refine (rYear_ok _ _ (by omega)).mono ?_; rintro e w1 ⟨rfl, rfl⟩))
      exact ⟨⟨Y + 1, by omega, by omega, rfl, by rw [HF.out]; congr 1; omega⟩, by simp [intOf]; omega⟩
end Go.Proofs.YtfmmkbhaaifggaaDoor
