/- The contracts of cal's inner functions. -/
import Derived.Test.YtfmmkbhaaifggaaDoorProg
import Derived.Test.YtfmmkbhaaifggaaDoorCb
import Derived.WalkSpells
import Derived.WalkLawsBesides
import Derived.Handy
namespace Go.Proofs.YtfmmkbhaaifggaaDoor
open Go.RowKit
set_option linter.unusedVariables false

theorem isYear_yes (y : Int) (w : World) (h1 : 1 ≤ y) (h2 : y ≤ 9999) :
    Calls Tryd.prog 19 #[.int .i64 y] w fun e w' => e = .returned (.bool true) ∧ w' = w := by
  go_enter Tryd.func19, Tryd.ntmps19
  go_wp2
  go_ret
  exact ⟨rfl, rfl⟩
theorem isMonth_yes (y : Int) (w : World) (h1 : 1 ≤ y) (h2 : y ≤ 12) :
    Calls Tryd.prog 20 #[.int .i64 y] w fun e w' => e = .returned (.bool true) ∧ w' = w := by
  go_enter Tryd.func20, Tryd.ntmps20
  go_wp2
  go_ret
  exact ⟨rfl, rfl⟩
theorem isDay_yes (y : Int) (w : World) (h1 : 1 ≤ y) (h2 : y ≤ 3652059) :
    Calls Tryd.prog 15 #[.int .i64 y] w fun e w' => e = .returned (.bool true) ∧ w' = w := by
  go_enter Tryd.func15, Tryd.ntmps15
  go_wp2
  go_ret
  exact ⟨rfl, rfl⟩
theorem isLeap_ok (y : Int) (w : World) (h1 : 0 ≤ y) :
    Calls Tryd.prog 30 #[.int .i64 y] w fun e w' => e = .returned (.bool (decide (leap y))) ∧ w' = w := by
  unfold leap
  go_enter Tryd.func30, Tryd.ntmps30
  go_wp2
  all_goals go_ret
  all_goals exact ⟨by simp [*, Bool.beq_eq_decide_eq], rfl⟩
theorem length_ok (y m : Int) (w : World) (h1 : 0 ≤ y) :
    Calls Tryd.prog 21 #[.int .i64 y, .int .i64 m] w fun e w' => e = .returned (.int .i64 (mlen y m)) ∧ w' = w := by
  by_cases h2 : m = 2
  · subst h2
    by_cases hl : leap y
    · have e : mlen y 2 = 29 := by simp [mlen, lp, hl]
      rw [e]
      go_enter Tryd.func21, Tryd.ntmps21
      go_wp2_with (go_at_call 30; refine (isLeap_ok y _ h1).mono ?_; rintro e w1 ⟨rfl, rfl⟩)
      go_ret
      exact ⟨rfl, rfl⟩
    · have e : mlen y 2 = 28 := by simp [mlen, lp, hl]
      rw [e]
      go_enter Tryd.func21, Tryd.ntmps21
      go_wp2_with (go_at_call 30; refine (isLeap_ok y _ h1).mono ?_; rintro e w1 ⟨rfl, rfl⟩)
      go_ret
      exact ⟨rfl, rfl⟩
  · by_cases h4 : m = 4 ∨ m = 6 ∨ m = 9 ∨ m = 11
    · have e : mlen y m = 30 := by unfold mlen; rw [if_neg h2, if_pos h4]
      rw [e]
      clear e
      rcases h4 with rfl | rfl | rfl | rfl <;>
      · go_enter Tryd.func21, Tryd.ntmps21
        go_wp2
        go_ret
        exact ⟨rfl, rfl⟩
    · have e : mlen y m = 31 := by unfold mlen; rw [if_neg h2, if_neg h4]
      rw [e]
      clear e
      have h4a : m ≠ 4 := by omega
      have h4b : m ≠ 6 := by omega
      have h4c : m ≠ 9 := by omega
      have h4d : m ≠ 11 := by omega
      clear h4
      go_enter Tryd.func21, Tryd.ntmps21
      go_wp2
      go_ret
      exact ⟨rfl, rfl⟩
theorem number_ok (y m d : Int) (w : World) (h1 : 1 ≤ y) (h2 : y ≤ 9999) (h3 : 1 ≤ m) (h4 : m ≤ 12) (h5 : 1 ≤ d) (h6 : d ≤ 31) :
    Calls Tryd.prog 22 #[.int .i64 y, .int .i64 m, .int .i64 d] w fun e w' => e = .returned (.int .i64 (first y + ahead y (m - 1).toNat + d)) ∧ w' = w := by
  unfold first
  go_enter Tryd.func22, Tryd.ntmps22
  go_wp2
  go_loop [8, 25] (fun t i => ∃ k : Nat, (k : Int) ≤ m - 1 ∧ i = .int .i64 k ∧ t = .int .i64 ((y - 1) * 365 + (y - 1) / 4 - (y - 1) / 100 + (y - 1) / 400 + ahead y k)) (fun _ i => (m - 1).toNat - (intOf i).toNat)
  case atStart => exact ⟨0, by omega, rfl, by simp [ahead]⟩
  case round =>
    obtain ⟨k, hk, rfl, rfl⟩ := hrel
    have hm1 := mlen_lo y (k + 1)
    have hm2 := mlen_hi y (k + 1)
    have ha1 := ahead_mono y (show 0 ≤ k by omega)
    have ha2 := ahead_mono y (show k ≤ 12 by omega)
    rw [(ahead_tab y).1] at ha1
    rw [(ahead_tab y).2.2.2.2.2.2.2.2.2.2.2.2] at ha2
    have hl := lp_hi y
    go_wp2_with (go_at_call 21; refine (length_ok y _ _ (by omega)).mono ?_; rintro e w1 ⟨rfl, rfl⟩)
    · exact ⟨⟨k + 1, by omega, by go_num, by rw [ahead]; simp; omega⟩, by simp [intOf]; omega⟩
    · go_ret
      exact ⟨by rw [show m.toNat - 1 = k by omega]; rfl, rfl⟩
theorem yearOf_end (n y a p c p2 q p3 k : Int) (h1 : 1 ≤ n) (h2 : n ≤ 3652059) (hy : InY n y) (ha : a = (n - 1) / 146097) (hp : p = (n - 1) % 146097)
    (hc : c = min (p / 36524) 3) (hp2 : p2 = p - c * 36524) (hq : q = p2 / 1461) (hp3 : p3 = p2 % 1461) (hk : k = min (p3 / 365) 3) :
    1 + a * 400 + c * 100 + q * 4 + k = y ∧ p3 - k * 365 + 1 = n - first y := by
  obtain ⟨e1, e2, e3, e4, e5⟩ := yearOf_spec n a p c p2 q p3 k h1 h2 ha hp hc hp2 hq hp3 hk
  have e : 1 + a * 400 + c * 100 + q * 4 + k = y := by
    refine InY.uniq (n := n) ⟨by omega, ?_⟩ hy
    rw [first_step]; omega
  rw [e] at e1
  exact ⟨e, by omega⟩
set_option maxRecDepth 100000 in
theorem yearOf_ok (n y : Int) (w : World) (h1 : 1 ≤ n) (h2 : n ≤ 3652059) (hy : InY n y) :
    Calls Tryd.prog 26 #[.int .i64 n] w fun e w' => e = .returned (.tuple #[.int .i64 y, .int .i64 (n - first y)]) ∧ w' = w := by
  have HY : Hid (InY n y) := hy
  clear hy
  go_enter Tryd.func26, Tryd.ntmps26
  go_wp2
  case inl.inl =>
    obtain ⟨e1, e2⟩ := yearOf_end n y _ _ 3 _ _ _ 3 h1 h2 HY.out rfl rfl (by omega) rfl rfl rfl (by omega)
    refine bodyPost_ret (v := .tuple #[.int .i64 y, .int .i64 (n - first y)]) (by simp [results, Tryd.results26, go_sem]; omega) rfl ⟨rfl, rfl⟩
  case inr.inl =>
    obtain ⟨e1, e2⟩ := yearOf_end n y _ _ _ _ _ _ 3 h1 h2 HY.out rfl rfl (show (n - 1) % 146097 / 36524 = _ by omega) rfl rfl rfl (by omega)
    refine bodyPost_ret (v := .tuple #[.int .i64 y, .int .i64 (n - first y)]) (by simp [results, Tryd.results26, go_sem]; omega) rfl ⟨rfl, rfl⟩
  case inr.inr =>
    obtain ⟨e1, e2⟩ := yearOf_end n y _ _ _ _ _ _ _ h1 h2 HY.out rfl rfl (show (n - 1) % 146097 / 36524 = _ by omega) rfl rfl rfl (show ((n - 1) % 146097 - (n - 1) % 146097 / 36524 * 36524) % 1461 / 365 = _ by omega)
    refine bodyPost_ret (v := .tuple #[.int .i64 y, .int .i64 (n - first y)]) (by simp [results, Tryd.results26, go_sem]; omega) rfl ⟨rfl, rfl⟩
  all_goals
    obtain ⟨e1, e2⟩ := yearOf_end n y _ _ 3 _ _ _ _ h1 h2 HY.out rfl rfl (by omega) rfl rfl rfl (show ((n - 1) % 146097 - 3 * 36524) % 1461 / 365 = _ by omega)
    refine bodyPost_ret (v := .tuple #[.int .i64 y, .int .i64 (n - first y)]) (by simp [results, Tryd.results26, go_sem]; omega) rfl ⟨rfl, rfl⟩
set_option maxRecDepth 100000 in
theorem civil_ok (n y m d : Int) (w : World) (D : Date n y m d) :
    Calls Tryd.prog 16 #[.int .i64 n] w fun e w' => e = .returned (.tuple #[.int .i64 y, .int .i64 m, .int .i64 d]) ∧ w' = w := by
  obtain ⟨b1, b2⟩ := D.bounds
  have hI := D.inY
  obtain ⟨y1, y2, m1, m2, d1, d2, e⟩ := D
  have HI : Hid (InY n y) := hI
  have HE : Hid (n = first y + ahead y (m - 1).toNat + d) := e
  have HD : Hid (d ≤ mlen y m) := d2
  clear hI e d2
  obtain ⟨A, hA⟩ : ∃ A, A = ahead y (m - 1).toNat + d := ⟨_, rfl⟩
  have HA : Hid (A = ahead y (m - 1).toNat + d) := hA
  clear hA
  go_enter Tryd.func16, Tryd.ntmps16
  go_wp2_with (go_at_call 26; refine (yearOf_ok n y _ b1 b2 HI.out).mono ?_; rintro e w1 ⟨rfl, rfl⟩)
  go_loop [4, 11] (fun t i => ∃ k : Nat, (k : Int) ≤ m - 1 ∧ i = .int .i64 k ∧ t = .int .i64 (A - ahead y k)) (fun _ i => 12 - (intOf i).toNat)
  case atStart =>
    have := HE.out
    have := HA.out
    exact ⟨0, by omega, rfl, by rw [ahead]; congr 1; omega⟩
  case round =>
    obtain ⟨k, hk, rfl, rfl⟩ := hrel
    have hm1 := mlen_lo y (k + 1)
    have hm2 := mlen_hi y (k + 1)
    have ha1 := ahead_mono y (show 0 ≤ k by omega)
    have ha2 := ahead_mono y (show (m - 1).toNat ≤ 12 by omega)
    rw [(ahead_tab y).1] at ha1
    rw [(ahead_tab y).2.2.2.2.2.2.2.2.2.2.2.2] at ha2
    have hl := lp_hi y
    have hml := mlen_hi y m
    have hd := HD.out
    have hA := HA.out
    by_cases hkm : (k : Int) = m - 1
    · obtain rfl : m = (k : Int) + 1 := by omega
      have t2 : A = ahead y k + d := by rw [hA, show ((k : Int) + 1 - 1).toNat = k by omega]
      have t1 : A - ahead y k ≤ mlen y (k + 1) := by omega
      clear hA hkm
      subst t2
      go_wp2_with (go_at_call 21; refine (length_ok y _ _ (by omega)).mono ?_; rintro e w1 ⟨rfl, rfl⟩)
      refine bodyPost_ret (v := .tuple #[.int .i64 y, .int .i64 (k + 1), .int .i64 d]) (by simp [results, Tryd.results16, go_sem]; omega) rfl ⟨rfl, rfl⟩
    · have t1 := ahead_mono y (show k + 1 ≤ (m - 1).toNat by omega)
      rw [ahead] at t1
      have t2 : A - ahead y k > mlen y (k + 1) := by omega
      have t3 : A ≤ 400 := by omega
      clear hA ha2 t1
      go_wp2_with (go_at_call 21; refine (length_ok y _ _ (by omega)).mono ?_; rintro e w1 ⟨rfl, rfl⟩)
      exact ⟨⟨k + 1, by omega, by go_num, by rw [ahead]; congr 1; omega⟩, by simp [intOf]; omega⟩
end Go.Proofs.YtfmmkbhaaifggaaDoor
