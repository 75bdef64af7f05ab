/- accrue: Pay and Fee, by the program and by the document; the walk of AccruePays. -/
import Derived.Test.YtmaikgebdegkgaaKe
namespace Go.Proofs.Ytmaikgebdegkgaa
open Go.RowKit
set_option linter.unusedVariables false

theorem amount_ok (n : Int) (w : World) : Calls Try.prog 24 #[.int .i64 n] w fun e w' => e = .returned (.bool (decide (0 ≤ n ∧ n ≤ 10000000000000))) ∧ w' = w := by
  by_cases h0 : 0 ≤ n
  · by_cases h1 : n ≤ 10000000000000
    · rw [show decide (0 ≤ n ∧ n ≤ 10000000000000) = true from decide_eq_true ⟨h0, h1⟩]
      go_enter Try.func24, Try.ntmps24
      go_wp2_with fail
      go_ret
      exact ⟨rfl, rfl⟩
    · rw [show decide (0 ≤ n ∧ n ≤ 10000000000000) = false from decide_eq_false (fun h => h1 h.2)]
      go_enter Try.func24, Try.ntmps24
      go_wp2_with fail
      go_ret
      exact ⟨rfl, rfl⟩
  · rw [show decide (0 ≤ n ∧ n ≤ 10000000000000) = false from decide_eq_false (fun h => h0 h.1)]
    go_enter Try.func24, Try.ntmps24
    go_wp2_with fail
    go_ret
    exact ⟨rfl, rfl⟩
theorem Pay_ok (m r : Int) (w : World) (hm : 0 ≤ m ∧ m ≤ 4000000000000000000) (hr : 0 ≤ r ∧ r ≤ 20000000000000) : Calls Try.prog 15 #[.int .i64 m, .int .i64 r] w fun e w' => e = .returned (.tuple #[.int .i64 (min (m / 1000000) r), .int .i64 (m % 1000000), .int .i64 0]) ∧ Below w.heap.size w w' := by
  have B0 := (show Hid _ from Below.refl w.heap.size w)
  have dm : decide (0 ≤ m ∧ m ≤ 4000000000000000000) = true := decide_eq_true hm
  have dr : decide (0 ≤ r ∧ r ≤ 20000000000000) = true := decide_eq_true hr
  have t1 : m.tdiv 1000000 = m / 1000000 := Int.tdiv_eq_ediv_of_nonneg hm.1
  have t2 : m.tmod 1000000 = m % 1000000 := Int.tmod_eq_emod_of_nonneg hm.1
  obtain ⟨m1, m2⟩ := hm
  obtain ⟨r1, r2⟩ := hr
  by_cases h : r < m / 1000000
  · rw [show min (m / 1000000) r = r by omega]
    go_enter Try.func15, Try.ntmps15
    go_wp2_with fail
    refine (upTo_ok m 4000000000000000000 _).mono ?_
    rintro e w1 ⟨rfl, hw⟩
    obtain rfl := hw.symm
    rw [dm]
    go_wp2_with fail
    refine (upTo_ok r 20000000000000 _).mono ?_
    rintro e w1 ⟨rfl, hw⟩
    obtain rfl := hw.symm
    rw [dr]
    clear dm dr
    go_wp2_with fail
    refine bodyPost_ret (v := .tuple #[.int .i64 (r), .int .i64 (m % 1000000), .int .i64 0]) (by simp [results, Try.results15, go_sem]) rfl ?_
    exact ⟨rfl, B0.out⟩
  · rw [show min (m / 1000000) r = m / 1000000 by omega]
    go_enter Try.func15, Try.ntmps15
    go_wp2_with fail
    refine (upTo_ok m 4000000000000000000 _).mono ?_
    rintro e w1 ⟨rfl, hw⟩
    obtain rfl := hw.symm
    rw [dm]
    go_wp2_with fail
    refine (upTo_ok r 20000000000000 _).mono ?_
    rintro e w1 ⟨rfl, hw⟩
    obtain rfl := hw.symm
    rw [dr]
    clear dm dr
    go_wp2_with fail
    refine bodyPost_ret (v := .tuple #[.int .i64 (m / 1000000), .int .i64 (m % 1000000), .int .i64 0]) (by simp [results, Try.results15, go_sem]) rfl ?_
    exact ⟨rfl, B0.out⟩
theorem DocPay_ok (m r : Int) (w : World) (hm : 0 ≤ m ∧ m ≤ 4000000000000000000) (hr : 0 ≤ r ∧ r ≤ 20000000000000) : Calls Try.prog 16 #[.int .i64 m, .int .i64 r] w fun e w' => e = .returned (.tuple #[.int .i64 (min (m / 1000000) r), .int .i64 (m % 1000000), .int .i64 0]) ∧ Below w.heap.size w w' := by
  have B0 := (show Hid _ from Below.refl w.heap.size w)
  have t1 : m.tdiv 1000000 = m / 1000000 := Int.tdiv_eq_ediv_of_nonneg hm.1
  have t3 : Hid (m - 1000000 * (m / 1000000) = m % 1000000) := (by omega : m - 1000000 * (m / 1000000) = m % 1000000)
  obtain ⟨m1, m2⟩ := hm
  obtain ⟨r1, r2⟩ := hr
  have lm : decide (m < 0) = false := decide_eq_false (by omega)
  have gm : decide (4000000000000000000 < m) = false := decide_eq_false (by omega)
  have lr : decide (r < 0) = false := decide_eq_false (by omega)
  have gr : decide (20000000000000 < r) = false := decide_eq_false (by omega)
  by_cases h : r < m / 1000000
  · rw [show min (m / 1000000) r = r by omega]
    go_enter Try.func16, Try.ntmps16
    go_wp2_with fail
    refine bodyPost_ret (v := .tuple #[.int .i64 (r), .int .i64 (m - 1000000 * (m / 1000000)), .int .i64 0]) (by simp [results, Try.results16, go_sem]) rfl ?_
    exact ⟨by rw [t3.out], B0.out⟩
  · rw [show min (m / 1000000) r = m / 1000000 by omega]
    go_enter Try.func16, Try.ntmps16
    go_wp2_with fail
    refine bodyPost_ret (v := .tuple #[.int .i64 (m / 1000000), .int .i64 (m - 1000000 * (m / 1000000)), .int .i64 0]) (by simp [results, Try.results16, go_sem]) rfl ?_
    exact ⟨by rw [t3.out], B0.out⟩
theorem Pay_no (m r : Int) (w : World) (h : ¬ ((0 ≤ m ∧ m ≤ 4000000000000000000) ∧ 0 ≤ r ∧ r ≤ 20000000000000)) : Calls Try.prog 15 #[.int .i64 m, .int .i64 r] w fun e w' => e = .returned (.tuple #[.int .i64 0, .int .i64 0, .int .i64 1]) ∧ Below w.heap.size w w' := by
  have B0 := (show Hid _ from Below.refl w.heap.size w)
  by_cases hm : 0 ≤ m ∧ m ≤ 4000000000000000000
  · have hr : ¬ (0 ≤ r ∧ r ≤ 20000000000000) := fun hr => h ⟨hm, hr⟩
    have dm : decide (0 ≤ m ∧ m ≤ 4000000000000000000) = true := decide_eq_true hm
    have dr : decide (0 ≤ r ∧ r ≤ 20000000000000) = false := decide_eq_false hr
    clear h hm hr
    go_enter Try.func15, Try.ntmps15
    go_wp2_with fail
    refine (upTo_ok m 4000000000000000000 _).mono ?_
    rintro e w1 ⟨rfl, hw⟩
    obtain rfl := hw.symm
    rw [dm]
    go_wp2_with fail
    refine (upTo_ok r 20000000000000 _).mono ?_
    rintro e w1 ⟨rfl, hw⟩
    obtain rfl := hw.symm
    rw [dr]
    clear dm dr
    go_wp2_with fail
    refine bodyPost_ret (v := .tuple #[.int .i64 0, .int .i64 0, .int .i64 1]) (by simp [results, Try.results15, go_sem]) rfl ?_
    exact ⟨rfl, B0.out⟩
  · have dm : decide (0 ≤ m ∧ m ≤ 4000000000000000000) = false := decide_eq_false hm
    clear h hm
    go_enter Try.func15, Try.ntmps15
    go_wp2_with fail
    refine (upTo_ok m 4000000000000000000 _).mono ?_
    rintro e w1 ⟨rfl, hw⟩
    obtain rfl := hw.symm
    rw [dm]
    clear dm
    go_wp2_with fail
    refine bodyPost_ret (v := .tuple #[.int .i64 0, .int .i64 0, .int .i64 1]) (by simp [results, Try.results15, go_sem]) rfl ?_
    exact ⟨rfl, B0.out⟩
theorem DocPay_no (m r : Int) (w : World) (h : ¬ ((0 ≤ m ∧ m ≤ 4000000000000000000) ∧ 0 ≤ r ∧ r ≤ 20000000000000)) : Calls Try.prog 16 #[.int .i64 m, .int .i64 r] w fun e w' => e = .returned (.tuple #[.int .i64 0, .int .i64 0, .int .i64 1]) ∧ Below w.heap.size w w' := by
  have B0 := (show Hid _ from Below.refl w.heap.size w)
  by_cases h1 : m < 0
  · have lm : decide (m < 0) = true := decide_eq_true (by omega)
    clear h h1
    go_enter Try.func16, Try.ntmps16
    go_wp2_with fail
    refine bodyPost_ret (v := .tuple #[.int .i64 0, .int .i64 0, .int .i64 1]) (by simp [results, Try.results16, go_sem]) rfl ?_
    exact ⟨rfl, B0.out⟩
  by_cases h2 : 4000000000000000000 < m
  · have lm : decide (m < 0) = false := decide_eq_false (by omega)
    have gm : decide (4000000000000000000 < m) = true := decide_eq_true (by omega)
    clear h h1 h2
    go_enter Try.func16, Try.ntmps16
    go_wp2_with fail
    refine bodyPost_ret (v := .tuple #[.int .i64 0, .int .i64 0, .int .i64 1]) (by simp [results, Try.results16, go_sem]) rfl ?_
    exact ⟨rfl, B0.out⟩
  by_cases h3 : r < 0
  · have lm : decide (m < 0) = false := decide_eq_false (by omega)
    have gm : decide (4000000000000000000 < m) = false := decide_eq_false (by omega)
    have lr : decide (r < 0) = true := decide_eq_true (by omega)
    clear h h1 h2 h3
    go_enter Try.func16, Try.ntmps16
    go_wp2_with fail
    refine bodyPost_ret (v := .tuple #[.int .i64 0, .int .i64 0, .int .i64 1]) (by simp [results, Try.results16, go_sem]) rfl ?_
    exact ⟨rfl, B0.out⟩
  have h4 : 20000000000000 < r := by omega
  have lm : decide (m < 0) = false := decide_eq_false (by omega)
  have gm : decide (4000000000000000000 < m) = false := decide_eq_false (by omega)
  have lr : decide (r < 0) = false := decide_eq_false (by omega)
  have gr : decide (20000000000000 < r) = true := decide_eq_true (by omega)
  clear h h1 h2 h3 h4
  go_enter Try.func16, Try.ntmps16
  go_wp2_with fail
  refine bodyPost_ret (v := .tuple #[.int .i64 0, .int .i64 0, .int .i64 1]) (by simp [results, Try.results16, go_sem]) rfl ?_
  exact ⟨rfl, B0.out⟩
theorem Fee_ok (b h f : Int) (w : World) (hb : 0 ≤ b ∧ b ≤ 10000000000000) (hh : 0 ≤ h ∧ h ≤ 20000000000000) (hf : 0 ≤ f ∧ f ≤ 10000000000000) : Calls Try.prog 17 #[.int .i64 b, .int .i64 h, .int .i64 f] w fun e w' => e = .returned (.tuple #[.int .i64 (max 0 (min f (b - h))), .int .i64 0]) ∧ Below w.heap.size w w' := by
  have B0 := (show Hid _ from Below.refl w.heap.size w)
  have db : decide (0 ≤ b ∧ b ≤ 10000000000000) = true := decide_eq_true hb
  have dh : decide (0 ≤ h ∧ h ≤ 20000000000000) = true := decide_eq_true hh
  have df : decide (0 ≤ f ∧ f ≤ 10000000000000) = true := decide_eq_true hf
  obtain ⟨b1, b2⟩ := hb
  obtain ⟨h1, h2⟩ := hh
  obtain ⟨f1, f2⟩ := hf
  by_cases c1 : b - h < f
  · by_cases c2 : 0 < b - h
    · rw [show max 0 (min f (b - h)) = b - h by omega]
      go_enter Try.func17, Try.ntmps17
      go_wp2_with fail
      refine (upTo_ok b 10000000000000 _).mono ?_
      rintro e w1 ⟨rfl, hw⟩
      obtain rfl := hw.symm
      rw [db]
      go_wp2_with fail
      refine (upTo_ok h 20000000000000 _).mono ?_
      rintro e w1 ⟨rfl, hw⟩
      obtain rfl := hw.symm
      rw [dh]
      go_wp2_with fail
      refine (upTo_ok f 10000000000000 _).mono ?_
      rintro e w1 ⟨rfl, hw⟩
      obtain rfl := hw.symm
      rw [df]
      clear db dh df
      go_wp2_with fail
      refine bodyPost_ret (v := .tuple #[.int .i64 (b - h), .int .i64 0]) (by simp [results, Try.results17, go_sem]) rfl ?_
      exact ⟨rfl, B0.out⟩
    · rw [show max 0 (min f (b - h)) = 0 by omega]
      go_enter Try.func17, Try.ntmps17
      go_wp2_with fail
      refine (upTo_ok b 10000000000000 _).mono ?_
      rintro e w1 ⟨rfl, hw⟩
      obtain rfl := hw.symm
      rw [db]
      go_wp2_with fail
      refine (upTo_ok h 20000000000000 _).mono ?_
      rintro e w1 ⟨rfl, hw⟩
      obtain rfl := hw.symm
      rw [dh]
      go_wp2_with fail
      refine (upTo_ok f 10000000000000 _).mono ?_
      rintro e w1 ⟨rfl, hw⟩
      obtain rfl := hw.symm
      rw [df]
      clear db dh df
      go_wp2_with fail
      refine bodyPost_ret (v := .tuple #[.int .i64 (0), .int .i64 0]) (by simp [results, Try.results17, go_sem]) rfl ?_
      exact ⟨rfl, B0.out⟩
  · by_cases c2 : 0 < f
    · rw [show max 0 (min f (b - h)) = f by omega]
      go_enter Try.func17, Try.ntmps17
      go_wp2_with fail
      refine (upTo_ok b 10000000000000 _).mono ?_
      rintro e w1 ⟨rfl, hw⟩
      obtain rfl := hw.symm
      rw [db]
      go_wp2_with fail
      refine (upTo_ok h 20000000000000 _).mono ?_
      rintro e w1 ⟨rfl, hw⟩
      obtain rfl := hw.symm
      rw [dh]
      go_wp2_with fail
      refine (upTo_ok f 10000000000000 _).mono ?_
      rintro e w1 ⟨rfl, hw⟩
      obtain rfl := hw.symm
      rw [df]
      clear db dh df
      go_wp2_with fail
      refine bodyPost_ret (v := .tuple #[.int .i64 (f), .int .i64 0]) (by simp [results, Try.results17, go_sem]) rfl ?_
      exact ⟨rfl, B0.out⟩
    · have c5 : Hid (f = 0) := (by omega : f = 0)
      rw [show max 0 (min f (b - h)) = 0 by omega]
      go_enter Try.func17, Try.ntmps17
      go_wp2_with fail
      refine (upTo_ok b 10000000000000 _).mono ?_
      rintro e w1 ⟨rfl, hw⟩
      obtain rfl := hw.symm
      rw [db]
      go_wp2_with fail
      refine (upTo_ok h 20000000000000 _).mono ?_
      rintro e w1 ⟨rfl, hw⟩
      obtain rfl := hw.symm
      rw [dh]
      go_wp2_with fail
      refine (upTo_ok f 10000000000000 _).mono ?_
      rintro e w1 ⟨rfl, hw⟩
      obtain rfl := hw.symm
      rw [df]
      clear db dh df
      go_wp2_with fail
      refine bodyPost_ret (v := .tuple #[.int .i64 (0), .int .i64 0]) (by simp [results, Try.results17, go_sem]) rfl ?_
      exact ⟨rfl, B0.out⟩
theorem DocFee_ok (b h f : Int) (w : World) (hb : 0 ≤ b ∧ b ≤ 10000000000000) (hh : 0 ≤ h ∧ h ≤ 20000000000000) (hf : 0 ≤ f ∧ f ≤ 10000000000000) : Calls Try.prog 18 #[.int .i64 b, .int .i64 h, .int .i64 f] w fun e w' => e = .returned (.tuple #[.int .i64 (max 0 (min f (b - h))), .int .i64 0]) ∧ Below w.heap.size w w' := by
  have B0 := (show Hid _ from Below.refl w.heap.size w)
  have db : decide (0 ≤ b ∧ b ≤ 10000000000000) = true := decide_eq_true hb
  have df : decide (0 ≤ f ∧ f ≤ 10000000000000) = true := decide_eq_true hf
  obtain ⟨b1, b2⟩ := hb
  obtain ⟨h1, h2⟩ := hh
  obtain ⟨f1, f2⟩ := hf
  have lh : decide (h < 0) = false := decide_eq_false (by omega)
  have gh : decide (20000000000000 < h) = false := decide_eq_false (by omega)
  by_cases c1 : f < b - h
  · have c3 : decide (f < 0) = false := decide_eq_false (by omega)
    rw [show max 0 (min f (b - h)) = f by omega]
    go_enter Try.func18, Try.ntmps18
    go_wp2_with fail
    refine (amount_ok b _).mono ?_
    rintro e w1 ⟨rfl, hw⟩
    obtain rfl := hw.symm
    rw [db]
    go_wp2_with fail
    refine (amount_ok f _).mono ?_
    rintro e w1 ⟨rfl, hw⟩
    obtain rfl := hw.symm
    rw [df]
    clear db df
    go_wp2_with fail
    refine bodyPost_ret (v := .tuple #[.int .i64 (f), .int .i64 0]) (by simp [results, Try.results18, go_sem]) rfl ?_
    exact ⟨rfl, B0.out⟩
  · by_cases c2 : b - h < 0
    · rw [show max 0 (min f (b - h)) = 0 by omega]
      go_enter Try.func18, Try.ntmps18
      go_wp2_with fail
      refine (amount_ok b _).mono ?_
      rintro e w1 ⟨rfl, hw⟩
      obtain rfl := hw.symm
      rw [db]
      go_wp2_with fail
      refine (amount_ok f _).mono ?_
      rintro e w1 ⟨rfl, hw⟩
      obtain rfl := hw.symm
      rw [df]
      clear db df
      go_wp2_with fail
      refine bodyPost_ret (v := .tuple #[.int .i64 (0), .int .i64 0]) (by simp [results, Try.results18, go_sem]) rfl ?_
      exact ⟨rfl, B0.out⟩
    · rw [show max 0 (min f (b - h)) = b - h by omega]
      go_enter Try.func18, Try.ntmps18
      go_wp2_with fail
      refine (amount_ok b _).mono ?_
      rintro e w1 ⟨rfl, hw⟩
      obtain rfl := hw.symm
      rw [db]
      go_wp2_with fail
      refine (amount_ok f _).mono ?_
      rintro e w1 ⟨rfl, hw⟩
      obtain rfl := hw.symm
      rw [df]
      clear db df
      go_wp2_with fail
      refine bodyPost_ret (v := .tuple #[.int .i64 (b - h), .int .i64 0]) (by simp [results, Try.results18, go_sem]) rfl ?_
      exact ⟨rfl, B0.out⟩
theorem Fee_no (b h f : Int) (w : World) (h0 : ¬ ((0 ≤ b ∧ b ≤ 10000000000000) ∧ (0 ≤ h ∧ h ≤ 20000000000000) ∧ 0 ≤ f ∧ f ≤ 10000000000000)) : Calls Try.prog 17 #[.int .i64 b, .int .i64 h, .int .i64 f] w fun e w' => e = .returned (.tuple #[.int .i64 0, .int .i64 1]) ∧ Below w.heap.size w w' := by
  have B0 := (show Hid _ from Below.refl w.heap.size w)
  by_cases hb : 0 ≤ b ∧ b ≤ 10000000000000
  · by_cases hh : 0 ≤ h ∧ h ≤ 20000000000000
    · have hf : ¬ (0 ≤ f ∧ f ≤ 10000000000000) := fun hf => h0 ⟨hb, hh, hf⟩
      have db : decide (0 ≤ b ∧ b ≤ 10000000000000) = true := decide_eq_true hb
      have dh : decide (0 ≤ h ∧ h ≤ 20000000000000) = true := decide_eq_true hh
      have df : decide (0 ≤ f ∧ f ≤ 10000000000000) = false := decide_eq_false hf
      clear h0 hb hh hf
      go_enter Try.func17, Try.ntmps17
      go_wp2_with fail
      refine (upTo_ok b 10000000000000 _).mono ?_
      rintro e w1 ⟨rfl, hw⟩
      obtain rfl := hw.symm
      rw [db]
      go_wp2_with fail
      refine (upTo_ok h 20000000000000 _).mono ?_
      rintro e w1 ⟨rfl, hw⟩
      obtain rfl := hw.symm
      rw [dh]
      go_wp2_with fail
      refine (upTo_ok f 10000000000000 _).mono ?_
      rintro e w1 ⟨rfl, hw⟩
      obtain rfl := hw.symm
      rw [df]
      clear db dh df
      go_wp2_with fail
      refine bodyPost_ret (v := .tuple #[.int .i64 0, .int .i64 1]) (by simp [results, Try.results17, go_sem]) rfl ?_
      exact ⟨rfl, B0.out⟩
    · have db : decide (0 ≤ b ∧ b ≤ 10000000000000) = true := decide_eq_true hb
      have dh : decide (0 ≤ h ∧ h ≤ 20000000000000) = false := decide_eq_false hh
      clear h0 hb hh
      go_enter Try.func17, Try.ntmps17
      go_wp2_with fail
      refine (upTo_ok b 10000000000000 _).mono ?_
      rintro e w1 ⟨rfl, hw⟩
      obtain rfl := hw.symm
      rw [db]
      go_wp2_with fail
      refine (upTo_ok h 20000000000000 _).mono ?_
      rintro e w1 ⟨rfl, hw⟩
      obtain rfl := hw.symm
      rw [dh]
      clear db dh
      go_wp2_with fail
      refine bodyPost_ret (v := .tuple #[.int .i64 0, .int .i64 1]) (by simp [results, Try.results17, go_sem]) rfl ?_
      exact ⟨rfl, B0.out⟩
  · have db : decide (0 ≤ b ∧ b ≤ 10000000000000) = false := decide_eq_false hb
    clear h0 hb
    go_enter Try.func17, Try.ntmps17
    go_wp2_with fail
    refine (upTo_ok b 10000000000000 _).mono ?_
    rintro e w1 ⟨rfl, hw⟩
    obtain rfl := hw.symm
    rw [db]
    clear db
    go_wp2_with fail
    refine bodyPost_ret (v := .tuple #[.int .i64 0, .int .i64 1]) (by simp [results, Try.results17, go_sem]) rfl ?_
    exact ⟨rfl, B0.out⟩
theorem DocFee_no (b h f : Int) (w : World) (h0 : ¬ ((0 ≤ b ∧ b ≤ 10000000000000) ∧ (0 ≤ h ∧ h ≤ 20000000000000) ∧ 0 ≤ f ∧ f ≤ 10000000000000)) : Calls Try.prog 18 #[.int .i64 b, .int .i64 h, .int .i64 f] w fun e w' => e = .returned (.tuple #[.int .i64 0, .int .i64 1]) ∧ Below w.heap.size w w' := by
  have B0 := (show Hid _ from Below.refl w.heap.size w)
  by_cases hb : 0 ≤ b ∧ b ≤ 10000000000000
  · have db : decide (0 ≤ b ∧ b ≤ 10000000000000) = true := decide_eq_true hb
    by_cases k1 : h < 0
    · have lh : decide (h < 0) = true := decide_eq_true (by omega)
      clear h0 hb k1
      go_enter Try.func18, Try.ntmps18
      go_wp2_with fail
      refine (amount_ok b _).mono ?_
      rintro e w1 ⟨rfl, hw⟩
      obtain rfl := hw.symm
      rw [db]
      clear db
      go_wp2_with fail
      refine bodyPost_ret (v := .tuple #[.int .i64 0, .int .i64 1]) (by simp [results, Try.results18, go_sem]) rfl ?_
      exact ⟨rfl, B0.out⟩
    by_cases k2 : 20000000000000 < h
    · have lh : decide (h < 0) = false := decide_eq_false (by omega)
      have gh : decide (20000000000000 < h) = true := decide_eq_true (by omega)
      clear h0 hb k1 k2
      go_enter Try.func18, Try.ntmps18
      go_wp2_with fail
      refine (amount_ok b _).mono ?_
      rintro e w1 ⟨rfl, hw⟩
      obtain rfl := hw.symm
      rw [db]
      clear db
      go_wp2_with fail
      refine bodyPost_ret (v := .tuple #[.int .i64 0, .int .i64 1]) (by simp [results, Try.results18, go_sem]) rfl ?_
      exact ⟨rfl, B0.out⟩
    have hf : ¬ (0 ≤ f ∧ f ≤ 10000000000000) := fun hf => h0 ⟨hb, by omega, hf⟩
    have df : decide (0 ≤ f ∧ f ≤ 10000000000000) = false := decide_eq_false hf
    have lh : decide (h < 0) = false := decide_eq_false (by omega)
    have gh : decide (20000000000000 < h) = false := decide_eq_false (by omega)
    clear h0 hb k1 k2 hf
    go_enter Try.func18, Try.ntmps18
    go_wp2_with fail
    refine (amount_ok b _).mono ?_
    rintro e w1 ⟨rfl, hw⟩
    obtain rfl := hw.symm
    rw [db]
    go_wp2_with fail
    refine (amount_ok f _).mono ?_
    rintro e w1 ⟨rfl, hw⟩
    obtain rfl := hw.symm
    rw [df]
    clear db df
    go_wp2_with fail
    refine bodyPost_ret (v := .tuple #[.int .i64 0, .int .i64 1]) (by simp [results, Try.results18, go_sem]) rfl ?_
    exact ⟨rfl, B0.out⟩
  · have db : decide (0 ≤ b ∧ b ≤ 10000000000000) = false := decide_eq_false hb
    clear h0 hb
    go_enter Try.func18, Try.ntmps18
    go_wp2_with fail
    refine (amount_ok b _).mono ?_
    rintro e w1 ⟨rfl, hw⟩
    obtain rfl := hw.symm
    rw [db]
    clear db
    go_wp2_with fail
    refine bodyPost_ret (v := .tuple #[.int .i64 0, .int .i64 1]) (by simp [results, Try.results18, go_sem]) rfl ?_
    exact ⟨rfl, B0.out⟩
set_option maxRecDepth 100000 in
theorem pays_walk (m r b h f : Int) (w : World) : Calls Try.prog 4 #[.int .i64 m, .int .i64 r, .int .i64 b, .int .i64 h, .int .i64 f] w fun e w' => e = .returned (.bool true) ∧ Below w.heap.size w w' := by
  obtain ⟨a0, a1, a2, hA, hD⟩ : ∃ x0 x1 x2 : Int, (∀ w, Calls Try.prog 15 #[.int .i64 m, .int .i64 r] w fun e w' => e = .returned (.tuple #[.int .i64 x0, .int .i64 x1, .int .i64 x2]) ∧ Below w.heap.size w w') ∧ (∀ w, Calls Try.prog 16 #[.int .i64 m, .int .i64 r] w fun e w' => e = .returned (.tuple #[.int .i64 x0, .int .i64 x1, .int .i64 x2]) ∧ Below w.heap.size w w') := by
    by_cases hh : (0 ≤ m ∧ m ≤ 4000000000000000000) ∧ 0 ≤ r ∧ r ≤ 20000000000000
    · exact ⟨_, _, _, fun w => Pay_ok m r w hh.1 hh.2, fun w => DocPay_ok m r w hh.1 hh.2⟩
    · exact ⟨_, _, _, fun w => Pay_no m r w hh, fun w => DocPay_no m r w hh⟩
  obtain ⟨c0, c1, hF, hE⟩ : ∃ x0 x1 : Int, (∀ w, Calls Try.prog 17 #[.int .i64 b, .int .i64 h, .int .i64 f] w fun e w' => e = .returned (.tuple #[.int .i64 x0, .int .i64 x1]) ∧ Below w.heap.size w w') ∧ (∀ w, Calls Try.prog 18 #[.int .i64 b, .int .i64 h, .int .i64 f] w fun e w' => e = .returned (.tuple #[.int .i64 x0, .int .i64 x1]) ∧ Below w.heap.size w w') := by
    by_cases hh : (0 ≤ b ∧ b ≤ 10000000000000) ∧ (0 ≤ h ∧ h ≤ 20000000000000) ∧ 0 ≤ f ∧ f ≤ 10000000000000
    · exact ⟨_, _, fun w => Fee_ok b h f w hh.1 hh.2.1 hh.2.2, fun w => DocFee_ok b h f w hh.1 hh.2.1 hh.2.2⟩
    · exact ⟨_, _, fun w => Fee_no b h f w hh, fun w => DocFee_no b h f w hh⟩
  have HA := (show Hid _ from hA)
  have HD := (show Hid _ from hD)
  have HF := (show Hid _ from hF)
  have HE := (show Hid _ from hE)
  have B0 := (show Hid _ from Below.refl w.heap.size w)
  clear hA hD hF hE
  go_enter Try.func4, Try.ntmps4
  go_wp2_with fail
  refine (HA.out _).mono ?_
  rintro e w1 ⟨rfl, b1⟩
  have B1 := (show Hid _ from B0.out.trans (b1.mono B0.out.size))
  clear b1 B0
  go_wp2_with fail
  refine (HD.out _).mono ?_
  rintro e w2 ⟨rfl, b2⟩
  have B2 := (show Hid _ from B1.out.trans (b2.mono B1.out.size))
  clear b2 B1
  go_wp2_with fail
  refine (HF.out _).mono ?_
  rintro e w3 ⟨rfl, b3⟩
  have B3 := (show Hid _ from B2.out.trans (b3.mono B2.out.size))
  clear b3 B2
  go_wp2_with fail
  refine (HE.out _).mono ?_
  rintro e w4 ⟨rfl, b4⟩
  have B4 := (show Hid _ from B3.out.trans (b4.mono B3.out.size))
  clear b4 B3
  go_wp2_with fail
  refine (awake_ok _).mono ?_
  rintro e w5 ⟨rfl, b5⟩
  have B5 := (show Hid _ from B4.out.trans (b5.mono B4.out.size))
  clear b5 B4
  go_wp2_with fail
  go_ret
  exact ⟨rfl, B5.out⟩
end Go.Proofs.Ytmaikgebdegkgaa
