/- money: the contracts of checkBoth, Add, Sub, Cmp, and of the document's Form, DocTwo, DocCmp, DocDigits. -/
import Derived.Test.YtbgglghapjfdeaaDoorBa
namespace Go.Proofs.YtbgglghapjfdeaaDoor
open Go.RowKit
set_option linter.unusedVariables false

theorem chk_yes (c n : Int) (w : World) (h : mform c n = true) : Calls Tryd.prog 28 #[.agg (mcl c n).toArray] w fun e w' => e = .returned (.int .i64 0) ∧ Below w.heap.size w w' := by
  have := mcheck_ok c n w
  rw [if_pos h] at this
  exact this
theorem chk_no (c n : Int) (w : World) (h : mform c n = false) : Calls Tryd.prog 28 #[.agg (mcl c n).toArray] w fun e w' => e = .returned (.int .i64 3) ∧ Below w.heap.size w w' := by
  have := mcheck_ok c n w
  rw [if_neg (by rw [h]; decide)] at this
  exact this
theorem rcur_ok (n : Int) (w : World) : Calls Tryd.prog 34 #[.int .i64 n] w fun e w' => e = .returned (.bool (wi n (0) 3)) ∧ w' = w := by
  unfold wi
  by_cases h1 : 0 ≤ n
  · by_cases h2 : n < 4
    · rw [show decide (0 ≤ n ∧ n ≤ 3) = true by simp; omega]
      go_enter Tryd.func34, Tryd.ntmps34
      go_wp2_with fail
      go_ret
      exact ⟨rfl, rfl⟩
    · rw [show decide (0 ≤ n ∧ n ≤ 3) = false by simp; omega]
      go_enter Tryd.func34, Tryd.ntmps34
      go_wp2_with fail
      go_ret
      exact ⟨rfl, rfl⟩
  · rw [show decide (0 ≤ n ∧ n ≤ 3) = false by simp; omega]
    go_enter Tryd.func34, Tryd.ntmps34
    go_wp2_with fail
    go_ret
    exact ⟨rfl, rfl⟩
theorem ramount_ok (n : Int) (w : World) : Calls Tryd.prog 35 #[.int .i64 n] w fun e w' => e = .returned (.bool (wi n (-10000000000000) 10000000000000)) ∧ w' = w := by
  unfold wi
  by_cases h1 : -10000000000000 ≤ n
  · by_cases h2 : n ≤ 10000000000000
    · rw [show decide (-10000000000000 ≤ n ∧ n ≤ 10000000000000) = true by simp; omega]
      go_enter Tryd.func35, Tryd.ntmps35
      go_wp2_with fail
      go_ret
      exact ⟨rfl, rfl⟩
    · rw [show decide (-10000000000000 ≤ n ∧ n ≤ 10000000000000) = false by simp; omega]
      go_enter Tryd.func35, Tryd.ntmps35
      go_wp2_with fail
      go_ret
      exact ⟨rfl, rfl⟩
  · rw [show decide (-10000000000000 ≤ n ∧ n ≤ 10000000000000) = false by simp; omega]
    go_enter Tryd.func35, Tryd.ntmps35
    go_wp2_with fail
    go_ret
    exact ⟨rfl, rfl⟩
theorem rform_ok (c n : Int) (w : World) : Calls Tryd.prog 18 #[.agg (mcl c n).toArray] w fun e w' => e = .returned (.bool (mform c n)) ∧ Below w.heap.size w w' := by
  have B0 := (show Hid _ from (Below.refl w.heap.size w).alloc (Nat.le_refl _) (.cells #[.int .i64 c, .int .i64 n] 23))
  unfold mform mcl
  by_cases h1 : wi c 0 3 = true
  · rw [h1, Bool.true_and]
    go_enter Tryd.func18, Tryd.ntmps18
    go_wp2_with fail
    refine (rcur_ok c _).mono ?_
    rintro e w1 ⟨rfl, hq⟩
    obtain rfl := hq.symm
    rw [h1]
    go_wp2_with fail
    refine (ramount_ok n _).mono ?_
    rintro e w1 ⟨rfl, hq⟩
    obtain rfl := hq.symm
    go_wp2_with fail
    go_ret
    exact ⟨rfl, B0.out⟩
  · replace h1 : wi c 0 3 = false := by simpa using h1
    rw [h1, Bool.false_and]
    go_enter Tryd.func18, Tryd.ntmps18
    go_wp2_with fail
    refine (rcur_ok c _).mono ?_
    rintro e w1 ⟨rfl, hq⟩
    obtain rfl := hq.symm
    rw [h1]
    go_wp2_with fail
    go_ret
    exact ⟨rfl, B0.out⟩
/-- what checkBoth answers -/
def cbe (ca na cb nb : Int) : Int := if mform ca na && mform cb nb then (if ca = cb then 0 else 10) else 3
theorem mf_parts {c n : Int} (h : mform c n = true) : (0 ≤ c ∧ c ≤ 3) ∧ -10000000000000 ≤ n ∧ n ≤ 10000000000000 := by
  unfold mform at h
  rw [Bool.and_eq_true] at h
  exact ⟨of_decide_eq_true h.1, of_decide_eq_true h.2⟩
theorem isnan_ok (n : Int) (w : World) : Calls Tryd.prog 30 #[.int .i64 n] w fun e w' => e = .returned (.bool false) ∧ w' = w := by
  have h : (n != n) = false := by simp
  go_enter Tryd.func30, Tryd.ntmps30
  go_wp2_with fail
  go_ret
  exact ⟨rfl, rfl⟩
/-- the order of two numbers -/
def ord (a b : Int) : Int := if a < b then -1 else if b < a then 1 else 0
theorem cmp64_ok (a b : Int) (w : World) : Calls Tryd.prog 16 #[.int .i64 a, .int .i64 b] w fun e w' => e = .returned (.int .i64 (ord a b)) ∧ w' = w := by
  by_cases h1 : a < b
  · have e : ord a b = -1 := by unfold ord; rw [if_pos h1]
    rw [e]
    have d1 : decide (a < b) = true := decide_eq_true h1
    clear h1 e
    go_enter Tryd.func16, Tryd.ntmps16
    go_wp2_with fail
    refine (isnan_ok a _).mono ?_
    rintro e w1 ⟨rfl, hq⟩
    obtain rfl := hq.symm
    go_wp2_with fail
    refine (isnan_ok b _).mono ?_
    rintro e w1 ⟨rfl, hq⟩
    obtain rfl := hq.symm
    go_wp2_with fail
    go_ret
    exact ⟨rfl, rfl⟩
  · have d1 : decide (a < b) = false := decide_eq_false h1
    by_cases h2 : b < a
    · have e : ord a b = 1 := by unfold ord; rw [if_neg h1, if_pos h2]
      rw [e]
      have d2 : decide (b < a) = true := decide_eq_true h2
      clear h1 h2 e
      go_enter Tryd.func16, Tryd.ntmps16
      go_wp2_with fail
      refine (isnan_ok a _).mono ?_
      rintro e w1 ⟨rfl, hq⟩
      obtain rfl := hq.symm
      go_wp2_with fail
      refine (isnan_ok b _).mono ?_
      rintro e w1 ⟨rfl, hq⟩
      obtain rfl := hq.symm
      go_wp2_with fail
      go_ret
      exact ⟨rfl, rfl⟩
    · have e : ord a b = 0 := by unfold ord; rw [if_neg h1, if_neg h2]
      rw [e]
      have d2 : decide (b < a) = false := decide_eq_false h2
      clear h1 h2 e
      go_enter Tryd.func16, Tryd.ntmps16
      go_wp2_with fail
      refine (isnan_ok a _).mono ?_
      rintro e w1 ⟨rfl, hq⟩
      obtain rfl := hq.symm
      go_wp2_with fail
      refine (isnan_ok b _).mono ?_
      rintro e w1 ⟨rfl, hq⟩
      obtain rfl := hq.symm
      go_wp2_with fail
      go_ret
      exact ⟨rfl, rfl⟩
end Go.Proofs.YtbgglghapjfdeaaDoor
