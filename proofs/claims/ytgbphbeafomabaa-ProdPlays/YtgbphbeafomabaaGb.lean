/- prod: a version's numbers; tiers: the program's checks and the document's. -/
import Derived.Test.YtgbphbeafomabaaGt
namespace Go.Proofs.Ytgbphbeafomabaa
open Go.RowKit
set_option linter.unusedVariables false

def wi (n l g : Int) : Bool := decide (l ≤ n ∧ n ≤ g)
theorem within64_ok (n l g : Int) (w : World) : Calls Try.prog 26 #[.int .i64 n, .int .i64 l, .int .i64 g] w fun e w' => e = .returned (.bool (wi n l g)) ∧ w' = w := by
  unfold wi
  by_cases h1 : l ≤ n
  · by_cases h2 : n ≤ g
    · rw [show decide (l ≤ n ∧ n ≤ g) = true by simp; omega]
      go_enter Try.func26, Try.ntmps26
      go_wp2_with fail
      go_ret
      exact ⟨rfl, rfl⟩
    · rw [show decide (l ≤ n ∧ n ≤ g) = false by simp; omega]
      go_enter Try.func26, Try.ntmps26
      go_wp2_with fail
      go_ret
      exact ⟨rfl, rfl⟩
  · rw [show decide (l ≤ n ∧ n ≤ g) = false by simp; omega]
    go_enter Try.func26, Try.ntmps26
    go_wp2_with fail
    go_ret
    exact ⟨rfl, rfl⟩
theorem within_ok (n l g : Int) (w : World) : Calls Try.prog 31 #[.int .i64 n, .int .i64 l, .int .i64 g] w fun e w' => e = .returned (.bool (wi n l g)) ∧ w' = w := by
  unfold wi
  by_cases h1 : l ≤ n
  · by_cases h2 : n ≤ g
    · rw [show decide (l ≤ n ∧ n ≤ g) = true by simp; omega]
      go_enter Try.func31, Try.ntmps31
      go_wp2_with fail
      go_ret
      exact ⟨rfl, rfl⟩
    · rw [show decide (l ≤ n ∧ n ≤ g) = false by simp; omega]
      go_enter Try.func31, Try.ntmps31
      go_wp2_with fail
      go_ret
      exact ⟨rfl, rfl⟩
  · rw [show decide (l ≤ n ∧ n ≤ g) = false by simp; omega]
    go_enter Try.func31, Try.ntmps31
    go_wp2_with fail
    go_ret
    exact ⟨rfl, rfl⟩
theorem isday_ok (n : Int) (w : World) : Calls Try.prog 29 #[.int .i64 n] w fun e w' => e = .returned (.bool (wi n 1 3652059)) ∧ w' = w := by
  go_enter Try.func29, Try.ntmps29
  go_wp2_with fail
  refine (within_ok n 1 3652059 _).mono ?_
  rintro e w' ⟨rfl, rfl⟩
  go_wp2_with fail
  go_ret
  exact ⟨rfl, rfl⟩
theorem mcur_ok (n : Int) (w : World) : Calls Try.prog 35 #[.int .i64 n] w fun e w' => e = .returned (.bool (wi n 0 3)) ∧ w' = w := by
  unfold wi
  by_cases h1 : 0 ≤ n
  · by_cases h2 : n < 4
    · rw [show decide (0 ≤ n ∧ n ≤ 3) = true by simp; omega]
      go_enter Try.func35, Try.ntmps35
      go_wp2_with fail
      go_ret
      exact ⟨rfl, rfl⟩
    · rw [show decide (0 ≤ n ∧ n ≤ 3) = false by simp; omega]
      go_enter Try.func35, Try.ntmps35
      go_wp2_with fail
      go_ret
      exact ⟨rfl, rfl⟩
  · rw [show decide (0 ≤ n ∧ n ≤ 3) = false by simp; omega]
    go_enter Try.func35, Try.ntmps35
    go_wp2_with fail
    go_ret
    exact ⟨rfl, rfl⟩
theorem rcur_ok (n : Int) (w : World) : Calls Try.prog 24 #[.int .i64 n] w fun e w' => e = .returned (.bool (wi n 0 3)) ∧ w' = w := by
  unfold wi
  by_cases h1 : 0 ≤ n
  · by_cases h2 : n < 4
    · rw [show decide (0 ≤ n ∧ n ≤ 3) = true by simp; omega]
      go_enter Try.func24, Try.ntmps24
      go_wp2_with fail
      go_ret
      exact ⟨rfl, rfl⟩
    · rw [show decide (0 ≤ n ∧ n ≤ 3) = false by simp; omega]
      go_enter Try.func24, Try.ntmps24
      go_wp2_with fail
      go_ret
      exact ⟨rfl, rfl⟩
  · rw [show decide (0 ≤ n ∧ n ≤ 3) = false by simp; omega]
    go_enter Try.func24, Try.ntmps24
    go_wp2_with fail
    go_ret
    exact ⟨rfl, rfl⟩
theorem ris_ok (n : Int) (w : World) : Calls Try.prog 25 #[.int .i64 n] w fun e w' => e = .returned (.bool (wi n 1 3652059)) ∧ w' = w := by
  unfold wi
  by_cases h1 : 1 ≤ n
  · by_cases h2 : n ≤ 3652059
    · rw [show decide (1 ≤ n ∧ n ≤ 3652059) = true by simp; omega]
      go_enter Try.func25, Try.ntmps25
      go_wp2_with fail
      go_ret
      exact ⟨rfl, rfl⟩
    · rw [show decide (1 ≤ n ∧ n ≤ 3652059) = false by simp; omega]
      go_enter Try.func25, Try.ntmps25
      go_wp2_with fail
      go_ret
      exact ⟨rfl, rfl⟩
  · rw [show decide (1 ≤ n ∧ n ≤ 3652059) = false by simp; omega]
    go_enter Try.func25, Try.ntmps25
    go_wp2_with fail
    go_ret
    exact ⟨rfl, rfl⟩
theorem mrange0_ok (w : World) : Calls Try.prog 36 #[.int .i64 0] w fun e w' => e = .returned (.bool true) ∧ w' = w := by
  go_enter Try.func36, Try.ntmps36
  go_wp2_with fail
  go_ret
  exact ⟨rfl, rfl⟩
/-- money.Check of no money of a currency -/
theorem mcheck_ok (n : Int) (w : World) : Calls Try.prog 32 #[.agg #[.int .i64 n, .int .i64 0]] w fun e w' => e = .returned (.int .i64 (if wi n 0 3 = true then 0 else 3)) ∧ Below w.heap.size w w' := by
  have D := (Below.refl w.heap.size w).alloc (Nat.le_refl _) (.cells #[.int .i64 n, .int .i64 0] 74)
  have HD := (show Hid _ from D)
  clear D
  cases hc : wi n 0 3
  · go_enter Try.func32, Try.ntmps32
    go_wp2_with (go_at_call 35; refine (mcur_ok n _).mono ?_; rintro e w1 ⟨rfl, rfl⟩; rw [hc])
    go_ret
    exact ⟨rfl, HD.out⟩
  · go_enter Try.func32, Try.ntmps32
    go_wp2_with (first | (go_at_call 35; refine (mcur_ok n _).mono ?_; rintro e w1 ⟨rfl, rfl⟩; rw [hc]) | (go_at_call 36; refine (mrange0_ok _).mono ?_; rintro e w1 ⟨rfl, rfl⟩))
    go_ret
    exact ⟨rfl, HD.out⟩
end Go.Proofs.Ytgbphbeafomabaa
