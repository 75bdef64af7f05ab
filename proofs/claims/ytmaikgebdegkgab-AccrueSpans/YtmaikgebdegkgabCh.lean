/- The law BasisParts: the document's parts, the errors, the walk. -/
import Derived.Test.YtmaikgebdegkgabCe
import Derived.Test.YtmaikgebdegkgabCg
namespace Go.Proofs.Ytmaikgebdegkgab.cb
open Go.RowKit
set_option linter.unusedVariables false

theorem bIsDay_no (n : Int) (w : World) (h : ¬ (1 ≤ n ∧ n ≤ 3652059)) :
    Calls Try.prog 36 #[.int .i64 n] w fun e w' => e = .returned (.bool false) ∧ w' = w := by
  by_cases h1 : 1 ≤ n
  · have h2 : ¬ n ≤ 3652059 := by omega
    clear h
    go_enter Try.func36, Try.ntmps36
    go_wp2
    go_ret
    exact ⟨by simp, rfl⟩
  · clear h
    go_enter Try.func36, Try.ntmps36
    go_wp2
    go_ret
    exact ⟨rfl, rfl⟩
theorem check_arg (how f t : Int) (w : World) (h : how < 0 ∨ 3 < how ∨ ¬ (1 ≤ f ∧ f ≤ 3652059) ∨ ¬ (1 ≤ t ∧ t ≤ 3652059)) :
    Calls Try.prog 22 #[.int .i64 how, .int .i64 f, .int .i64 t] w fun e w' => e = .returned (.int .i64 1) ∧ w' = w := by
  by_cases c1 : how < 0
  · clear h
    go_enter Try.func22, Try.ntmps22
    go_wp2_with fail
    go_ret
    exact ⟨rfl, rfl⟩
  have c1' : decide (how < 0) = false := decide_eq_false c1
  by_cases c2 : 3 < how
  · clear h
    go_enter Try.func22, Try.ntmps22
    go_wp2_with fail
    go_ret
    exact ⟨rfl, rfl⟩
  have c2' : decide (3 < how) = false := decide_eq_false c2
  by_cases c3 : 1 ≤ f ∧ f ≤ 3652059
  · have c4 : ¬ (1 ≤ t ∧ t ≤ 3652059) := by omega
    have H4 : Hid (¬ (1 ≤ t ∧ t ≤ 3652059)) := c4
    clear h c4
    go_enter Try.func22, Try.ntmps22
    go_wp2_with fail
    refine (bIsDay_yes f _ c3.1 c3.2).mono ?_
    rintro e w1 ⟨rfl, rfl⟩
    go_wp2_with fail
    refine (bIsDay_no t _ H4.out).mono ?_
    rintro e w1 ⟨rfl, rfl⟩
    go_wp2_with fail
    go_ret
    exact ⟨rfl, rfl⟩
  · have H3 : Hid (¬ (1 ≤ f ∧ f ≤ 3652059)) := c3
    clear h c3
    go_enter Try.func22, Try.ntmps22
    go_wp2_with fail
    refine (bIsDay_no f _ H3.out).mono ?_
    rintro e w1 ⟨rfl, rfl⟩
    go_wp2_with fail
    go_ret
    exact ⟨rfl, rfl⟩
theorem check_date (how f t : Int) (w : World) (h1 : 0 ≤ how) (h2 : how ≤ 3) (f1 : 1 ≤ t) (f2 : t < f) (f3 : f ≤ 3652059) :
    Calls Try.prog 22 #[.int .i64 how, .int .i64 f, .int .i64 t] w fun e w' => e = .returned (.int .i64 9) ∧ w' = w := by
  have hd0 : decide (how < 0) = false := decide_eq_false (by omega)
  have hd1 : decide (3 < how) = false := decide_eq_false (by omega)
  go_enter Try.func22, Try.ntmps22
  go_wp2_with (first | (go_at_call 36; refine (bIsDay_yes _ _ (by omega) (by omega)).mono ?_; rintro e w1 ⟨rfl, rfl⟩))
  go_ret
  exact ⟨rfl, rfl⟩

/-- within a year -/
theorem act_span {n y e z : Int} (h : InY n y) (h' : InY e z) (h1 : n ≤ e) (h2 : e ≤ first (y + 1) + 1) : act e z - act n y = (366 - lp y) * (e - n) := by
  obtain ⟨k, rfl⟩ : ∃ k : Nat, e = n + k := ⟨(e - n).toNat, by omega⟩
  clear h1
  induction k generalizing z with
  | zero =>
    rw [show n + ((0 : Nat) : Int) = n by omega] at *
    obtain rfl := h.uniq h'
    rw [show n - n = 0 by omega]; omega
  | succ k ih =>
    rw [show n + ((k + 1 : Nat) : Int) = n + k + 1 by omega] at *
    have hz : InY (n + k) y := ⟨by have := h.1; omega, by omega⟩
    have a := ih hz (by omega)
    have b := act_step hz h'
    rw [show n + (k : Int) + 1 - n = (n + k - n) + 1 by omega, Int.mul_add]
    omega
theorem Part_err (how f t e : Int) (w : World) (he : 1 ≤ e) (C : ∀ w, Calls Try.prog 22 #[.int .i64 how, .int .i64 f, .int .i64 t] w fun r w' => r = .returned (.int .i64 e) ∧ w' = w) :
    Calls Try.prog 15 #[.int .i64 how, .int .i64 f, .int .i64 t] w fun r w' => r = .returned (.tuple #[.int .i64 0, .int .i64 0, .int .i64 e]) ∧ w' = w := by
  go_enter Try.func15, Try.ntmps15
  go_wp2_with fail
  refine (C _).mono ?_
  rintro e w1 ⟨rfl, rfl⟩
  go_wp2_with fail
  refine bodyPost_ret (v := .tuple #[.int .i64 0, .int .i64 0, .int .i64 e]) (by simp [results, Try.results15, go_sem]) rfl ⟨rfl, rfl⟩
end Go.Proofs.Ytmaikgebdegkgab.cb
