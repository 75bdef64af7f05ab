/- loan: plain arithmetic of a plan; the contracts of its inner functions. -/
import Derived.Test.YtapjegkjhdnlcaaIa
namespace Go.Proofs.Ytapjegkjhdnlcaa
open Go.RowKit
set_option linter.unusedVariables false

/-- what is repaid when k of n months have passed -/
def pdv (p n k : Int) : Int := p / n * k + min (p % n) k
/-- month i's amount -/
def ins (p n : Int) (i : Nat) : Int := pdv p n (i + 1) - pdv p n i
def plan (p n : Int) (m : Nat) : List Int := (List.range m).map (ins p n)
theorem plan_len (p n : Int) (m : Nat) : (plan p n m).length = m := by simp [plan]
theorem plan_get (p n : Int) (m k : Nat) (h : k < m) : (plan p n m).getD k 0 = ins p n k := by simp [plan, h]
theorem plan_succ (p n : Int) (m : Nat) : plan p n (m + 1) = plan p n m ++ [ins p n m] := by simp [plan, List.range_succ]
theorem pdv_zero (p n : Int) (h : 1 ≤ n) : pdv p n 0 = 0 := by
  have := Int.emod_nonneg p (show n ≠ 0 by omega)
  unfold pdv; simp; omega
theorem pdv_all (p n : Int) (h : 1 ≤ n) : pdv p n n = p := by
  have h1 := Int.emod_lt_of_pos p (show 0 < n by omega)
  have h2 := Int.mul_ediv_add_emod p n
  unfold pdv
  rw [Int.min_eq_left (by omega), Int.mul_comm]
  exact h2
theorem ins_eq (p n : Int) (i : Nat) (h : 1 ≤ n) : ins p n i = p / n + (if (i : Int) < p % n then 1 else 0) := by
  unfold ins pdv
  rw [Int.mul_add, Int.mul_one]
  split <;> omega
theorem pdv_succ (p n : Int) (i : Nat) : pdv p n (i + 1) = pdv p n i + ins p n i := by unfold ins; omega
theorem ins_nn (p n : Int) (i : Nat) (h : 1 ≤ n) (hp : 0 ≤ p) : 0 ≤ ins p n i ∧ ins p n i ≤ p / n + 1 := by
  rw [ins_eq p n i h]
  have := Int.ediv_nonneg hp (show 0 ≤ n by omega)
  split <;> omega
theorem pdv_mono (p n : Int) (i j : Nat) (h : 1 ≤ n) (hp : 0 ≤ p) (hij : i ≤ j) : pdv p n i ≤ pdv p n j := by
  induction j with
  | zero => obtain rfl : i = 0 := by omega
            exact Int.le_refl _
  | succ j ih =>
    rcases Nat.lt_or_ge j i with hlt | hge
    · obtain rfl : i = j + 1 := by omega
      exact Int.le_refl _
    · have := ih hge
      have e := pdv_succ p n j
      have := (ins_nn p n j h hp).1
      rw [show ((j + 1 : Nat) : Int) = (j : Int) + 1 by omega]
      omega
theorem pdv_bd (p n : Int) (k : Nat) (h : 1 ≤ n) (hp : 0 ≤ p) (hk : (k : Int) ≤ n) : 0 ≤ pdv p n k ∧ pdv p n k ≤ p := by
  have h1 := pdv_mono p n 0 k h hp (Nat.zero_le _)
  have h2 := pdv_mono p n k n.toNat h hp (by omega)
  rw [show ((0 : Nat) : Int) = 0 from rfl, pdv_zero p n h] at h1
  rw [show ((n.toNat : Nat) : Int) = n by omega, pdv_all p n h] at h2
  exact ⟨h1, h2⟩
/-- what each month's least amount by the document is -/
theorem doc_ins (p n : Int) (i : Nat) (h : 1 ≤ n) (hi : (i : Int) < n) : (p - pdv p n i + (n - i) - 1) / (n - i) = ins p n i := by
  rw [ins_eq p n i h]
  have h1 := Int.emod_lt_of_pos p (show 0 < n by omega)
  have h0 := Int.emod_nonneg p (show n ≠ 0 by omega)
  have h2 := Int.mul_ediv_add_emod p n
  unfold pdv
  generalize p % n = s at *
  generalize p / n = q at *
  have e : p - (q * i + min s i) + (n - i) - 1 = (s - min s i + (n - i) - 1) + q * (n - i) := by
    rw [Int.mul_sub, ← h2, Int.mul_comm q n]; omega
  rw [e, Int.add_mul_ediv_right _ _ (by omega)]
  split
  · next hlt =>
    have : (s - min s ↑i + (n - ↑i) - 1) / (n - ↑i) = 1 := by
      rw [Int.min_eq_right (by omega)]
      have e2 : s - ↑i + (n - ↑i) - 1 = (s - i - 1) + 1 * (n - i) := by omega
      rw [e2, Int.add_mul_ediv_right _ _ (by omega), Int.ediv_eq_zero_of_lt (by omega) (by omega)]
      rfl
    omega
  · next hge =>
    have : (s - min s ↑i + (n - ↑i) - 1) / (n - ↑i) = 0 := by
      rw [Int.min_eq_left (by omega)]
      exact Int.ediv_eq_zero_of_lt (by omega) (by omega)
    omega

theorem isMinor_ok (n : Int) (w : World) : Calls Try.prog 22 #[.int .i64 n] w fun e w' => e = .returned (.bool (decide (0 ≤ n ∧ n ≤ 10000000000000))) ∧ w' = w := by
  by_cases h0 : 0 ≤ n
  · by_cases h1 : n ≤ 10000000000000
    · have e : decide (0 ≤ n ∧ n ≤ 10000000000000) = true := decide_eq_true ⟨h0, h1⟩
      rw [e]
      go_enter Try.func22, Try.ntmps22
      go_wp2
      go_ret
      exact ⟨rfl, rfl⟩
    · have e : decide (0 ≤ n ∧ n ≤ 10000000000000) = false := decide_eq_false (fun h => h1 h.2)
      rw [e]
      go_enter Try.func22, Try.ntmps22
      go_wp2
      go_ret
      exact ⟨rfl, rfl⟩
  · have e : decide (0 ≤ n ∧ n ≤ 10000000000000) = false := decide_eq_false (fun h => h0 h.1)
    rw [e]
    go_enter Try.func22, Try.ntmps22
    go_wp2
    go_ret
    exact ⟨rfl, rfl⟩
/-- a plan's numbers -/
def Plan (p n : Int) : Prop := 1 ≤ p ∧ p ≤ 10000000000000 ∧ 1 ≤ n ∧ n ≤ 480
instance (p n : Int) : Decidable (Plan p n) := by unfold Plan; exact inferInstance
theorem isPlan_ok (p n : Int) (w : World) : Calls Try.prog 18 #[.int .i64 p, .int .i64 n] w fun e w' => e = .returned (.bool (decide (Plan p n))) ∧ w' = w := by
  by_cases h0 : 1 ≤ p
  · by_cases h1 : p ≤ 10000000000000
    · have m : decide (0 ≤ p ∧ p ≤ 10000000000000) = true := decide_eq_true ⟨by omega, h1⟩
      by_cases h2 : 1 ≤ n
      · by_cases h3 : n ≤ 480
        · have e : decide (Plan p n) = true := decide_eq_true ⟨h0, h1, h2, h3⟩
          rw [e]
          go_enter Try.func18, Try.ntmps18
          go_wp2_with (go_at_call 22; refine (isMinor_ok p _).mono ?_; rintro e w1 ⟨rfl, rfl⟩; rw [m])
          go_ret
          exact ⟨rfl, rfl⟩
        · have e : decide (Plan p n) = false := decide_eq_false (fun h => h3 h.2.2.2)
          have e3 : decide (n ≤ 480) = false := decide_eq_false h3
          rw [e]
          go_enter Try.func18, Try.ntmps18
          go_wp2_with (go_at_call 22; refine (isMinor_ok p _).mono ?_; rintro e w1 ⟨rfl, rfl⟩; rw [m])
          go_ret
          exact ⟨rfl, rfl⟩
      · have e : decide (Plan p n) = false := decide_eq_false (fun h => h2 h.2.2.1)
        rw [e]
        go_enter Try.func18, Try.ntmps18
        go_wp2_with (go_at_call 22; refine (isMinor_ok p _).mono ?_; rintro e w1 ⟨rfl, rfl⟩; rw [m])
        go_ret
        exact ⟨rfl, rfl⟩
    · have m : decide (0 ≤ p ∧ p ≤ 10000000000000) = false := decide_eq_false (fun h => h1 h.2)
      have e : decide (Plan p n) = false := decide_eq_false (fun h => h1 h.2.1)
      rw [e]
      go_enter Try.func18, Try.ntmps18
      go_wp2_with (go_at_call 22; refine (isMinor_ok p _).mono ?_; rintro e w1 ⟨rfl, rfl⟩; rw [m])
      go_ret
      exact ⟨rfl, rfl⟩
  · have e : decide (Plan p n) = false := decide_eq_false (fun h => h0 h.1)
    rw [e]
    go_enter Try.func18, Try.ntmps18
    go_wp2_with fail
    go_ret
    exact ⟨rfl, rfl⟩
theorem right_ok (p n : Int) (w : World) : Calls Try.prog 20 #[.int .i64 p, .int .i64 n] w fun e w' => e = .returned (.bool (decide (Plan p n))) ∧ w' = w := by
  by_cases h0 : 1 ≤ p
  · by_cases h1 : p ≤ 10000000000000
    · by_cases h2 : 1 ≤ n
      · by_cases h3 : n ≤ 480
        · have e : decide (Plan p n) = true := decide_eq_true ⟨h0, h1, h2, h3⟩
          rw [e]
          go_enter Try.func20, Try.ntmps20
          go_wp2_with fail
          go_ret
          exact ⟨rfl, rfl⟩
        · have e : decide (Plan p n) = false := decide_eq_false (fun h => h3 h.2.2.2)
          rw [e]
          go_enter Try.func20, Try.ntmps20
          go_wp2_with fail
          go_ret
          exact ⟨rfl, rfl⟩
      · have e : decide (Plan p n) = false := decide_eq_false (fun h => h2 h.2.2.1)
        rw [e]
        go_enter Try.func20, Try.ntmps20
        go_wp2_with fail
        go_ret
        exact ⟨rfl, rfl⟩
    · have e : decide (Plan p n) = false := decide_eq_false (fun h => h1 h.2.1)
      rw [e]
      go_enter Try.func20, Try.ntmps20
      go_wp2_with fail
      go_ret
      exact ⟨rfl, rfl⟩
  · have e : decide (Plan p n) = false := decide_eq_false (fun h => h0 h.1)
    rw [e]
    go_enter Try.func20, Try.ntmps20
    go_wp2_with fail
    go_ret
    exact ⟨rfl, rfl⟩
theorem less_ok (a b : Int) (w : World) : Calls Try.prog 24 #[.int .i64 a, .int .i64 b] w fun e w' => e = .returned (.int .i64 (min a b)) ∧ w' = w := by
  by_cases h : a < b
  · go_enter Try.func24, Try.ntmps24
    go_wp2_with fail
    go_ret
    exact ⟨by rw [Int.min_eq_left (by omega)]; rfl, rfl⟩
  · go_enter Try.func24, Try.ntmps24
    go_wp2_with fail
    go_ret
    exact ⟨by rw [Int.min_eq_right (by omega)]; rfl, rfl⟩
theorem pdv_bd' (p n k : Int) (h : 1 ≤ n) (hp : 0 ≤ p) (h0 : 0 ≤ k) (hk : k ≤ n) : 0 ≤ pdv p n k ∧ pdv p n k ≤ p := by
  obtain ⟨j, rfl⟩ := Int.eq_ofNat_of_zero_le h0
  exact pdv_bd p n j h hp hk
theorem paid_ok (p n k : Int) (w : World) (h : Plan p n) (hk0 : 0 ≤ k) (hk : k ≤ n) : Calls Try.prog 19 #[.int .i64 p, .int .i64 n, .int .i64 k] w fun e w' => e = .returned (.int .i64 (pdv p n k)) ∧ w' = w.drew := by
  obtain ⟨h1, h2, h3, h4⟩ := h
  have b := pdv_bd' p n k h3 (by omega) hk0 hk
  have q0 := Int.ediv_nonneg (show 0 ≤ p by omega) (show 0 ≤ n by omega)
  have q1 : p / n ≤ p := Int.ediv_le_self n (by omega)
  have r0 := Int.emod_nonneg p (show n ≠ 0 by omega)
  have r1 := Int.emod_lt_of_pos p (show 0 < n by omega)
  have d0 : p.tdiv n = p / n := Int.tdiv_eq_ediv_of_nonneg (by omega)
  have d1 : p.tmod n = p % n := Int.tmod_eq_emod_of_nonneg (by omega)
  have m0 : 0 ≤ p / n * k := Int.mul_nonneg q0 (by omega)
  have m1 : p / n * k ≤ 10000000000000 := by unfold pdv at b; omega
  clear b
  have e : pdv p n k = p / n * k + min (p % n) k := rfl
  go_enter Try.func19, Try.ntmps19
  go_wp2_with fail
  go_region
  by_cases hm : k < p % n
  · rw [Int.min_eq_right (by omega)] at e
    have E := (show Hid _ from e)
    clear e
    go_wp2_with fail
    go_ret
    exact ⟨by rw [E.out]; rfl, rfl⟩
  · rw [Int.min_eq_left (by omega)] at e
    have E := (show Hid _ from e)
    clear e
    go_wp2_with fail
    go_ret
    exact ⟨by rw [E.out]; rfl, rfl⟩
end Go.Proofs.Ytapjegkjhdnlcaa
