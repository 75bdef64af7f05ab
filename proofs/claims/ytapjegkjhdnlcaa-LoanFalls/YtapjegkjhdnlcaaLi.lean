/- loan: the walk of LoanFalls. -/
import Derived.Test.YtapjegkjhdnlcaaLf
namespace Go.Proofs.Ytapjegkjhdnlcaa
open Go.RowKit
set_option linter.unusedVariables false

theorem lft_falls (p n k : Int) (h : Plan p n) (h0 : 0 ≤ k) : lft p n (k + 1) ≤ lft p n k := by
  obtain ⟨h1, h2, h3, h4⟩ := h
  have := pdv_mono p n (min k n).toNat (min (k + 1) n).toNat h3 (by omega) (by omega)
  rw [show (((min k n).toNat : Nat) : Int) = min k n by omega, show (((min (k + 1) n).toNat : Nat) : Int) = min (k + 1) n by omega] at this
  unfold lft
  omega
theorem lft_first (p n : Int) (h : Plan p n) : lft p n 0 = p := by
  unfold lft
  rw [Int.min_eq_left (by have := h.2.2.1; omega), pdv_zero p n h.2.2.1]
  omega
theorem lft_last (p n k : Int) (h : Plan p n) (hk : n ≤ k) : lft p n k = 0 := by
  unfold lft
  rw [Int.min_eq_right hk, pdv_all p n h.2.2.1]
  omega
set_option maxRecDepth 100000 in
set_option maxHeartbeats 1000000 in
theorem falls_walk (p n k b m : Int) (w : World) (n1 : 0 ≤ n) (n2 : n ≤ 65535) (k1 : 0 ≤ k) (k2 : k ≤ 65535) : Calls Try.prog 7 #[.int .i64 p, .int .u16 n, .int .u16 k, .int .i64 b, .int .i64 m] w fun e w' => e = .returned (.bool true) ∧ Below w.heap.size w w' := by
  go_enter Try.func7, Try.ntmps7
  go_wp2_with (go_at_call 14; refine (awake_ok _).mono ?_; rintro e w1 ⟨rfl, b1⟩; have B1 := (show Hid _ from b1); clear b1)
  have a1 := um p 10000000000000 (by omega) (by omega)
  have hP : Plan (wrap64 (1 + wrap64 ((IntKind.u64.wrap p).tmod 10000000000000))) (1 + n % 480) := by
    generalize wrap64 ((IntKind.u64.wrap p).tmod 10000000000000) = z at *
    have : wrap64 (1 + z) = 1 + z := by unfold wrap64; omega
    rw [this]
    refine ⟨?_, ?_, ?_, ?_⟩ <;> omega
  have k3 : 0 ≤ k % 500 := by omega
  have k4 : k % 500 ≤ 499 := by omega
  clear a1
  generalize wrap64 (1 + wrap64 ((IntKind.u64.wrap p).tmod 10000000000000)) = P at *
  generalize 1 + n % 480 = N at *
  generalize k % 500 = K at *
  have HP := (show Hid (Plan P N) from hP)
  obtain ⟨hP1, hP2, hP3, hP4⟩ := hP
  obtain ⟨a, ha⟩ : ∃ a, a = lft P N K := ⟨_, rfl⟩
  obtain ⟨c, hc⟩ : ∃ c, c = lft P N (K + 1) := ⟨_, rfl⟩
  have bA := lft_bd P N K HP.out k3
  have bC := lft_bd P N (K + 1) HP.out (by omega)
  have hf := lft_falls P N K HP.out k3
  have hz : K = 0 → a = P := fun h => by rw [ha, h]; exact lft_first P N HP.out
  have hl : N ≤ K → a = 0 := fun h => by rw [ha]; exact lft_last P N K HP.out h
  rw [← ha] at bA hf
  rw [← hc] at bC hf
  have HA := (show Hid _ from ha)
  have HC := (show Hid _ from hc)
  have HZ := (show Hid _ from And.intro hz hl)
  clear ha hc hz hl
  obtain ⟨bA1, bA2⟩ := bA
  obtain ⟨bC1, bC2⟩ := bC
  refine (Left_ok P N K _ HP.out k3).mono ?_
  rintro e w2 ⟨rfl, hw⟩
  rw [← HA.out]
  have B2 := (show Hid (Below w.heap.size w w2) from by rw [hw]; exact B1.out.drew)
  clear hw B1
  go_wp2_with fail
  refine (Left_ok P N (K + 1) _ HP.out (by omega)).mono ?_
  rintro e w3 ⟨rfl, hw⟩
  rw [← HC.out]
  have B3 := (show Hid (Below w.heap.size w w3) from by rw [hw]; exact B2.out.drew)
  clear hw B2
  have d1 : decide (a < c) = false := decide_eq_false (by omega)
  have d2 : decide (a < 0) = false := decide_eq_false (by omega)
  have d3 : decide (P < a) = false := decide_eq_false (by omega)
  have x1 := um b 5000000000000 (by omega) (by omega)
  have y1 := um m 5000000000000 (by omega) (by omega)
  have hways : (K = 0 ∧ a = P) ∨ (K ≠ 0 ∧ N ≤ K ∧ a = 0) ∨ (K ≠ 0 ∧ ¬ N ≤ K) := by
    have h := HZ.out
    by_cases h0 : K = 0
    · exact Or.inl ⟨h0, h.1 h0⟩
    · by_cases h1 : N ≤ K
      · exact Or.inr (Or.inl ⟨h0, h1, h.2 h1⟩)
      · exact Or.inr (Or.inr ⟨h0, h1⟩)
  clear HZ hf
  rcases hways with ⟨rfl, rfl⟩ | ⟨e1, e3, rfl⟩ | ⟨e1, e3⟩
  · go_wp2_with fail
    generalize wrap64 ((IntKind.u64.wrap b).tmod 5000000000000) = X at *
    obtain ⟨x11, x12⟩ := x1
    obtain ⟨y11, y12⟩ := y1
    refine (Arrears_ok a N 0 X _ HP.out k3 ⟨x11, by omega⟩).mono ?_
    rintro e w4 ⟨rfl, hw⟩
    rw [← HA.out]
    have B4 := (show Hid (Below w.heap.size w w4) from by rw [hw]; exact B3.out.drew)
    clear hw B3
    obtain ⟨C, hC⟩ : ∃ C, C = max 0 (X - a) := ⟨_, rfl⟩
    rw [← hC]
    have HCC := (show Hid _ from hC)
    clear hC
    go_wp2_with fail
    generalize wrap64 ((IntKind.u64.wrap m).tmod 5000000000000) = Z at *
    have hw : wrap64 (X + Z) = X + Z := by unfold wrap64; omega
    try rw [hw]
    clear hw
    refine (Arrears_ok a N 0 (X + Z) _ HP.out k3 ⟨by omega, by omega⟩).mono ?_
    rintro e w5 ⟨rfl, hw⟩
    rw [← HA.out]
    have B5 := (show Hid (Below w.heap.size w w5) from by rw [hw]; exact B4.out.drew)
    clear hw B4
    obtain ⟨D, hD⟩ : ∃ D, D = max 0 (X + Z - a) := ⟨_, rfl⟩
    rw [← hD]
    have hC := HCC.out
    have hCD : 0 ≤ C ∧ C ≤ D ∧ D ≤ 10000000000000 ∧ (C = 0 ∨ (C ≠ 0 ∧ D - C = X + Z - X)) := by omega
    clear hC hD HCC
    obtain ⟨c1, c2, c3, c4⟩ := hCD
    have dc : decide (C ≤ D) = true := decide_eq_true c2
    rcases c4 with rfl | ⟨c4, c5⟩
    · go_wp2_with fail
      go_ret
      exact ⟨rfl, B5.out⟩
    · have e0 : (C == 0) = false := by simpa using c4
      have e5 : D - C = Z := by omega
      have hz : X + Z - X = Z := by omega
      clear c4 c5
      go_wp2_with fail
      go_ret
      exact ⟨rfl, B5.out⟩
  · go_wp2_with fail
    generalize wrap64 ((IntKind.u64.wrap b).tmod 5000000000000) = X at *
    obtain ⟨x11, x12⟩ := x1
    obtain ⟨y11, y12⟩ := y1
    refine (Arrears_ok P N K X _ HP.out k3 ⟨x11, by omega⟩).mono ?_
    rintro e w4 ⟨rfl, hw⟩
    rw [← HA.out]
    have B4 := (show Hid (Below w.heap.size w w4) from by rw [hw]; exact B3.out.drew)
    clear hw B3
    obtain ⟨C, hC⟩ : ∃ C, C = max 0 (X - 0) := ⟨_, rfl⟩
    rw [← hC]
    have HCC := (show Hid _ from hC)
    clear hC
    go_wp2_with fail
    generalize wrap64 ((IntKind.u64.wrap m).tmod 5000000000000) = Z at *
    have hw : wrap64 (X + Z) = X + Z := by unfold wrap64; omega
    try rw [hw]
    clear hw
    refine (Arrears_ok P N K (X + Z) _ HP.out k3 ⟨by omega, by omega⟩).mono ?_
    rintro e w5 ⟨rfl, hw⟩
    rw [← HA.out]
    have B5 := (show Hid (Below w.heap.size w w5) from by rw [hw]; exact B4.out.drew)
    clear hw B4
    obtain ⟨D, hD⟩ : ∃ D, D = max 0 (X + Z - 0) := ⟨_, rfl⟩
    rw [← hD]
    have hC := HCC.out
    have hCD : 0 ≤ C ∧ C ≤ D ∧ D ≤ 10000000000000 ∧ (C = 0 ∨ (C ≠ 0 ∧ D - C = X + Z - X)) := by omega
    clear hC hD HCC
    obtain ⟨c1, c2, c3, c4⟩ := hCD
    have dc : decide (C ≤ D) = true := decide_eq_true c2
    rcases c4 with rfl | ⟨c4, c5⟩
    · go_wp2_with fail
      go_ret
      exact ⟨rfl, B5.out⟩
    · have e0 : (C == 0) = false := by simpa using c4
      have e5 : D - C = Z := by omega
      have hz : X + Z - X = Z := by omega
      clear c4 c5
      go_wp2_with fail
      go_ret
      exact ⟨rfl, B5.out⟩
  · go_wp2_with fail
    generalize wrap64 ((IntKind.u64.wrap b).tmod 5000000000000) = X at *
    obtain ⟨x11, x12⟩ := x1
    obtain ⟨y11, y12⟩ := y1
    refine (Arrears_ok P N K X _ HP.out k3 ⟨x11, by omega⟩).mono ?_
    rintro e w4 ⟨rfl, hw⟩
    rw [← HA.out]
    have B4 := (show Hid (Below w.heap.size w w4) from by rw [hw]; exact B3.out.drew)
    clear hw B3
    obtain ⟨C, hC⟩ : ∃ C, C = max 0 (X - a) := ⟨_, rfl⟩
    rw [← hC]
    have HCC := (show Hid _ from hC)
    clear hC
    go_wp2_with fail
    generalize wrap64 ((IntKind.u64.wrap m).tmod 5000000000000) = Z at *
    have hw : wrap64 (X + Z) = X + Z := by unfold wrap64; omega
    try rw [hw]
    clear hw
    refine (Arrears_ok P N K (X + Z) _ HP.out k3 ⟨by omega, by omega⟩).mono ?_
    rintro e w5 ⟨rfl, hw⟩
    rw [← HA.out]
    have B5 := (show Hid (Below w.heap.size w w5) from by rw [hw]; exact B4.out.drew)
    clear hw B4
    obtain ⟨D, hD⟩ : ∃ D, D = max 0 (X + Z - a) := ⟨_, rfl⟩
    rw [← hD]
    have hC := HCC.out
    have hCD : 0 ≤ C ∧ C ≤ D ∧ D ≤ 10000000000000 ∧ (C = 0 ∨ (C ≠ 0 ∧ D - C = X + Z - X)) := by omega
    clear hC hD HCC
    obtain ⟨c1, c2, c3, c4⟩ := hCD
    have dc : decide (C ≤ D) = true := decide_eq_true c2
    rcases c4 with rfl | ⟨c4, c5⟩
    · go_wp2_with fail
      go_ret
      exact ⟨rfl, B5.out⟩
    · have e0 : (C == 0) = false := by simpa using c4
      have e5 : D - C = Z := by omega
      have hz : X + Z - X = Z := by omega
      clear c4 c5
      go_wp2_with fail
      go_ret
      exact ⟨rfl, B5.out⟩
end Go.Proofs.Ytapjegkjhdnlcaa
