/- fx: awake; the walks of FxQuotes and FxSpread. -/
import Derived.Test.YtkndnpkpdchbiaaDoorOd
namespace Go.Proofs.YtkndnpkpdchbiaaDoor
open Go.RowKit
set_option linter.unusedVariables false
attribute [local go_sem] ext_cell ext_frozen ext_drew ext_of_drew ext_of_drewN ext_setCell ext_lt ext_lt1 ext_lt2 ext_lt3 lt_n2 lt_n3 lt_n4 lt_n5 lt_n6

theorem awake_conv (w : World) (T : Cu w) : Calls Tryd.prog 11 #[.int .i64 0, .int .i64 1, .int .i64 1100000000, .int .i64 333] w
    fun e w' => e = .returned (.tuple #[.int .i64 366, .agg #[.int .i64 0, .int .u64 300000000000, .int .i64 12], .int .i64 0]) ∧ Below w.heap.size w w' := by
  have e1 : gt 1 (wor 0 333 1100000000) = 366 := by decide +kernel
  have e2 : rsd 1 (wor 0 333 1100000000) = 300000000000 := by decide +kernel
  have h := conv_yes 0 1 1100000000 333 w T (by decide) (by decide) (by decide) (by decide) (by rw [e1]; decide) (by decide)
  rw [e1, e2] at h
  have e3 : dcs ((300000000000 : Nat) : Int) 12 = [.int .i64 0, .int .u64 300000000000, .int .i64 12] := by
    unfold dcs
    rw [show dhi ((300000000000 : Nat) : Int) = 0 by decide, show dlo ((300000000000 : Nat) : Int) = 300000000000 by decide]
    rfl
  rw [e3] at h
  exact h
theorem awake_quote (w : World) : Calls Tryd.prog 6 #[.int .i64 1000000000, .int .i64 5000] w
    fun e w' => e = .returned (.tuple #[.int .i64 995000000, .int .i64 1005000000, .int .i64 0]) ∧ Below w.heap.size w w' := by
  have h := Quote_ok 1000000000 5000 w (by decide) (by decide) (by decide)
  have e : ansQ 1000000000 5000 = #[.int .i64 995000000, .int .i64 1005000000, .int .i64 0] := by
    have h1 : qx 1000000000 5000 = 995000000 := by decide +kernel
    have h2 : qy 1000000000 5000 = 1005000000 := by decide +kernel
    unfold ansQ
    rw [h1, h2]
    rfl
  rw [e] at h
  exact h
set_option maxHeartbeats 1000000 in
set_option maxRecDepth 100000 in
theorem awake16 (w : World) (T : Cu w) : Calls Tryd.prog 10 #[] w fun e w' => e = .returned (.bool true) ∧ Below w.heap.size w w' := by
  have HT := (show Hid _ from T)
  clear T
  go_enter Tryd.func10, Tryd.ntmps10
  go_wp2_with fail
  refine (awake_conv _ HT.out).mono ?_
  rintro e w1 ⟨rfl, b1⟩
  have B1 := (show Hid _ from b1)
  clear b1
  go_wp2_with fail
  refine (awake_quote _).mono ?_
  rintro e w2 ⟨rfl, b2⟩
  obtain ⟨x0, x1, x2, x3⟩ := (at3_new w1 (.int .i64 0) (.int .u64 300000000000) (.int .i64 12) 35).step b2
  have B2 := (show Hid _ from B1.out.trans ((below_over b2).mono B1.out.size))
  clear b2 B1
  generalize w1.heap.size = p at *
  go_wp2_with fail
  exact bodyPost_ret (v := .bool true) (by simp [results, Tryd.results10, go_sem]) rfl ⟨rfl, B2.out⟩
theorem quote_both (a s : Int) : ∃ x y e : Int,
    (∀ w, Calls Tryd.prog 6 #[.int .i64 a, .int .i64 s] w fun r w' => r = .returned (.tuple #[.int .i64 x, .int .i64 y, .int .i64 e]) ∧ Below w.heap.size w w') ∧
    (∀ w, Calls Tryd.prog 7 #[.int .i64 a, .int .i64 s] w fun r w' => r = .returned (.tuple #[.int .i64 x, .int .i64 y, .int .i64 e]) ∧ Below w.heap.size w w') := by
  by_cases h : (1 ≤ a ∧ a ≤ 1000000000000) ∧ 0 ≤ s ∧ s ≤ 999999
  · obtain ⟨⟨a1, a2⟩, s1, s2⟩ := h
    obtain ⟨r, rfl⟩ := Int.eq_ofNat_of_zero_le (show 0 ≤ a by omega)
    obtain ⟨t, rfl⟩ := Int.eq_ofNat_of_zero_le s1
    by_cases hc : (wi (qx r t) 1 1000000000000 && wi (qy r t) 1 1000000000000) = true
    · have e : ansQ r t = #[.int .i64 (qx r t : Int), .int .i64 (qy r t : Int), .int .i64 0] := by unfold ansQ; rw [if_pos hc]
      refine ⟨(qx r t : Int), (qy r t : Int), 0, fun w => ?_, fun w => ?_⟩
      · rw [← e]; exact Quote_ok r t w (by omega) (by omega) (by omega)
      · rw [← e]; exact DocQuote_ok r t w (by omega) (by omega) (by omega)
    · have e : ansQ r t = #[.int .i64 0, .int .i64 0, .int .i64 4] := by unfold ansQ; rw [if_neg hc]
      refine ⟨0, 0, 4, fun w => ?_, fun w => ?_⟩
      · rw [← e]; exact Quote_ok r t w (by omega) (by omega) (by omega)
      · rw [← e]; exact DocQuote_ok r t w (by omega) (by omega) (by omega)
  · have h2 : ¬ (1 ≤ a ∧ a ≤ 1000000000000) ∨ s < 0 ∨ 1000000 ≤ s := by omega
    exact ⟨0, 0, 1, fun w => (Quote_arg a s w h2).mono (by rintro e w' ⟨rfl, rfl⟩; exact ⟨rfl, Below.refl _ _⟩), fun w => (DocQuote_arg a s w h2).mono (by rintro e w' ⟨rfl, rfl⟩; exact ⟨rfl, Below.refl _ _⟩)⟩
theorem cross_both (a b : Int) : ∃ x e : Int,
    (∀ w, Calls Tryd.prog 8 #[.int .i64 a, .int .i64 b] w fun r w' => r = .returned (.tuple #[.int .i64 x, .int .i64 e]) ∧ Below w.heap.size w w') ∧
    (∀ w, Calls Tryd.prog 9 #[.int .i64 a, .int .i64 b] w fun r w' => r = .returned (.tuple #[.int .i64 x, .int .i64 e]) ∧ Below w.heap.size w w') := by
  by_cases h : (1 ≤ a ∧ a ≤ 1000000000000) ∧ 1 ≤ b ∧ b ≤ 1000000000000
  · obtain ⟨⟨a1, a2⟩, s1, s2⟩ := h
    obtain ⟨r, rfl⟩ := Int.eq_ofNat_of_zero_le (show 0 ≤ a by omega)
    obtain ⟨t, rfl⟩ := Int.eq_ofNat_of_zero_le (show 0 ≤ b by omega)
    by_cases hc : wi (crx r t) 1 1000000000000 = true
    · have e : ansC r t = #[.int .i64 (crx r t : Int), .int .i64 0] := by unfold ansC; rw [if_pos hc]
      refine ⟨(crx r t : Int), 0, fun w => ?_, fun w => ?_⟩
      · rw [← e]; exact Cross_ok r t w (by omega) (by omega) (by omega) (by omega)
      · rw [← e]; exact DocCross_ok r t w (by omega) (by omega) (by omega) (by omega)
    · have e : ansC r t = #[.int .i64 0, .int .i64 4] := by unfold ansC; rw [if_neg hc]
      refine ⟨0, 4, fun w => ?_, fun w => ?_⟩
      · rw [← e]; exact Cross_ok r t w (by omega) (by omega) (by omega) (by omega)
      · rw [← e]; exact DocCross_ok r t w (by omega) (by omega) (by omega) (by omega)
  · exact ⟨0, 1, fun w => (Cross_arg a b w h).mono (by rintro e w' ⟨rfl, rfl⟩; exact ⟨rfl, Below.refl _ _⟩), fun w => (DocCross_arg a b w h).mono (by rintro e w' ⟨rfl, rfl⟩; exact ⟨rfl, Below.refl _ _⟩)⟩
set_option maxHeartbeats 1000000 in
set_option maxRecDepth 100000 in
theorem quotes_walk (a b s : Int) (w : World) (T : Cu w) : Calls Tryd.prog 3 #[.int .i64 a, .int .i64 b, .int .i64 s] w fun e w' => e = .returned (.bool true) ∧ Below w.heap.size w w' := by
  obtain ⟨x, y, e, q1, q2⟩ := quote_both a s
  obtain ⟨n, g, c1, c2⟩ := cross_both a b
  have Q1 := (show Hid _ from q1)
  have Q2 := (show Hid _ from q2)
  have C1 := (show Hid _ from c1)
  have C2 := (show Hid _ from c2)
  have CU_0 := (show Hid _ from T)
  have BB_0 := (show Hid _ from Below.refl w.heap.size w)
  clear q1 q2 c1 c2 T
  go_enter Tryd.func3, Tryd.ntmps3
  go_wp2_with fail
  refine (Q1.out _).mono ?_
  rintro e w1 ⟨rfl, b1⟩
  have CU_1 := (show Hid _ from CU_0.out.step b1)
  have BB_1 := (show Hid _ from BB_0.out.trans (b1.mono BB_0.out.size))
  clear b1 CU_0 BB_0
  go_wp2_with fail
  refine (Q2.out _).mono ?_
  rintro e w2 ⟨rfl, b2⟩
  have CU_2 := (show Hid _ from CU_1.out.step b2)
  have BB_2 := (show Hid _ from BB_1.out.trans (b2.mono BB_1.out.size))
  clear b2 CU_1 BB_1
  go_wp2_with fail
  refine (C1.out _).mono ?_
  rintro e w3 ⟨rfl, b3⟩
  have CU_3 := (show Hid _ from CU_2.out.step b3)
  have BB_3 := (show Hid _ from BB_2.out.trans (b3.mono BB_2.out.size))
  clear b3 CU_2 BB_2
  go_wp2_with fail
  refine (C2.out _).mono ?_
  rintro e w4 ⟨rfl, b4⟩
  have CU_4 := (show Hid _ from CU_3.out.step b4)
  have BB_4 := (show Hid _ from BB_3.out.trans (b4.mono BB_3.out.size))
  clear b4 CU_3 BB_3
  go_wp2_with fail
  refine (awake16 _ CU_4.out).mono ?_
  rintro e w5 ⟨rfl, b5⟩
  have BB_5 := (show Hid _ from BB_4.out.trans (b5.mono BB_4.out.size))
  clear b5 BB_4
  go_wp2_with fail
  exact bodyPost_ret (v := .bool true) (by simp [results, Tryd.results3, go_sem]) rfl ⟨rfl, BB_5.out⟩
theorem qx_mono {r s t : Nat} (h : s ≤ t) : qx r t ≤ qx r s := Nat.div_le_div_right (Nat.mul_le_mul_left r (by omega))
theorem qx_le (r s : Nat) : qx r s ≤ r := by
  unfold qx
  have : r * (1000000 - s) ≤ r * 1000000 := Nat.mul_le_mul_left r (by omega)
  omega
theorem rnd_up3 (x : Nat) : rnd false x 1000000 3 = (x + 999999) / 1000000 := by
  unfold rnd
  by_cases h : x % 1000000 = 0 <;> simp [away, h] <;> omega
theorem qy_mono {r s t : Nat} (h : s ≤ t) : qy r s ≤ qy r t := by
  unfold qy
  rw [rnd_up3, rnd_up3]
  exact Nat.div_le_div_right (Nat.add_le_add_right (Nat.mul_le_mul_left r (by omega)) _)
theorem qy_ge (r s : Nat) : r ≤ qy r s := by
  unfold qy
  rw [rnd_up3]
  have : r * 1000000 ≤ r * (1000000 + s) := Nat.mul_le_mul_left r (by omega)
  omega
theorem q_zero (r : Nat) : qx r 0 = r ∧ qy r 0 = r := by
  unfold qx qy
  rw [rnd_up3]
  omega
end Go.Proofs.YtkndnpkpdchbiaaDoor
