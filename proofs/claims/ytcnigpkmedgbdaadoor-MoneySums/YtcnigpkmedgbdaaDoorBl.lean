/- money: the walk of MoneySums. -/
import Derived.Test.YtcnigpkmedgbdaaDoorBk
import Derived.Test.YtcnigpkmedgbdaaDoorBe
namespace Go.Proofs.YtcnigpkmedgbdaaDoor
open Go.RowKit
set_option linter.unusedVariables false

theorem bel_same {w : World} : Below w.heap.size w w := Below.refl _ _
theorem add_both (ca na cb nb : Int) : ∃ c n e : Int,
    (∀ w, Calls Tryd.prog 8 #[.agg #[.int .i64 ca, .int .i64 na], .agg #[.int .i64 cb, .int .i64 nb]] w fun r w' => r = .returned (.tuple #[.agg #[.int .i64 c, .int .i64 n], .int .i64 e]) ∧ Below w.heap.size w w') ∧
    (∀ w, Calls Tryd.prog 9 #[.agg #[.int .i64 ca, .int .i64 na], .agg #[.int .i64 cb, .int .i64 nb], .int .i64 (1)] w fun r w' => r = .returned (.tuple #[.agg #[.int .i64 c, .int .i64 n], .int .i64 e]) ∧ Below w.heap.size w w') := by
  by_cases h1 : mform ca na = true
  · by_cases h2 : mform cb nb = true
    · by_cases h3 : ca = cb
      · subst h3
        have he : cbe ca na ca nb = 0 := by unfold cbe; rw [h1, h2]; simp
        have hb := And.intro (mf_parts h1).2 (mf_parts h2).2
        by_cases hr : wi (na + nb) (-10000000000000) 10000000000000 = true
        · exact ⟨ca, na + nb, 0, fun w => Add_ok ca na ca nb w he hb hr, fun w => dadd_ok ca na nb w h1 h2 hr⟩
        · replace hr : wi (na + nb) (-10000000000000) 10000000000000 = false := by simpa using hr
          exact ⟨0, 0, 4, fun w => Add_rng ca na ca nb w he hb hr, fun w => dadd_r ca na nb w h1 h2 hr⟩
      · exact ⟨0, 0, 10, fun w => Add_err ca na cb nb w 10 (by unfold cbe; rw [h1, h2]; simp [h3]) (by decide), fun w => dadd_c ca na cb nb w h1 h2 h3⟩
    · replace h2 : mform cb nb = false := by simpa using h2
      exact ⟨0, 0, 3, fun w => Add_err ca na cb nb w 3 (by unfold cbe; rw [h1, h2]; simp) (by decide), fun w => dadd_b ca na cb nb w h1 h2⟩
  · replace h1 : mform ca na = false := by simpa using h1
    exact ⟨0, 0, 3, fun w => Add_err ca na cb nb w 3 (by unfold cbe; rw [h1]; simp) (by decide), fun w => dadd_a ca na cb nb w h1⟩
theorem sub_both (ca na cb nb : Int) : ∃ c n e : Int,
    (∀ w, Calls Tryd.prog 10 #[.agg #[.int .i64 ca, .int .i64 na], .agg #[.int .i64 cb, .int .i64 nb]] w fun r w' => r = .returned (.tuple #[.agg #[.int .i64 c, .int .i64 n], .int .i64 e]) ∧ Below w.heap.size w w') ∧
    (∀ w, Calls Tryd.prog 9 #[.agg #[.int .i64 ca, .int .i64 na], .agg #[.int .i64 cb, .int .i64 nb], .int .i64 (-1)] w fun r w' => r = .returned (.tuple #[.agg #[.int .i64 c, .int .i64 n], .int .i64 e]) ∧ Below w.heap.size w w') := by
  by_cases h1 : mform ca na = true
  · by_cases h2 : mform cb nb = true
    · by_cases h3 : ca = cb
      · subst h3
        have he : cbe ca na ca nb = 0 := by unfold cbe; rw [h1, h2]; simp
        have hb := And.intro (mf_parts h1).2 (mf_parts h2).2
        by_cases hr : wi (na - nb) (-10000000000000) 10000000000000 = true
        · exact ⟨ca, na - nb, 0, fun w => Sub_ok ca na ca nb w he hb hr, fun w => dsub_ok ca na nb w h1 h2 hr⟩
        · replace hr : wi (na - nb) (-10000000000000) 10000000000000 = false := by simpa using hr
          exact ⟨0, 0, 4, fun w => Sub_rng ca na ca nb w he hb hr, fun w => dsub_r ca na nb w h1 h2 hr⟩
      · exact ⟨0, 0, 10, fun w => Sub_err ca na cb nb w 10 (by unfold cbe; rw [h1, h2]; simp [h3]) (by decide), fun w => dsub_c ca na cb nb w h1 h2 h3⟩
    · replace h2 : mform cb nb = false := by simpa using h2
      exact ⟨0, 0, 3, fun w => Sub_err ca na cb nb w 3 (by unfold cbe; rw [h1, h2]; simp) (by decide), fun w => dsub_b ca na cb nb w h1 h2⟩
  · replace h1 : mform ca na = false := by simpa using h1
    exact ⟨0, 0, 3, fun w => Sub_err ca na cb nb w 3 (by unfold cbe; rw [h1]; simp) (by decide), fun w => dsub_a ca na cb nb w h1⟩
theorem cmp_both (ca na cb nb : Int) : ∃ o e : Int,
    (∀ w, Calls Tryd.prog 11 #[.agg #[.int .i64 ca, .int .i64 na], .agg #[.int .i64 cb, .int .i64 nb]] w fun r w' => r = .returned (.tuple #[.int .i64 o, .int .i64 e]) ∧ Below w.heap.size w w') ∧
    (∀ w, Calls Tryd.prog 12 #[.agg #[.int .i64 ca, .int .i64 na], .agg #[.int .i64 cb, .int .i64 nb]] w fun r w' => r = .returned (.tuple #[.int .i64 o, .int .i64 e]) ∧ Below w.heap.size w w') := by
  by_cases h1 : mform ca na = true
  · by_cases h2 : mform cb nb = true
    · by_cases h3 : ca = cb
      · subst h3
        exact ⟨ord na nb, 0, fun w => MCmp_ok ca na ca nb w (by unfold cbe; rw [h1, h2]; simp), fun w => dcmp_ok ca na nb w h1 h2⟩
      · exact ⟨0, 10, fun w => MCmp_err ca na cb nb w 10 (by unfold cbe; rw [h1, h2]; simp [h3]) (by decide), fun w => dcmp_c ca na cb nb w h1 h2 h3⟩
    · replace h2 : mform cb nb = false := by simpa using h2
      exact ⟨0, 3, fun w => MCmp_err ca na cb nb w 3 (by unfold cbe; rw [h1, h2]; simp) (by decide), fun w => dcmp_b ca na cb nb w h1 h2⟩
  · replace h1 : mform ca na = false := by simpa using h1
    exact ⟨0, 3, fun w => MCmp_err ca na cb nb w 3 (by unfold cbe; rw [h1]; simp) (by decide), fun w => dcmp_a ca na cb nb w h1⟩
theorem dig_both (c : Int) : ∃ n e : Int,
    (∀ w, Cu w → Calls Tryd.prog 13 #[.int .i64 c] w fun r w' => r = .returned (.tuple #[.int .i64 n, .int .i64 e]) ∧ Below w.heap.size w w') ∧
    (∀ w, Calls Tryd.prog 14 #[.int .i64 c] w fun r w' => r = .returned (.tuple #[.int .i64 n, .int .i64 e]) ∧ Below w.heap.size w w') := by
  by_cases h : 0 ≤ c ∧ c ≤ 3
  · obtain ⟨i, rfl⟩ := Int.eq_ofNat_of_zero_le h.1
    exact ⟨(cdg i : Nat), 0, fun w T => (digits_yes i w T (by omega)).mono (by rintro e w' ⟨rfl, rfl⟩; exact ⟨rfl, bel_same⟩), fun w => (ddig_yes i w (by omega)).mono (by rintro e w' ⟨rfl, rfl⟩; exact ⟨rfl, bel_same⟩)⟩
  · exact ⟨0, 1, fun w T => (digits_no c w h).mono (by rintro e w' ⟨rfl, rfl⟩; exact ⟨rfl, bel_same⟩), fun w => (ddig_no c w h).mono (by rintro e w' ⟨rfl, rfl⟩; exact ⟨rfl, bel_same⟩)⟩
theorem eqM (w : World) (a b : Int) : (Op.equalIn 10000 23 (.agg #[.int .i64 a, .int .i64 b]) (.agg #[.int .i64 a, .int .i64 b])).run Tryd.prog w = .ok true w := by
  go_simp
set_option maxHeartbeats 20000000 in
set_option maxRecDepth 100000 in
theorem sums_walk (ca na cb nb : Int) (w : World) (T : Cu w) (N : Cn w) : Calls Tryd.prog 3 #[.agg #[.int .i64 ca, .int .i64 na], .agg #[.int .i64 cb, .int .i64 nb]] w fun e w' => e = .returned (.bool true) ∧ Below w.heap.size w w' := by
  obtain ⟨c1, n1, e1, q1, q2⟩ := add_both ca na cb nb
  obtain ⟨c3, n3, e3, q3, q4⟩ := sub_both ca na cb nb
  obtain ⟨o5, e5, q5, q6⟩ := cmp_both ca na cb nb
  obtain ⟨n7, e7, q7, q8⟩ := dig_both ca
  have Q1 := (show Hid _ from q1)
  have Q2 := (show Hid _ from q2)
  have Q3 := (show Hid _ from q3)
  have Q4 := (show Hid _ from q4)
  have Q5 := (show Hid _ from q5)
  have Q6 := (show Hid _ from q6)
  have Q7 := (show Hid _ from q7)
  have Q8 := (show Hid _ from q8)
  have VA_0 := (show Hid _ from (va_new w (mcl ca na) 23).alloc (.cells (mcl cb nb).toArray 23))
  have VB_0 := (show Hid _ from va_new (w.alloc (.cells (mcl ca na).toArray 23)) (mcl cb nb) 23)
  rw [show (w.alloc (.cells (mcl ca na).toArray 23)).heap.size = w.heap.size + 1 by simp] at VB_0
  have CU_0 := (show Hid _ from (T.alloc (.cells (mcl ca na).toArray 23)).alloc (.cells (mcl cb nb).toArray 23))
  have CN_0 := (show Hid _ from (N.alloc (.cells (mcl ca na).toArray 23)).alloc (.cells (mcl cb nb).toArray 23))
  have BX := (Below.refl w.heap.size w).alloc (Nat.le_refl _) (.cells (mcl ca na).toArray 23)
  have BB_0 := (show Hid _ from BX.alloc BX.size (.cells (mcl cb nb).toArray 23))
  clear q1 q2 q3 q4 q5 q6 q7 q8 T N BX
  go_enter Tryd.func3, Tryd.ntmps3
  go_wp2_with (first | (refine ldA rfl 23 _ rfl w.heap.size (by rfl) (mcl ca na) _ (VA_0.out) _ Tryd.underlying23 rfl infoM ?_) | (refine ldA rfl 23 _ rfl (w.heap.size + 1) (by rfl) (mcl cb nb) _ (VB_0.out) _ Tryd.underlying23 rfl infoM ?_))
  refine (Q1.out _).mono ?_
  rintro e w1 ⟨rfl, b1⟩
  have VA_1 := (show Hid _ from (VA_0.out).step b1)
  have VB_1 := (show Hid _ from (VB_0.out).step b1)
  have CU_1 := (show Hid _ from (CU_0.out).step b1)
  have CN_1 := (show Hid _ from (CN_0.out).step b1)
  have BB_1 := (show Hid _ from BB_0.out.trans (b1.mono BB_0.out.size))
  clear b1 VA_0 VB_0 CU_0 CN_0 BB_0
  go_wp2_with (first | (refine ldA rfl 23 _ rfl w.heap.size (by rfl) (mcl ca na) _ (VA_1.out.alloc _) _ Tryd.underlying23 rfl infoM ?_) | (refine ldA rfl 23 _ rfl (w.heap.size + 1) (by rfl) (mcl cb nb) _ (VB_1.out.alloc _) _ Tryd.underlying23 rfl infoM ?_))
  refine (Q2.out _).mono ?_
  rintro e w2 ⟨rfl, b2⟩
  have VA_2 := (show Hid _ from (VA_1.out.alloc (.cells #[.int .i64 c1, .int .i64 n1] 23)).step b2)
  have VB_2 := (show Hid _ from (VB_1.out.alloc (.cells #[.int .i64 c1, .int .i64 n1] 23)).step b2)
  have CU_2 := (show Hid _ from (CU_1.out.alloc (.cells #[.int .i64 c1, .int .i64 n1] 23)).step b2)
  have CN_2 := (show Hid _ from (CN_1.out.alloc (.cells #[.int .i64 c1, .int .i64 n1] 23)).step b2)
  have X1_2 := (show Hid _ from (va_new w1 (mcl c1 n1) 23).step b2)
  have BB_2 := (show Hid _ from BB_1.out.trans ((below_over b2).mono BB_1.out.size))
  clear b2 VA_1 VB_1 CU_1 CN_1 BB_1
  generalize w1.heap.size = pX1 at *
  go_wp2_with (first | (refine ldA rfl 23 _ rfl w.heap.size (by rfl) (mcl ca na) _ (VA_2.out.alloc _) _ Tryd.underlying23 rfl infoM ?_) | (refine ldA rfl 23 _ rfl (w.heap.size + 1) (by rfl) (mcl cb nb) _ (VB_2.out.alloc _) _ Tryd.underlying23 rfl infoM ?_))
  refine (Q3.out _).mono ?_
  rintro e w3 ⟨rfl, b3⟩
  have VA_3 := (show Hid _ from (VA_2.out.alloc (.cells #[.int .i64 c1, .int .i64 n1] 23)).step b3)
  have VB_3 := (show Hid _ from (VB_2.out.alloc (.cells #[.int .i64 c1, .int .i64 n1] 23)).step b3)
  have CU_3 := (show Hid _ from (CU_2.out.alloc (.cells #[.int .i64 c1, .int .i64 n1] 23)).step b3)
  have CN_3 := (show Hid _ from (CN_2.out.alloc (.cells #[.int .i64 c1, .int .i64 n1] 23)).step b3)
  have X1_3 := (show Hid _ from (X1_2.out.alloc (.cells #[.int .i64 c1, .int .i64 n1] 23)).step b3)
  have X2_3 := (show Hid _ from (va_new w2 (mcl c1 n1) 23).step b3)
  have BB_3 := (show Hid _ from BB_2.out.trans ((below_over b3).mono BB_2.out.size))
  clear b3 VA_2 VB_2 CU_2 CN_2 X1_2 BB_2
  generalize w2.heap.size = pX2 at *
  go_wp2_with (first | (refine ldA rfl 23 _ rfl w.heap.size (by rfl) (mcl ca na) _ (VA_3.out.alloc _) _ Tryd.underlying23 rfl infoM ?_) | (refine ldA rfl 23 _ rfl (w.heap.size + 1) (by rfl) (mcl cb nb) _ (VB_3.out.alloc _) _ Tryd.underlying23 rfl infoM ?_))
  refine (Q4.out _).mono ?_
  rintro e w4 ⟨rfl, b4⟩
  have VA_4 := (show Hid _ from (VA_3.out.alloc (.cells #[.int .i64 c3, .int .i64 n3] 23)).step b4)
  have VB_4 := (show Hid _ from (VB_3.out.alloc (.cells #[.int .i64 c3, .int .i64 n3] 23)).step b4)
  have CU_4 := (show Hid _ from (CU_3.out.alloc (.cells #[.int .i64 c3, .int .i64 n3] 23)).step b4)
  have CN_4 := (show Hid _ from (CN_3.out.alloc (.cells #[.int .i64 c3, .int .i64 n3] 23)).step b4)
  have X1_4 := (show Hid _ from (X1_3.out.alloc (.cells #[.int .i64 c3, .int .i64 n3] 23)).step b4)
  have X2_4 := (show Hid _ from (X2_3.out.alloc (.cells #[.int .i64 c3, .int .i64 n3] 23)).step b4)
  have X3_4 := (show Hid _ from (va_new w3 (mcl c3 n3) 23).step b4)
  have BB_4 := (show Hid _ from BB_3.out.trans ((below_over b4).mono BB_3.out.size))
  clear b4 VA_3 VB_3 CU_3 CN_3 X1_3 X2_3 BB_3
  generalize w3.heap.size = pX3 at *
  go_wp2_with (first | (refine ldA rfl 23 _ rfl w.heap.size (by rfl) (mcl ca na) _ (VA_4.out.alloc _) _ Tryd.underlying23 rfl infoM ?_) | (refine ldA rfl 23 _ rfl (w.heap.size + 1) (by rfl) (mcl cb nb) _ (VB_4.out.alloc _) _ Tryd.underlying23 rfl infoM ?_))
  refine (Q5.out _).mono ?_
  rintro e w5 ⟨rfl, b5⟩
  have VA_5 := (show Hid _ from (VA_4.out.alloc (.cells #[.int .i64 c3, .int .i64 n3] 23)).step b5)
  have VB_5 := (show Hid _ from (VB_4.out.alloc (.cells #[.int .i64 c3, .int .i64 n3] 23)).step b5)
  have CU_5 := (show Hid _ from (CU_4.out.alloc (.cells #[.int .i64 c3, .int .i64 n3] 23)).step b5)
  have CN_5 := (show Hid _ from (CN_4.out.alloc (.cells #[.int .i64 c3, .int .i64 n3] 23)).step b5)
  have X1_5 := (show Hid _ from (X1_4.out.alloc (.cells #[.int .i64 c3, .int .i64 n3] 23)).step b5)
  have X2_5 := (show Hid _ from (X2_4.out.alloc (.cells #[.int .i64 c3, .int .i64 n3] 23)).step b5)
  have X3_5 := (show Hid _ from (X3_4.out.alloc (.cells #[.int .i64 c3, .int .i64 n3] 23)).step b5)
  have X4_5 := (show Hid _ from (va_new w4 (mcl c3 n3) 23).step b5)
  have BB_5 := (show Hid _ from BB_4.out.trans ((below_over b5).mono BB_4.out.size))
  clear b5 VA_4 VB_4 CU_4 CN_4 X1_4 X2_4 X3_4 BB_4
  generalize w4.heap.size = pX4 at *
  go_wp2_with (first | (refine ldA rfl 23 _ rfl w.heap.size (by rfl) (mcl ca na) _ (VA_5.out) _ Tryd.underlying23 rfl infoM ?_) | (refine ldA rfl 23 _ rfl (w.heap.size + 1) (by rfl) (mcl cb nb) _ (VB_5.out) _ Tryd.underlying23 rfl infoM ?_))
  refine (Q6.out _).mono ?_
  rintro e w6 ⟨rfl, b6⟩
  have VA_6 := (show Hid _ from (VA_5.out).step b6)
  have VB_6 := (show Hid _ from (VB_5.out).step b6)
  have CU_6 := (show Hid _ from (CU_5.out).step b6)
  have CN_6 := (show Hid _ from (CN_5.out).step b6)
  have X1_6 := (show Hid _ from (X1_5.out).step b6)
  have X2_6 := (show Hid _ from (X2_5.out).step b6)
  have X3_6 := (show Hid _ from (X3_5.out).step b6)
  have X4_6 := (show Hid _ from (X4_5.out).step b6)
  have BB_6 := (show Hid _ from BB_5.out.trans (b6.mono BB_5.out.size))
  clear b6 VA_5 VB_5 CU_5 CN_5 X1_5 X2_5 X3_5 X4_5 BB_5
  have a0 := VA_6.out.cell 0 (v := .int .i64 ca) rfl
  go_wp2_with fail
  clear a0
  refine (Q7.out _ CU_6.out).mono ?_
  rintro e w7 ⟨rfl, b7⟩
  have VA_7 := (show Hid _ from (VA_6.out).step b7)
  have VB_7 := (show Hid _ from (VB_6.out).step b7)
  have CU_7 := (show Hid _ from (CU_6.out).step b7)
  have CN_7 := (show Hid _ from (CN_6.out).step b7)
  have X1_7 := (show Hid _ from (X1_6.out).step b7)
  have X2_7 := (show Hid _ from (X2_6.out).step b7)
  have X3_7 := (show Hid _ from (X3_6.out).step b7)
  have X4_7 := (show Hid _ from (X4_6.out).step b7)
  have BB_7 := (show Hid _ from BB_6.out.trans (b7.mono BB_6.out.size))
  clear b7 VA_6 VB_6 CU_6 CN_6 X1_6 X2_6 X3_6 X4_6 BB_6
  have a0 := VA_7.out.cell 0 (v := .int .i64 ca) rfl
  go_wp2_with fail
  clear a0
  refine (Q8.out _).mono ?_
  rintro e w8 ⟨rfl, b8⟩
  have VA_8 := (show Hid _ from (VA_7.out).step b8)
  have VB_8 := (show Hid _ from (VB_7.out).step b8)
  have CU_8 := (show Hid _ from (CU_7.out).step b8)
  have CN_8 := (show Hid _ from (CN_7.out).step b8)
  have X1_8 := (show Hid _ from (X1_7.out).step b8)
  have X2_8 := (show Hid _ from (X2_7.out).step b8)
  have X3_8 := (show Hid _ from (X3_7.out).step b8)
  have X4_8 := (show Hid _ from (X4_7.out).step b8)
  have BB_8 := (show Hid _ from BB_7.out.trans (b8.mono BB_7.out.size))
  clear b8 VA_7 VB_7 CU_7 CN_7 X1_7 X2_7 X3_7 X4_7 BB_7
  go_upto_region 9 with fail
  refine wp_region_noPanic ?_
  refine wp_region_held_drew (S := fun w' => VA w' w.heap.size (mcl ca na) 23 ∧ VA w' pX1 (mcl c1 n1) 23 ∧ VA w' pX2 (mcl c1 n1) 23 ∧ VA w' pX3 (mcl c3 n3) 23 ∧ VA w' pX4 (mcl c3 n3) 23) (by kernel_rfl) ⟨VA_8.out.drew, X1_8.out.drew, X2_8.out.drew, X3_8.out.drew, X4_8.out.drew⟩ (fun hHeld => ?_)
  clear hHeld
  have VA_z := (show Hid _ from VA_8.out.step ((Below.refl _ _).drew))
  have VB_z := (show Hid _ from VB_8.out.step ((Below.refl _ _).drew))
  have CU_z := (show Hid _ from CU_8.out.step ((Below.refl _ _).drew))
  have CN_z := (show Hid _ from CN_8.out.step ((Below.refl _ _).drew))
  have X1_z := (show Hid _ from X1_8.out.step ((Below.refl _ _).drew))
  have X2_z := (show Hid _ from X2_8.out.step ((Below.refl _ _).drew))
  have X3_z := (show Hid _ from X3_8.out.step ((Below.refl _ _).drew))
  have X4_z := (show Hid _ from X4_8.out.step ((Below.refl _ _).drew))
  have BB_z := (show Hid _ from BB_8.out.drew)
  clear VA_8 VB_8 CU_8 CN_8 X1_8 X2_8 X3_8 X4_8 BB_8
  generalize w8.drew = wz at *
  refine wpAnyH_ready (rs := [0]) (by kernel_rfl) (by simp) ?_
  refine AllReadyH.cons (by exact rfl) (fun K hK => ?_) AllReadyH.nil
  go_simp
  refine (awake05 _ CU_z.out CN_z.out).mono ?_
  rintro e w9 ⟨rfl, b9⟩
  have VA_9 := (show Hid _ from VA_z.out.step b9)
  have VB_9 := (show Hid _ from VB_z.out.step b9)
  have CU_9 := (show Hid _ from CU_z.out.step b9)
  have CN_9 := (show Hid _ from CN_z.out.step b9)
  have X1_9 := (show Hid _ from X1_z.out.step b9)
  have X2_9 := (show Hid _ from X2_z.out.step b9)
  have X3_9 := (show Hid _ from X3_z.out.step b9)
  have X4_9 := (show Hid _ from X4_z.out.step b9)
  have BB_9 := (show Hid _ from BB_z.out.trans (b9.mono BB_z.out.size))
  clear b9
  go_wp2_with fail
  refine hK.out _ _ (⟨VA_9.out, X1_9.out, X2_9.out, X3_9.out, X4_9.out⟩) (fun hHeld => ?_)
  try simp only [Act.put, List.setIfInBounds_toArray, List.set_cons_zero, List.set_cons_succ]
  clear hK K
  clear VA_z VB_z CU_z CN_z X1_z X2_z X3_z X4_z BB_z
  refine takeD 1 70 (.bool true) (by exact rfl) rfl (by kernel_rfl) (by kernel_rfl) (by kernel_rfl) (fun _ _ _ h => h) (Or.inl ⟨by rfl, ?_⟩) (by assumption) ?_
  · intro wq hS
    go_simp
  try simp only [Act.put, List.setIfInBounds_toArray, List.set_cons_zero, List.set_cons_succ]
  refine takeD 2 71 (.agg #[.int .i64 c1, .int .i64 n1]) (by exact rfl) rfl (by kernel_rfl) (by kernel_rfl) (by kernel_rfl) (fun _ _ _ h => h) (Or.inl ⟨by rfl, ?_⟩) (by assumption) ?_
  · intro wq hS
    have h0 := hS.2.1.cell 0 (v := .int .i64 c1) rfl
    have h1 := hS.2.1.cell 1 (v := .int .i64 n1) rfl
    go_simp
  try simp only [Act.put, List.setIfInBounds_toArray, List.set_cons_zero, List.set_cons_succ]
  refine takeD 3 72 (.agg #[.int .i64 c1, .int .i64 n1]) (by exact rfl) rfl (by kernel_rfl) (by kernel_rfl) (by kernel_rfl) (fun _ _ _ h => h) (Or.inl ⟨by rfl, ?_⟩) (by assumption) ?_
  · intro wq hS
    have h0 := hS.2.2.1.cell 0 (v := .int .i64 c1) rfl
    have h1 := hS.2.2.1.cell 1 (v := .int .i64 n1) rfl
    go_simp
  try simp only [Act.put, List.setIfInBounds_toArray, List.set_cons_zero, List.set_cons_succ]
  refine takeD 4 73 (.bool true) (by exact rfl) rfl (by kernel_rfl) (by kernel_rfl) (by kernel_rfl) (fun _ _ _ h => h) (Or.inl ⟨by rfl, ?_⟩) (by assumption) ?_
  · intro wq hS
    have := eqM wq c1 n1
    go_simp
  try simp only [Act.put, List.setIfInBounds_toArray, List.set_cons_zero, List.set_cons_succ]
  refine takeD 5 74 (.bool true) (by exact rfl) rfl (by kernel_rfl) (by kernel_rfl) (by kernel_rfl) (fun _ _ _ h => h) (Or.inl ⟨by rfl, ?_⟩) (by assumption) ?_
  · intro wq hS
    go_simp
  try simp only [Act.put, List.setIfInBounds_toArray, List.set_cons_zero, List.set_cons_succ]
  refine takeD 6 75 (.bool true) (by exact rfl) rfl (by kernel_rfl) (by kernel_rfl) (by kernel_rfl) (fun _ _ _ h => h) (Or.inl ⟨by rfl, ?_⟩) (by assumption) ?_
  · intro wq hS
    go_simp
  try simp only [Act.put, List.setIfInBounds_toArray, List.set_cons_zero, List.set_cons_succ]
  refine takeD 7 76 (.int .i64 e1) (by exact rfl) rfl (by kernel_rfl) (by kernel_rfl) (by kernel_rfl) (fun _ _ _ h => h) (Or.inl ⟨by rfl, ?_⟩) (by assumption) ?_
  · intro wq hS
    go_simp
  try simp only [Act.put, List.setIfInBounds_toArray, List.set_cons_zero, List.set_cons_succ]
  refine takeD 8 77 (.int .i64 e1) (by exact rfl) rfl (by kernel_rfl) (by kernel_rfl) (by kernel_rfl) (fun _ _ _ h => h) (Or.inl ⟨by rfl, ?_⟩) (by assumption) ?_
  · intro wq hS
    go_simp
  try simp only [Act.put, List.setIfInBounds_toArray, List.set_cons_zero, List.set_cons_succ]
  refine takeD 9 78 (.bool true) (by exact rfl) rfl (by kernel_rfl) (by kernel_rfl) (by kernel_rfl) (fun _ _ _ h => h) (Or.inl ⟨by rfl, ?_⟩) (by assumption) ?_
  · intro wq hS
    go_simp
  try simp only [Act.put, List.setIfInBounds_toArray, List.set_cons_zero, List.set_cons_succ]
  refine takeD 10 79 (.bool true) (by exact rfl) rfl (by kernel_rfl) (by kernel_rfl) (by kernel_rfl) (fun _ _ _ h => h) (Or.inl ⟨by rfl, ?_⟩) (by assumption) ?_
  · intro wq hS
    go_simp
  try simp only [Act.put, List.setIfInBounds_toArray, List.set_cons_zero, List.set_cons_succ]
  refine takeD 11 80 (.bool true) (by exact rfl) rfl (by kernel_rfl) (by kernel_rfl) (by kernel_rfl) (fun _ _ _ h => h) (Or.inl ⟨by rfl, ?_⟩) (by assumption) ?_
  · intro wq hS
    go_simp
  try simp only [Act.put, List.setIfInBounds_toArray, List.set_cons_zero, List.set_cons_succ]
  refine takeD 12 81 (.agg #[.int .i64 c3, .int .i64 n3]) (by exact rfl) rfl (by kernel_rfl) (by kernel_rfl) (by kernel_rfl) (fun _ _ _ h => h) (Or.inl ⟨by rfl, ?_⟩) (by assumption) ?_
  · intro wq hS
    have h0 := hS.2.2.2.1.cell 0 (v := .int .i64 c3) rfl
    have h1 := hS.2.2.2.1.cell 1 (v := .int .i64 n3) rfl
    go_simp
  try simp only [Act.put, List.setIfInBounds_toArray, List.set_cons_zero, List.set_cons_succ]
  refine takeD 13 82 (.agg #[.int .i64 c3, .int .i64 n3]) (by exact rfl) rfl (by kernel_rfl) (by kernel_rfl) (by kernel_rfl) (fun _ _ _ h => h) (Or.inl ⟨by rfl, ?_⟩) (by assumption) ?_
  · intro wq hS
    have h0 := hS.2.2.2.2.cell 0 (v := .int .i64 c3) rfl
    have h1 := hS.2.2.2.2.cell 1 (v := .int .i64 n3) rfl
    go_simp
  try simp only [Act.put, List.setIfInBounds_toArray, List.set_cons_zero, List.set_cons_succ]
  refine takeD 14 83 (.bool true) (by exact rfl) rfl (by kernel_rfl) (by kernel_rfl) (by kernel_rfl) (fun _ _ _ h => h) (Or.inl ⟨by rfl, ?_⟩) (by assumption) ?_
  · intro wq hS
    have := eqM wq c3 n3
    go_simp
  try simp only [Act.put, List.setIfInBounds_toArray, List.set_cons_zero, List.set_cons_succ]
  refine takeD 15 84 (.bool true) (by exact rfl) rfl (by kernel_rfl) (by kernel_rfl) (by kernel_rfl) (fun _ _ _ h => h) (Or.inl ⟨by rfl, ?_⟩) (by assumption) ?_
  · intro wq hS
    go_simp
  try simp only [Act.put, List.setIfInBounds_toArray, List.set_cons_zero, List.set_cons_succ]
  refine takeD 16 85 (.bool true) (by exact rfl) rfl (by kernel_rfl) (by kernel_rfl) (by kernel_rfl) (fun _ _ _ h => h) (Or.inl ⟨by rfl, ?_⟩) (by assumption) ?_
  · intro wq hS
    go_simp
  try simp only [Act.put, List.setIfInBounds_toArray, List.set_cons_zero, List.set_cons_succ]
  refine takeD 17 86 (.int .i64 e3) (by exact rfl) rfl (by kernel_rfl) (by kernel_rfl) (by kernel_rfl) (fun _ _ _ h => h) (Or.inl ⟨by rfl, ?_⟩) (by assumption) ?_
  · intro wq hS
    go_simp
  try simp only [Act.put, List.setIfInBounds_toArray, List.set_cons_zero, List.set_cons_succ]
  refine takeD 18 87 (.int .i64 e3) (by exact rfl) rfl (by kernel_rfl) (by kernel_rfl) (by kernel_rfl) (fun _ _ _ h => h) (Or.inl ⟨by rfl, ?_⟩) (by assumption) ?_
  · intro wq hS
    go_simp
  try simp only [Act.put, List.setIfInBounds_toArray, List.set_cons_zero, List.set_cons_succ]
  refine takeD 19 88 (.bool true) (by exact rfl) rfl (by kernel_rfl) (by kernel_rfl) (by kernel_rfl) (fun _ _ _ h => h) (Or.inl ⟨by rfl, ?_⟩) (by assumption) ?_
  · intro wq hS
    go_simp
  try simp only [Act.put, List.setIfInBounds_toArray, List.set_cons_zero, List.set_cons_succ]
  refine takeD 20 89 (.bool true) (by exact rfl) rfl (by kernel_rfl) (by kernel_rfl) (by kernel_rfl) (fun _ _ _ h => h) (Or.inl ⟨by rfl, ?_⟩) (by assumption) ?_
  · intro wq hS
    go_simp
  try simp only [Act.put, List.setIfInBounds_toArray, List.set_cons_zero, List.set_cons_succ]
  refine takeD 21 90 (.bool true) (by exact rfl) rfl (by kernel_rfl) (by kernel_rfl) (by kernel_rfl) (fun _ _ _ h => h) (Or.inl ⟨by rfl, ?_⟩) (by assumption) ?_
  · intro wq hS
    go_simp
  try simp only [Act.put, List.setIfInBounds_toArray, List.set_cons_zero, List.set_cons_succ]
  refine takeD 22 91 (.int .i64 o5) (by exact rfl) rfl (by kernel_rfl) (by kernel_rfl) (by kernel_rfl) (fun _ _ _ h => h) (Or.inl ⟨by rfl, ?_⟩) (by assumption) ?_
  · intro wq hS
    go_simp
  try simp only [Act.put, List.setIfInBounds_toArray, List.set_cons_zero, List.set_cons_succ]
  refine takeD 23 92 (.int .i64 o5) (by exact rfl) rfl (by kernel_rfl) (by kernel_rfl) (by kernel_rfl) (fun _ _ _ h => h) (Or.inl ⟨by rfl, ?_⟩) (by assumption) ?_
  · intro wq hS
    go_simp
  try simp only [Act.put, List.setIfInBounds_toArray, List.set_cons_zero, List.set_cons_succ]
  refine takeD 24 93 (.bool true) (by exact rfl) rfl (by kernel_rfl) (by kernel_rfl) (by kernel_rfl) (fun _ _ _ h => h) (Or.inl ⟨by rfl, ?_⟩) (by assumption) ?_
  · intro wq hS
    go_simp
  try simp only [Act.put, List.setIfInBounds_toArray, List.set_cons_zero, List.set_cons_succ]
  refine takeD 25 94 (.bool true) (by exact rfl) rfl (by kernel_rfl) (by kernel_rfl) (by kernel_rfl) (fun _ _ _ h => h) (Or.inl ⟨by rfl, ?_⟩) (by assumption) ?_
  · intro wq hS
    go_simp
  try simp only [Act.put, List.setIfInBounds_toArray, List.set_cons_zero, List.set_cons_succ]
  refine takeD 26 95 (.bool true) (by exact rfl) rfl (by kernel_rfl) (by kernel_rfl) (by kernel_rfl) (fun _ _ _ h => h) (Or.inl ⟨by rfl, ?_⟩) (by assumption) ?_
  · intro wq hS
    go_simp
  try simp only [Act.put, List.setIfInBounds_toArray, List.set_cons_zero, List.set_cons_succ]
  refine takeD 27 96 (.int .i64 e5) (by exact rfl) rfl (by kernel_rfl) (by kernel_rfl) (by kernel_rfl) (fun _ _ _ h => h) (Or.inl ⟨by rfl, ?_⟩) (by assumption) ?_
  · intro wq hS
    go_simp
  try simp only [Act.put, List.setIfInBounds_toArray, List.set_cons_zero, List.set_cons_succ]
  refine takeD 28 97 (.int .i64 e5) (by exact rfl) rfl (by kernel_rfl) (by kernel_rfl) (by kernel_rfl) (fun _ _ _ h => h) (Or.inl ⟨by rfl, ?_⟩) (by assumption) ?_
  · intro wq hS
    go_simp
  try simp only [Act.put, List.setIfInBounds_toArray, List.set_cons_zero, List.set_cons_succ]
  refine takeD 29 98 (.bool true) (by exact rfl) rfl (by kernel_rfl) (by kernel_rfl) (by kernel_rfl) (fun _ _ _ h => h) (Or.inl ⟨by rfl, ?_⟩) (by assumption) ?_
  · intro wq hS
    go_simp
  try simp only [Act.put, List.setIfInBounds_toArray, List.set_cons_zero, List.set_cons_succ]
  refine takeD 30 99 (.bool true) (by exact rfl) rfl (by kernel_rfl) (by kernel_rfl) (by kernel_rfl) (fun _ _ _ h => h) (Or.inl ⟨by rfl, ?_⟩) (by assumption) ?_
  · intro wq hS
    go_simp
  try simp only [Act.put, List.setIfInBounds_toArray, List.set_cons_zero, List.set_cons_succ]
  refine takeD 31 100 (.bool true) (by exact rfl) rfl (by kernel_rfl) (by kernel_rfl) (by kernel_rfl) (fun _ _ _ h => h) (Or.inl ⟨by rfl, ?_⟩) (by assumption) ?_
  · intro wq hS
    go_simp
  try simp only [Act.put, List.setIfInBounds_toArray, List.set_cons_zero, List.set_cons_succ]
  refine takeD 32 101 (.int .i64 n7) (by exact rfl) rfl (by kernel_rfl) (by kernel_rfl) (by kernel_rfl) (fun _ _ _ h => h) (Or.inl ⟨by rfl, ?_⟩) (by assumption) ?_
  · intro wq hS
    go_simp
  try simp only [Act.put, List.setIfInBounds_toArray, List.set_cons_zero, List.set_cons_succ]
  refine takeD 33 102 (.int .i64 n7) (by exact rfl) rfl (by kernel_rfl) (by kernel_rfl) (by kernel_rfl) (fun _ _ _ h => h) (Or.inl ⟨by rfl, ?_⟩) (by assumption) ?_
  · intro wq hS
    go_simp
  try simp only [Act.put, List.setIfInBounds_toArray, List.set_cons_zero, List.set_cons_succ]
  refine takeD 34 103 (.bool true) (by exact rfl) rfl (by kernel_rfl) (by kernel_rfl) (by kernel_rfl) (fun _ _ _ h => h) (Or.inl ⟨by rfl, ?_⟩) (by assumption) ?_
  · intro wq hS
    go_simp
  try simp only [Act.put, List.setIfInBounds_toArray, List.set_cons_zero, List.set_cons_succ]
  refine takeD 35 104 (.bool true) (by exact rfl) rfl (by kernel_rfl) (by kernel_rfl) (by kernel_rfl) (fun _ _ _ h => h) (Or.inl ⟨by rfl, ?_⟩) (by assumption) ?_
  · intro wq hS
    go_simp
  try simp only [Act.put, List.setIfInBounds_toArray, List.set_cons_zero, List.set_cons_succ]
  refine takeD 36 105 (.bool true) (by exact rfl) rfl (by kernel_rfl) (by kernel_rfl) (by kernel_rfl) (fun _ _ _ h => h) (Or.inl ⟨by rfl, ?_⟩) (by assumption) ?_
  · intro wq hS
    go_simp
  try simp only [Act.put, List.setIfInBounds_toArray, List.set_cons_zero, List.set_cons_succ]
  refine takeD 37 106 (.int .i64 e7) (by exact rfl) rfl (by kernel_rfl) (by kernel_rfl) (by kernel_rfl) (fun _ _ _ h => h) (Or.inl ⟨by rfl, ?_⟩) (by assumption) ?_
  · intro wq hS
    go_simp
  try simp only [Act.put, List.setIfInBounds_toArray, List.set_cons_zero, List.set_cons_succ]
  refine takeD 38 107 (.int .i64 e7) (by exact rfl) rfl (by kernel_rfl) (by kernel_rfl) (by kernel_rfl) (fun _ _ _ h => h) (Or.inl ⟨by rfl, ?_⟩) (by assumption) ?_
  · intro wq hS
    go_simp
  try simp only [Act.put, List.setIfInBounds_toArray, List.set_cons_zero, List.set_cons_succ]
  refine takeD 39 108 (.bool true) (by exact rfl) rfl (by kernel_rfl) (by kernel_rfl) (by kernel_rfl) (fun _ _ _ h => h) (Or.inl ⟨by rfl, ?_⟩) (by assumption) ?_
  · intro wq hS
    go_simp
  try simp only [Act.put, List.setIfInBounds_toArray, List.set_cons_zero, List.set_cons_succ]
  refine takeD 40 109 (.bool true) (by exact rfl) rfl (by kernel_rfl) (by kernel_rfl) (by kernel_rfl) (fun _ _ _ h => h) (Or.inl ⟨by rfl, ?_⟩) (by assumption) ?_
  · intro wq hS
    go_simp
  try simp only [Act.put, List.setIfInBounds_toArray, List.set_cons_zero, List.set_cons_succ]
  refine takeD 41 110 (.bool true) (by exact rfl) rfl (by kernel_rfl) (by kernel_rfl) (by kernel_rfl) (fun _ _ _ h => h) (Or.inl ⟨by rfl, ?_⟩) (by assumption) ?_
  · intro wq hS
    go_simp
  try simp only [Act.put, List.setIfInBounds_toArray, List.set_cons_zero, List.set_cons_succ]
  refine takeD 42 111 (.agg #[.int .i64 ca, .int .i64 na]) (by exact rfl) rfl (by kernel_rfl) (by kernel_rfl) (by kernel_rfl) (fun _ _ _ h => h) (Or.inl ⟨by rfl, ?_⟩) (by assumption) ?_
  · intro wq hS
    have h0 := hS.1.cell 0 (v := .int .i64 ca) rfl
    have h1 := hS.1.cell 1 (v := .int .i64 na) rfl
    go_simp
  try simp only [Act.put, List.setIfInBounds_toArray, List.set_cons_zero, List.set_cons_succ]
  refine takeD 45 114 (.agg #[.int .i64 ca, .int .i64 na]) (by exact rfl) rfl (by kernel_rfl) (by kernel_rfl) (by kernel_rfl) (fun _ _ _ h => h) (Or.inl ⟨by rfl, ?_⟩) (by assumption) ?_
  · intro wq hS
    have h0 := hS.1.cell 0 (v := .int .i64 ca) rfl
    have h1 := hS.1.cell 1 (v := .int .i64 na) rfl
    go_simp
  try simp only [Act.put, List.setIfInBounds_toArray, List.set_cons_zero, List.set_cons_succ]
  clear hHeld
  by_cases hf : mform ca na = true
  · have F0 := rform_ok ca na
    rw [hf] at F0
    have F := (show Hid _ from F0)
    clear F0
    refine wpAnyH_ready (rs := [43]) (by kernel_rfl) (by simp) ?_
    refine AllReadyH.cons (by exact rfl) (fun K hK => ?_) AllReadyH.nil
    go_simp
    refine (chk_yes ca na _ hf).mono ?_
    rintro e w10 ⟨rfl, b10⟩
    have VA_10 := (show Hid _ from VA_9.out.step b10)
    have VB_10 := (show Hid _ from VB_9.out.step b10)
    have CU_10 := (show Hid _ from CU_9.out.step b10)
    have CN_10 := (show Hid _ from CN_9.out.step b10)
    have X1_10 := (show Hid _ from X1_9.out.step b10)
    have X2_10 := (show Hid _ from X2_9.out.step b10)
    have X3_10 := (show Hid _ from X3_9.out.step b10)
    have X4_10 := (show Hid _ from X4_9.out.step b10)
    have BB_10 := (show Hid _ from BB_9.out.trans (b10.mono BB_9.out.size))
    clear b10
    go_wp2_with fail
    refine hK.out _ _ (⟨VA_10.out, X1_10.out, X2_10.out, X3_10.out, X4_10.out⟩) (fun hHeld => ?_)
    try simp only [Act.put, List.setIfInBounds_toArray, List.set_cons_zero, List.set_cons_succ]
    clear hK K
    clear VA_9 VB_9 CU_9 CN_9 X1_9 X2_9 X3_9 X4_9 BB_9
    refine takeD 44 113 (.bool true) (by exact rfl) rfl (by kernel_rfl) (by kernel_rfl) (by kernel_rfl) (fun _ _ _ h => h) (Or.inl ⟨by rfl, ?_⟩) (by assumption) ?_
    · intro wq hS
      go_simp
    try simp only [Act.put, List.setIfInBounds_toArray, List.set_cons_zero, List.set_cons_succ]
    clear hHeld
    refine wpAnyH_ready (rs := [46]) (by kernel_rfl) (by simp) ?_
    refine AllReadyH.cons (by exact rfl) (fun K hK => ?_) AllReadyH.nil
    go_simp
    refine (F.out _).mono ?_
    rintro e w11 ⟨rfl, b11⟩
    have VA_11 := (show Hid _ from VA_10.out.step b11)
    have VB_11 := (show Hid _ from VB_10.out.step b11)
    have CU_11 := (show Hid _ from CU_10.out.step b11)
    have CN_11 := (show Hid _ from CN_10.out.step b11)
    have X1_11 := (show Hid _ from X1_10.out.step b11)
    have X2_11 := (show Hid _ from X2_10.out.step b11)
    have X3_11 := (show Hid _ from X3_10.out.step b11)
    have X4_11 := (show Hid _ from X4_10.out.step b11)
    have BB_11 := (show Hid _ from BB_10.out.trans (b11.mono BB_10.out.size))
    clear b11
    go_wp2_with fail
    refine hK.out _ _ (⟨VA_11.out, X1_11.out, X2_11.out, X3_11.out, X4_11.out⟩) (fun hHeld => ?_)
    try simp only [Act.put, List.setIfInBounds_toArray, List.set_cons_zero, List.set_cons_succ]
    clear hK K
    clear VA_10 VB_10 CU_10 CN_10 X1_10 X2_10 X3_10 X4_10 BB_10
    refine takeD 47 116 (.bool true) (by exact rfl) rfl (by kernel_rfl) (by kernel_rfl) (by kernel_rfl) (fun _ _ _ h => h) (Or.inl ⟨by rfl, ?_⟩) (by assumption) ?_
    · intro wq hS
      go_simp
    try simp only [Act.put, List.setIfInBounds_toArray, List.set_cons_zero, List.set_cons_succ]
    refine takeD 48 117 (.bool true) (by exact rfl) rfl (by kernel_rfl) (by kernel_rfl) (by kernel_rfl) (fun _ _ _ h => h) (Or.inl ⟨by rfl, ?_⟩) (by assumption) ?_
    · intro wq hS
      go_simp
    try simp only [Act.put, List.setIfInBounds_toArray, List.set_cons_zero, List.set_cons_succ]
    refine takeD 49 118 (.bool true) (by exact rfl) rfl (by kernel_rfl) (by kernel_rfl) (by kernel_rfl) (fun _ _ _ h => h) (Or.inl ⟨by rfl, ?_⟩) (by assumption) ?_
    · intro wq hS
      go_simp
    try simp only [Act.put, List.setIfInBounds_toArray, List.set_cons_zero, List.set_cons_succ]
    refine takeD 50 119 (.agg #[.int .i64 ca, .int .i64 na]) (by exact rfl) rfl (by kernel_rfl) (by kernel_rfl) (by kernel_rfl) (fun _ _ _ h => h) (Or.inl ⟨by rfl, ?_⟩) (by assumption) ?_
    · intro wq hS
      have h0 := hS.1.cell 0 (v := .int .i64 ca) rfl
      have h1 := hS.1.cell 1 (v := .int .i64 na) rfl
      go_simp
    try simp only [Act.put, List.setIfInBounds_toArray, List.set_cons_zero, List.set_cons_succ]
    clear hHeld
    refine wpAnyH_ready (rs := [51]) (by kernel_rfl) (by simp) ?_
    refine AllReadyH.cons (by exact rfl) (fun K hK => ?_) AllReadyH.nil
    go_simp
    refine (F.out _).mono ?_
    rintro e w12 ⟨rfl, b12⟩
    have VA_12 := (show Hid _ from VA_11.out.step b12)
    have VB_12 := (show Hid _ from VB_11.out.step b12)
    have CU_12 := (show Hid _ from CU_11.out.step b12)
    have CN_12 := (show Hid _ from CN_11.out.step b12)
    have X1_12 := (show Hid _ from X1_11.out.step b12)
    have X2_12 := (show Hid _ from X2_11.out.step b12)
    have X3_12 := (show Hid _ from X3_11.out.step b12)
    have X4_12 := (show Hid _ from X4_11.out.step b12)
    have BB_12 := (show Hid _ from BB_11.out.trans (b12.mono BB_11.out.size))
    clear b12
    go_wp2_with fail
    refine hK.out _ _ (⟨VA_12.out, X1_12.out, X2_12.out, X3_12.out, X4_12.out⟩) (fun hHeld => ?_)
    try simp only [Act.put, List.setIfInBounds_toArray, List.set_cons_zero, List.set_cons_succ]
    clear hK K
    clear VA_11 VB_11 CU_11 CN_11 X1_11 X2_11 X3_11 X4_11 BB_11
    refine takeD 52 121 (.bool true) (by exact rfl) rfl (by kernel_rfl) (by kernel_rfl) (by kernel_rfl) (fun _ _ _ h => h) (Or.inl ⟨by rfl, ?_⟩) (by assumption) ?_
    · intro wq hS
      go_simp
    try simp only [Act.put, List.setIfInBounds_toArray, List.set_cons_zero, List.set_cons_succ]
    refine takeD 53 122 undef (by exact rfl) rfl (by kernel_rfl) (by kernel_rfl) (by kernel_rfl) (fun _ _ _ h => h) (Or.inr ⟨by rfl, rfl⟩) (by assumption) ?_
    try simp only [Act.put, List.setIfInBounds_toArray, List.set_cons_zero, List.set_cons_succ]
    clear hHeld
    refine wpAnyH_ready (rs := [54]) (by kernel_rfl) (by simp) ?_
    refine AllReadyH.cons (by exact rfl) (fun K hK => ?_) AllReadyH.nil
    go_simp
    refine hK.out _ _ ⟨VA_12.out, X1_12.out, X2_12.out, X3_12.out, X4_12.out⟩ (fun hHeld => ?_)
    try simp only [Act.put, List.setIfInBounds_toArray, List.set_cons_zero, List.set_cons_succ]
    clear hK K
    refine takeD 55 124 undef (by exact rfl) rfl (by kernel_rfl) (by kernel_rfl) (by kernel_rfl) (fun _ _ _ h => h) (Or.inr ⟨by rfl, rfl⟩) (by assumption) ?_
    try simp only [Act.put, List.setIfInBounds_toArray, List.set_cons_zero, List.set_cons_succ]
    refine takeD 56 125 (.bool true) (by exact rfl) rfl (by kernel_rfl) (by kernel_rfl) (by kernel_rfl) (fun _ _ _ h => h) (Or.inl ⟨by rfl, ?_⟩) (by assumption) ?_
    · intro wq hS
      go_simp
    try simp only [Act.put, List.setIfInBounds_toArray, List.set_cons_zero, List.set_cons_succ]
    refine takeD 57 126 (.bool true) (by exact rfl) rfl (by kernel_rfl) (by kernel_rfl) (by kernel_rfl) (fun _ _ _ h => h) (Or.inl ⟨by rfl, ?_⟩) (by assumption) ?_
    · intro wq hS
      go_simp
    try simp only [Act.put, List.setIfInBounds_toArray, List.set_cons_zero, List.set_cons_succ]
    refine takeD 58 4 (.bool true) (by exact rfl) rfl (by kernel_rfl) (by kernel_rfl) (by kernel_rfl) (fun _ _ _ h => h) (Or.inl ⟨by rfl, ?_⟩) (by assumption) ?_
    · intro wq hS
      go_simp
    try simp only [Act.put, List.setIfInBounds_toArray, List.set_cons_zero, List.set_cons_succ]
    clear hHeld
    refine wpAnyH_done (by kernel_rfl) ?_ _
    refine NoPanic.normal ?_
    go_wp2_with fail
    exact bodyPost_ret (v := .bool true) (by simp [results, Tryd.results3, go_sem]) rfl ⟨rfl, BB_12.out⟩
  · replace hf : mform ca na = false := by simpa using hf
    have F0 := rform_ok ca na
    rw [hf] at F0
    have F := (show Hid _ from F0)
    clear F0
    refine wpAnyH_ready (rs := [43]) (by kernel_rfl) (by simp) ?_
    refine AllReadyH.cons (by exact rfl) (fun K hK => ?_) AllReadyH.nil
    go_simp
    refine (chk_no ca na _ hf).mono ?_
    rintro e w10 ⟨rfl, b10⟩
    have VA_10 := (show Hid _ from VA_9.out.step b10)
    have VB_10 := (show Hid _ from VB_9.out.step b10)
    have CU_10 := (show Hid _ from CU_9.out.step b10)
    have CN_10 := (show Hid _ from CN_9.out.step b10)
    have X1_10 := (show Hid _ from X1_9.out.step b10)
    have X2_10 := (show Hid _ from X2_9.out.step b10)
    have X3_10 := (show Hid _ from X3_9.out.step b10)
    have X4_10 := (show Hid _ from X4_9.out.step b10)
    have BB_10 := (show Hid _ from BB_9.out.trans (b10.mono BB_9.out.size))
    clear b10
    go_wp2_with fail
    refine hK.out _ _ (⟨VA_10.out, X1_10.out, X2_10.out, X3_10.out, X4_10.out⟩) (fun hHeld => ?_)
    try simp only [Act.put, List.setIfInBounds_toArray, List.set_cons_zero, List.set_cons_succ]
    clear hK K
    clear VA_9 VB_9 CU_9 CN_9 X1_9 X2_9 X3_9 X4_9 BB_9
    refine takeD 44 113 (.bool false) (by exact rfl) rfl (by kernel_rfl) (by kernel_rfl) (by kernel_rfl) (fun _ _ _ h => h) (Or.inl ⟨by rfl, ?_⟩) (by assumption) ?_
    · intro wq hS
      go_simp
    try simp only [Act.put, List.setIfInBounds_toArray, List.set_cons_zero, List.set_cons_succ]
    clear hHeld
    refine wpAnyH_ready (rs := [46]) (by kernel_rfl) (by simp) ?_
    refine AllReadyH.cons (by exact rfl) (fun K hK => ?_) AllReadyH.nil
    go_simp
    refine (F.out _).mono ?_
    rintro e w11 ⟨rfl, b11⟩
    have VA_11 := (show Hid _ from VA_10.out.step b11)
    have VB_11 := (show Hid _ from VB_10.out.step b11)
    have CU_11 := (show Hid _ from CU_10.out.step b11)
    have CN_11 := (show Hid _ from CN_10.out.step b11)
    have X1_11 := (show Hid _ from X1_10.out.step b11)
    have X2_11 := (show Hid _ from X2_10.out.step b11)
    have X3_11 := (show Hid _ from X3_10.out.step b11)
    have X4_11 := (show Hid _ from X4_10.out.step b11)
    have BB_11 := (show Hid _ from BB_10.out.trans (b11.mono BB_10.out.size))
    clear b11
    go_wp2_with fail
    refine hK.out _ _ (⟨VA_11.out, X1_11.out, X2_11.out, X3_11.out, X4_11.out⟩) (fun hHeld => ?_)
    try simp only [Act.put, List.setIfInBounds_toArray, List.set_cons_zero, List.set_cons_succ]
    clear hK K
    clear VA_10 VB_10 CU_10 CN_10 X1_10 X2_10 X3_10 X4_10 BB_10
    refine takeD 47 116 (.bool true) (by exact rfl) rfl (by kernel_rfl) (by kernel_rfl) (by kernel_rfl) (fun _ _ _ h => h) (Or.inl ⟨by rfl, ?_⟩) (by assumption) ?_
    · intro wq hS
      go_simp
    try simp only [Act.put, List.setIfInBounds_toArray, List.set_cons_zero, List.set_cons_succ]
    refine takeD 48 117 (.bool true) (by exact rfl) rfl (by kernel_rfl) (by kernel_rfl) (by kernel_rfl) (fun _ _ _ h => h) (Or.inl ⟨by rfl, ?_⟩) (by assumption) ?_
    · intro wq hS
      go_simp
    try simp only [Act.put, List.setIfInBounds_toArray, List.set_cons_zero, List.set_cons_succ]
    refine takeD 49 118 (.bool true) (by exact rfl) rfl (by kernel_rfl) (by kernel_rfl) (by kernel_rfl) (fun _ _ _ h => h) (Or.inl ⟨by rfl, ?_⟩) (by assumption) ?_
    · intro wq hS
      go_simp
    try simp only [Act.put, List.setIfInBounds_toArray, List.set_cons_zero, List.set_cons_succ]
    refine takeD 50 119 (.agg #[.int .i64 ca, .int .i64 na]) (by exact rfl) rfl (by kernel_rfl) (by kernel_rfl) (by kernel_rfl) (fun _ _ _ h => h) (Or.inl ⟨by rfl, ?_⟩) (by assumption) ?_
    · intro wq hS
      have h0 := hS.1.cell 0 (v := .int .i64 ca) rfl
      have h1 := hS.1.cell 1 (v := .int .i64 na) rfl
      go_simp
    try simp only [Act.put, List.setIfInBounds_toArray, List.set_cons_zero, List.set_cons_succ]
    clear hHeld
    refine wpAnyH_ready (rs := [51]) (by kernel_rfl) (by simp) ?_
    refine AllReadyH.cons (by exact rfl) (fun K hK => ?_) AllReadyH.nil
    go_simp
    refine (F.out _).mono ?_
    rintro e w12 ⟨rfl, b12⟩
    have VA_12 := (show Hid _ from VA_11.out.step b12)
    have VB_12 := (show Hid _ from VB_11.out.step b12)
    have CU_12 := (show Hid _ from CU_11.out.step b12)
    have CN_12 := (show Hid _ from CN_11.out.step b12)
    have X1_12 := (show Hid _ from X1_11.out.step b12)
    have X2_12 := (show Hid _ from X2_11.out.step b12)
    have X3_12 := (show Hid _ from X3_11.out.step b12)
    have X4_12 := (show Hid _ from X4_11.out.step b12)
    have BB_12 := (show Hid _ from BB_11.out.trans (b12.mono BB_11.out.size))
    clear b12
    go_wp2_with fail
    refine hK.out _ _ (⟨VA_12.out, X1_12.out, X2_12.out, X3_12.out, X4_12.out⟩) (fun hHeld => ?_)
    try simp only [Act.put, List.setIfInBounds_toArray, List.set_cons_zero, List.set_cons_succ]
    clear hK K
    clear VA_11 VB_11 CU_11 CN_11 X1_11 X2_11 X3_11 X4_11 BB_11
    refine takeD 52 121 (.bool false) (by exact rfl) rfl (by kernel_rfl) (by kernel_rfl) (by kernel_rfl) (fun _ _ _ h => h) (Or.inl ⟨by rfl, ?_⟩) (by assumption) ?_
    · intro wq hS
      go_simp
    try simp only [Act.put, List.setIfInBounds_toArray, List.set_cons_zero, List.set_cons_succ]
    refine takeD 53 122 (.agg #[.int .i64 ca, .int .i64 na]) (by exact rfl) rfl (by kernel_rfl) (by kernel_rfl) (by kernel_rfl) (fun _ _ _ h => h) (Or.inl ⟨by rfl, ?_⟩) (by assumption) ?_
    · intro wq hS
      have h0 := hS.1.cell 0 (v := .int .i64 ca) rfl
      have h1 := hS.1.cell 1 (v := .int .i64 na) rfl
      go_simp
    try simp only [Act.put, List.setIfInBounds_toArray, List.set_cons_zero, List.set_cons_succ]
    clear hHeld
    refine wpAnyH_ready (rs := [54]) (by kernel_rfl) (by simp) ?_
    refine AllReadyH.cons (by exact rfl) (fun K hK => ?_) AllReadyH.nil
    go_simp
    refine (chk_no ca na _ hf).mono ?_
    rintro e w13 ⟨rfl, b13⟩
    have VA_13 := (show Hid _ from VA_12.out.step b13)
    have VB_13 := (show Hid _ from VB_12.out.step b13)
    have CU_13 := (show Hid _ from CU_12.out.step b13)
    have CN_13 := (show Hid _ from CN_12.out.step b13)
    have X1_13 := (show Hid _ from X1_12.out.step b13)
    have X2_13 := (show Hid _ from X2_12.out.step b13)
    have X3_13 := (show Hid _ from X3_12.out.step b13)
    have X4_13 := (show Hid _ from X4_12.out.step b13)
    have BB_13 := (show Hid _ from BB_12.out.trans (b13.mono BB_12.out.size))
    clear b13
    go_wp2_with fail
    refine hK.out _ _ (⟨VA_13.out, X1_13.out, X2_13.out, X3_13.out, X4_13.out⟩) (fun hHeld => ?_)
    try simp only [Act.put, List.setIfInBounds_toArray, List.set_cons_zero, List.set_cons_succ]
    clear hK K
    clear VA_12 VB_12 CU_12 CN_12 X1_12 X2_12 X3_12 X4_12 BB_12
    refine takeD 55 124 (.bool true) (by exact rfl) rfl (by kernel_rfl) (by kernel_rfl) (by kernel_rfl) (fun _ _ _ h => h) (Or.inl ⟨by rfl, ?_⟩) (by assumption) ?_
    · intro wq hS
      go_simp
    try simp only [Act.put, List.setIfInBounds_toArray, List.set_cons_zero, List.set_cons_succ]
    refine takeD 56 125 (.bool true) (by exact rfl) rfl (by kernel_rfl) (by kernel_rfl) (by kernel_rfl) (fun _ _ _ h => h) (Or.inl ⟨by rfl, ?_⟩) (by assumption) ?_
    · intro wq hS
      go_simp
    try simp only [Act.put, List.setIfInBounds_toArray, List.set_cons_zero, List.set_cons_succ]
    refine takeD 57 126 (.bool true) (by exact rfl) rfl (by kernel_rfl) (by kernel_rfl) (by kernel_rfl) (fun _ _ _ h => h) (Or.inl ⟨by rfl, ?_⟩) (by assumption) ?_
    · intro wq hS
      go_simp
    try simp only [Act.put, List.setIfInBounds_toArray, List.set_cons_zero, List.set_cons_succ]
    refine takeD 58 4 (.bool true) (by exact rfl) rfl (by kernel_rfl) (by kernel_rfl) (by kernel_rfl) (fun _ _ _ h => h) (Or.inl ⟨by rfl, ?_⟩) (by assumption) ?_
    · intro wq hS
      go_simp
    try simp only [Act.put, List.setIfInBounds_toArray, List.set_cons_zero, List.set_cons_succ]
    clear hHeld
    refine wpAnyH_done (by kernel_rfl) ?_ _
    refine NoPanic.normal ?_
    go_wp2_with fail
    exact bodyPost_ret (v := .bool true) (by simp [results, Tryd.results3, go_sem]) rfl ⟨rfl, BB_13.out⟩
end Go.Proofs.YtcnigpkmedgbdaaDoor
