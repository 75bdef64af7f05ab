/- money: MoneyTexts' walk. -/
import Derived.Test.YteohncnjjgoemaaGreatDoorN9
import Derived.Test.YteohncnjjgoemaaGreatDoorN6
namespace Go.Proofs.YteohncnjjgoemaaGreatDoor
open Go.RowKit
set_option linter.unusedVariables false
set_option linter.unusedSimpArgs false

structure ML (w wr : World) (c n : Int) : Prop where
  r : VA wr w.heap.size [.int .i64 c, .int .i64 n] 23
  u : Cu wr
  n : Cm wr
  x : Mx wr
  b : Below w.heap.size w wr
theorem ML.step {w wr wx : World} {c n : Int} (h : ML w wr c n) (k : Below wr.heap.size wr wx) : ML w wx c n := ⟨h.r.step k, h.u.step k, h.n.step k, h.x.step k, h.b.trans (k.mono h.b.size)⟩
theorem ml_new {w : World} (c n : Int) (T : Cu w) (N : Cm w) (X : Mx w) : ML w (w.alloc (.cells #[.int .i64 c, .int .i64 n] 23)) c n :=
  ⟨va_new w [.int .i64 c, .int .i64 n] 23, T.alloc _, N.alloc _, X.alloc _, (Below.refl w.heap.size w).alloc (Nat.le_refl _) _⟩
theorem ML.cn {w wr : World} {c n : Int} (h : ML w wr c n) : Cn wr := ⟨h.n.row 2 (by decide), h.n.lt⟩
set_option maxHeartbeats 8000000 in
set_option maxRecDepth 100000 in
theorem texts_bad_no (c n : Int) (s : ByteArray) (w : World) (T : Cu w) (N : Cm w) (X : Mx w) (hf : mform c n = false) (a0 a1 ee : Int) (B : MB s a0 a1 ee) (he : ee ≠ 0) : Calls Tryz.prog 3 #[.agg #[.int .i64 c, .int .i64 n], .string s] w fun e w' => e = .returned (.bool true) ∧ Below w.heap.size w w' := by
  have HF : Hid (mform c n = false) := hf
  have HB := (show Hid _ from B)
  have HWB := (show Hid _ from fun w => mwrite_bad c n w hf)
  have q1 : (ee == 0) = false := by simp [he]
  clear he
  have ML_0 := (show Hid _ from ml_new c n T N X)
  clear T N X B hf
  go_enter Tryz.func3, Tryz.ntmps3
  go_wp2_with fail
  refine (awake05 _ ML_0.out.u ML_0.out.cn).mono ?_
  rintro r w1 ⟨rfl, b1⟩
  have ML_1 := (show Hid _ from ML_0.out.step b1)
  clear b1 ML_0
  go_wp2_with (refine ldA rfl 23 _ rfl w.heap.size (by rfl) [.int .i64 c, .int .i64 n] _ ML_1.out.r _ Tryz.underlying23 rfl infoM ?_)
  refine (HWB.out _).mono ?_
  rintro r w2 ⟨rfl, b2⟩
  have ML_2 := (show Hid _ from ML_1.out.step b2)
  clear b2 ML_1
  go_wp2_with (refine ldA rfl 23 _ rfl w.heap.size (by rfl) [.int .i64 c, .int .i64 n] _ ML_2.out.r _ Tryz.underlying23 rfl infoM ?_)
  refine (rform_ok c n _).mono ?_
  rintro r w3 ⟨rfl, b3⟩
  have ML_3 := (show Hid _ from ML_2.out.step b3)
  clear b3 ML_2
  rw [HF.out]
  have ML_4 := ML_3
  clear ML_3
  generalize w3 = w4 at *
  go_wp2_with fail
  refine (HB.out.a _ ML_4.out.u ML_4.out.n ML_4.out.x).mono ?_
  rintro r w5 ⟨rfl, b5⟩
  have ML_5 := (show Hid _ from ML_4.out.step b5)
  clear b5 ML_4
  unfold mcl
  have ML_6 := (show Hid _ from ML_5.out.step ((Below.refl _ _).alloc (Nat.le_refl _) (.cells #[.int .i64 a0, .int .i64 a1] 23)))
  have Vpa_6 := (show Hid _ from va_new w5 [.int .i64 a0, .int .i64 a1] 23)
  clear ML_5 
  go_upto_region 7 with fail
  change Code.wp _ _ _ _ (w5.alloc (.cells #[.int .i64 a0, .int .i64 a1] 23))
  change Hid (ML w (w5.alloc (.cells #[.int .i64 a0, .int .i64 a1] 23)) _ _) at ML_6
  change Hid (VA (w5.alloc (.cells #[.int .i64 a0, .int .i64 a1] 23)) _ _ _) at Vpa_6
  generalize w5.alloc (.cells #[.int .i64 a0, .int .i64 a1] 23) = w6 at *
  generalize w5.heap.size = pa at *
  go_wp2_with fail
  refine (HB.out.b _).mono ?_
  rintro r w7 ⟨rfl, b7⟩
  have ML_7 := (show Hid _ from ML_6.out.step b7)
  have Vpa_7 := (show Hid _ from Vpa_6.out.step b7)
  clear b7 ML_6 Vpa_6
  unfold mcl
  have ML_8 := (show Hid _ from ML_7.out.step ((Below.refl _ _).alloc (Nat.le_refl _) (.cells #[.int .i64 a0, .int .i64 a1] 23)))
  have Vpb_8 := (show Hid _ from va_new w7 [.int .i64 a0, .int .i64 a1] 23)
  have Vpa_8 := (show Hid _ from Vpa_7.out.alloc (.cells #[.int .i64 a0, .int .i64 a1] 23))
  clear ML_7 Vpa_7
  go_upto_region 8 with fail
  change Code.wp _ _ _ _ (w7.alloc (.cells #[.int .i64 a0, .int .i64 a1] 23))
  change Hid (ML w (w7.alloc (.cells #[.int .i64 a0, .int .i64 a1] 23)) _ _) at ML_8
  change Hid (VA (w7.alloc (.cells #[.int .i64 a0, .int .i64 a1] 23)) _ _ _) at Vpb_8
  change Hid (VA (w7.alloc (.cells #[.int .i64 a0, .int .i64 a1] 23)) _ _ _) at Vpa_8
  generalize w7.alloc (.cells #[.int .i64 a0, .int .i64 a1] 23) = w8 at *
  generalize w7.heap.size = pb at *
  have cpa0 := Vpa_8.out.cell 0 (v := .int .i64 a0) rfl
  have cpa1 := Vpa_8.out.cell 1 (v := .int .i64 a1) rfl
  have cpb0 := Vpb_8.out.cell 0 (v := .int .i64 a0) rfl
  have cpb1 := Vpb_8.out.cell 1 (v := .int .i64 a1) rfl
  go_wp2_with fail
  go_ret
  exact ⟨rfl, ML_8.out.b⟩
set_option maxHeartbeats 8000000 in
set_option maxRecDepth 100000 in
theorem texts_bad_ok (c n : Int) (s : ByteArray) (w : World) (T : Cu w) (N : Cm w) (X : Mx w) (hf : mform c n = false) (a0 a1 ee : Int) (B : MB s a0 a1 ee) (he : ee = 0) : Calls Tryz.prog 3 #[.agg #[.int .i64 c, .int .i64 n], .string s] w fun e w' => e = .returned (.bool true) ∧ Below w.heap.size w w' := by
  have HF : Hid (mform c n = false) := hf
  have HB := (show Hid _ from B)
  have HWB := (show Hid _ from fun w => mwrite_bad c n w hf)
  obtain ⟨i2, hi2, rfl, hn2, hWa⟩ := B.c he
  subst he
  have HWA := (show Hid _ from hWa)
  clear hWa
  have ML_0 := (show Hid _ from ml_new c n T N X)
  clear T N X B hf
  go_enter Tryz.func3, Tryz.ntmps3
  go_wp2_with fail
  refine (awake05 _ ML_0.out.u ML_0.out.cn).mono ?_
  rintro r w1 ⟨rfl, b1⟩
  have ML_1 := (show Hid _ from ML_0.out.step b1)
  clear b1 ML_0
  go_wp2_with (refine ldA rfl 23 _ rfl w.heap.size (by rfl) [.int .i64 c, .int .i64 n] _ ML_1.out.r _ Tryz.underlying23 rfl infoM ?_)
  refine (HWB.out _).mono ?_
  rintro r w2 ⟨rfl, b2⟩
  have ML_2 := (show Hid _ from ML_1.out.step b2)
  clear b2 ML_1
  go_wp2_with (refine ldA rfl 23 _ rfl w.heap.size (by rfl) [.int .i64 c, .int .i64 n] _ ML_2.out.r _ Tryz.underlying23 rfl infoM ?_)
  refine (rform_ok c n _).mono ?_
  rintro r w3 ⟨rfl, b3⟩
  have ML_3 := (show Hid _ from ML_2.out.step b3)
  clear b3 ML_2
  rw [HF.out]
  have ML_4 := ML_3
  clear ML_3
  generalize w3 = w4 at *
  go_wp2_with fail
  refine (HB.out.a _ ML_4.out.u ML_4.out.n ML_4.out.x).mono ?_
  rintro r w5 ⟨rfl, b5⟩
  have ML_5 := (show Hid _ from ML_4.out.step b5)
  clear b5 ML_4
  unfold mcl
  have ML_6 := (show Hid _ from ML_5.out.step ((Below.refl _ _).alloc (Nat.le_refl _) (.cells #[.int .i64 (i2 : Int), .int .i64 a1] 23)))
  have Vpa_6 := (show Hid _ from va_new w5 [.int .i64 (i2 : Int), .int .i64 a1] 23)
  clear ML_5 
  go_upto_region 7 with fail
  change Code.wp _ _ _ _ (w5.alloc (.cells #[.int .i64 (i2 : Int), .int .i64 a1] 23))
  change Hid (ML w (w5.alloc (.cells #[.int .i64 (i2 : Int), .int .i64 a1] 23)) _ _) at ML_6
  change Hid (VA (w5.alloc (.cells #[.int .i64 (i2 : Int), .int .i64 a1] 23)) _ _ _) at Vpa_6
  generalize w5.alloc (.cells #[.int .i64 (i2 : Int), .int .i64 a1] 23) = w6 at *
  generalize w5.heap.size = pa at *
  go_wp2_with fail
  refine (HB.out.b _).mono ?_
  rintro r w7 ⟨rfl, b7⟩
  have ML_7 := (show Hid _ from ML_6.out.step b7)
  have Vpa_7 := (show Hid _ from Vpa_6.out.step b7)
  clear b7 ML_6 Vpa_6
  unfold mcl
  have ML_8 := (show Hid _ from ML_7.out.step ((Below.refl _ _).alloc (Nat.le_refl _) (.cells #[.int .i64 (i2 : Int), .int .i64 a1] 23)))
  have Vpb_8 := (show Hid _ from va_new w7 [.int .i64 (i2 : Int), .int .i64 a1] 23)
  have Vpa_8 := (show Hid _ from Vpa_7.out.alloc (.cells #[.int .i64 (i2 : Int), .int .i64 a1] 23))
  clear ML_7 Vpa_7
  go_upto_region 8 with fail
  change Code.wp _ _ _ _ (w7.alloc (.cells #[.int .i64 (i2 : Int), .int .i64 a1] 23))
  change Hid (ML w (w7.alloc (.cells #[.int .i64 (i2 : Int), .int .i64 a1] 23)) _ _) at ML_8
  change Hid (VA (w7.alloc (.cells #[.int .i64 (i2 : Int), .int .i64 a1] 23)) _ _ _) at Vpb_8
  change Hid (VA (w7.alloc (.cells #[.int .i64 (i2 : Int), .int .i64 a1] 23)) _ _ _) at Vpa_8
  generalize w7.alloc (.cells #[.int .i64 (i2 : Int), .int .i64 a1] 23) = w8 at *
  generalize w7.heap.size = pb at *
  have cpa0 := Vpa_8.out.cell 0 (v := .int .i64 (i2 : Int)) rfl
  have cpa1 := Vpa_8.out.cell 1 (v := .int .i64 a1) rfl
  have cpb0 := Vpb_8.out.cell 0 (v := .int .i64 (i2 : Int)) rfl
  have cpb1 := Vpb_8.out.cell 1 (v := .int .i64 a1) rfl
  go_wp2_with fail
  refine (HWA.out _ ML_8.out.u ML_8.out.n).mono ?_
  rintro r wz ⟨rfl, bz⟩
  have BZ := (show Hid _ from ML_8.out.b.trans (bz.mono ML_8.out.b.size))
  clear bz
  go_wp2_with fail
  go_ret
  exact ⟨rfl, BZ.out⟩
set_option maxHeartbeats 8000000 in
set_option maxRecDepth 100000 in
theorem texts_form_no (c n : Int) (s : ByteArray) (w : World) (T : Cu w) (N : Cm w) (X : Mx w) (hf : mform c n = true) (tt : ByteArray) (hW : ∀ w, Cu w → Cm w → Calls Tryz.prog 5 #[.agg #[.int .i64 c, .int .i64 n]] w fun r w' => r = .returned (.tuple #[.string tt, .int .i64 0]) ∧ Below w.heap.size w w') (hR : ∀ w, Calls Tryz.prog 7 #[.agg #[.int .i64 c, .int .i64 n]] w fun r w' => r = .returned (.string tt) ∧ Below w.heap.size w w') (hB : ∀ w, Cu w → Cm w → Mx w → Calls Tryz.prog 8 #[.string tt] w fun r w' => r = .returned (.tuple #[.agg #[.int .i64 c, .int .i64 n], .int .i64 0]) ∧ Below w.heap.size w w') (a0 a1 ee : Int) (B : MB s a0 a1 ee) (he : ee ≠ 0) : Calls Tryz.prog 3 #[.agg #[.int .i64 c, .int .i64 n], .string s] w fun e w' => e = .returned (.bool true) ∧ Below w.heap.size w w' := by
  have HF : Hid (mform c n = true) := hf
  have HB := (show Hid _ from B)
  have HW := (show Hid _ from hW)
  have HRW := (show Hid _ from hR)
  have HPB := (show Hid _ from hB)
  clear hW hR hB
  have q1 : (ee == 0) = false := by simp [he]
  clear he
  have ML_0 := (show Hid _ from ml_new c n T N X)
  clear T N X B hf
  go_enter Tryz.func3, Tryz.ntmps3
  go_wp2_with fail
  refine (awake05 _ ML_0.out.u ML_0.out.cn).mono ?_
  rintro r w1 ⟨rfl, b1⟩
  have ML_1 := (show Hid _ from ML_0.out.step b1)
  clear b1 ML_0
  go_wp2_with (refine ldA rfl 23 _ rfl w.heap.size (by rfl) [.int .i64 c, .int .i64 n] _ ML_1.out.r _ Tryz.underlying23 rfl infoM ?_)
  refine (HW.out _ ML_1.out.u ML_1.out.n).mono ?_
  rintro r w2 ⟨rfl, b2⟩
  have ML_2 := (show Hid _ from ML_1.out.step b2)
  clear b2 ML_1
  go_wp2_with (refine ldA rfl 23 _ rfl w.heap.size (by rfl) [.int .i64 c, .int .i64 n] _ ML_2.out.r _ Tryz.underlying23 rfl infoM ?_)
  refine (rform_ok c n _).mono ?_
  rintro r w3 ⟨rfl, b3⟩
  have ML_3 := (show Hid _ from ML_2.out.step b3)
  clear b3 ML_2
  rw [HF.out]
  have m0 := ML_3.out.r.cell 0 (v := .int .i64 c) rfl
  have m1 := ML_3.out.r.cell 1 (v := .int .i64 n) rfl
  go_wp2_with fail
  clear m0 m1
  refine (HRW.out _).mono ?_
  rintro r w4 ⟨rfl, b4⟩
  have ML_4 := (show Hid _ from ML_3.out.step b4)
  clear b4 ML_3
  go_wp2_with fail
  refine (HB.out.a _ ML_4.out.u ML_4.out.n ML_4.out.x).mono ?_
  rintro r w5 ⟨rfl, b5⟩
  have ML_5 := (show Hid _ from ML_4.out.step b5)
  clear b5 ML_4
  unfold mcl
  have ML_6 := (show Hid _ from ML_5.out.step ((Below.refl _ _).alloc (Nat.le_refl _) (.cells #[.int .i64 a0, .int .i64 a1] 23)))
  have Vpa_6 := (show Hid _ from va_new w5 [.int .i64 a0, .int .i64 a1] 23)
  clear ML_5 
  go_upto_region 7 with fail
  change Code.wp _ _ _ _ (w5.alloc (.cells #[.int .i64 a0, .int .i64 a1] 23))
  change Hid (ML w (w5.alloc (.cells #[.int .i64 a0, .int .i64 a1] 23)) _ _) at ML_6
  change Hid (VA (w5.alloc (.cells #[.int .i64 a0, .int .i64 a1] 23)) _ _ _) at Vpa_6
  generalize w5.alloc (.cells #[.int .i64 a0, .int .i64 a1] 23) = w6 at *
  generalize w5.heap.size = pa at *
  go_wp2_with fail
  refine (HB.out.b _).mono ?_
  rintro r w7 ⟨rfl, b7⟩
  have ML_7 := (show Hid _ from ML_6.out.step b7)
  have Vpa_7 := (show Hid _ from Vpa_6.out.step b7)
  clear b7 ML_6 Vpa_6
  unfold mcl
  have ML_8 := (show Hid _ from ML_7.out.step ((Below.refl _ _).alloc (Nat.le_refl _) (.cells #[.int .i64 a0, .int .i64 a1] 23)))
  have Vpb_8 := (show Hid _ from va_new w7 [.int .i64 a0, .int .i64 a1] 23)
  have Vpa_8 := (show Hid _ from Vpa_7.out.alloc (.cells #[.int .i64 a0, .int .i64 a1] 23))
  clear ML_7 Vpa_7
  go_upto_region 8 with fail
  change Code.wp _ _ _ _ (w7.alloc (.cells #[.int .i64 a0, .int .i64 a1] 23))
  change Hid (ML w (w7.alloc (.cells #[.int .i64 a0, .int .i64 a1] 23)) _ _) at ML_8
  change Hid (VA (w7.alloc (.cells #[.int .i64 a0, .int .i64 a1] 23)) _ _ _) at Vpb_8
  change Hid (VA (w7.alloc (.cells #[.int .i64 a0, .int .i64 a1] 23)) _ _ _) at Vpa_8
  generalize w7.alloc (.cells #[.int .i64 a0, .int .i64 a1] 23) = w8 at *
  generalize w7.heap.size = pb at *
  have cpa0 := Vpa_8.out.cell 0 (v := .int .i64 a0) rfl
  have cpa1 := Vpa_8.out.cell 1 (v := .int .i64 a1) rfl
  have cpb0 := Vpb_8.out.cell 0 (v := .int .i64 a0) rfl
  have cpb1 := Vpb_8.out.cell 1 (v := .int .i64 a1) rfl
  go_upto_region 11 with fail
  clear cpa0 cpa1 cpb0 cpb1
  go_wp2_with fail
  refine (HPB.out _ ML_8.out.u ML_8.out.n ML_8.out.x).mono ?_
  rintro r w9 ⟨rfl, b9⟩
  have ML_9 := (show Hid _ from ML_8.out.step b9)
  have Vpa_9 := (show Hid _ from Vpa_8.out.step b9)
  clear b9 ML_8 Vpa_8
  have ML_A := (show Hid _ from ML_9.out.step ((Below.refl _ _).alloc (Nat.le_refl _) (.cells #[.int .i64 c, .int .i64 n] 23)))
  have Vpc_A := (show Hid _ from va_new w9 [.int .i64 c, .int .i64 n] 23)
  have Vpa_A := (show Hid _ from Vpa_9.out.alloc (.cells #[.int .i64 c, .int .i64 n] 23))
  clear ML_9 Vpa_9
  go_upto_region 12 with fail
  change Code.wp _ _ _ _ (w9.alloc (.cells #[.int .i64 c, .int .i64 n] 23))
  change Hid (ML w (w9.alloc (.cells #[.int .i64 c, .int .i64 n] 23)) _ _) at ML_A
  change Hid (VA (w9.alloc (.cells #[.int .i64 c, .int .i64 n] 23)) _ _ _) at Vpc_A
  change Hid (VA (w9.alloc (.cells #[.int .i64 c, .int .i64 n] 23)) _ _ _) at Vpa_A
  generalize w9.alloc (.cells #[.int .i64 c, .int .i64 n] 23) = wA at *
  generalize w9.heap.size = pc at *
  have cpc0 := Vpc_A.out.cell 0 (v := .int .i64 c) rfl
  have cpc1 := Vpc_A.out.cell 1 (v := .int .i64 n) rfl
  have m0 := ML_A.out.r.cell 0 (v := .int .i64 c) rfl
  have m1 := ML_A.out.r.cell 1 (v := .int .i64 n) rfl
  have cpa0 := Vpa_A.out.cell 0 (v := .int .i64 a0) rfl
  have cpa1 := Vpa_A.out.cell 1 (v := .int .i64 a1) rfl
  go_wp2_with fail
  go_ret
  exact ⟨rfl, ML_A.out.b⟩
set_option maxHeartbeats 8000000 in
set_option maxRecDepth 100000 in
theorem texts_form_ok (c n : Int) (s : ByteArray) (w : World) (T : Cu w) (N : Cm w) (X : Mx w) (hf : mform c n = true) (tt : ByteArray) (hW : ∀ w, Cu w → Cm w → Calls Tryz.prog 5 #[.agg #[.int .i64 c, .int .i64 n]] w fun r w' => r = .returned (.tuple #[.string tt, .int .i64 0]) ∧ Below w.heap.size w w') (hR : ∀ w, Calls Tryz.prog 7 #[.agg #[.int .i64 c, .int .i64 n]] w fun r w' => r = .returned (.string tt) ∧ Below w.heap.size w w') (hB : ∀ w, Cu w → Cm w → Mx w → Calls Tryz.prog 8 #[.string tt] w fun r w' => r = .returned (.tuple #[.agg #[.int .i64 c, .int .i64 n], .int .i64 0]) ∧ Below w.heap.size w w') (a0 a1 ee : Int) (B : MB s a0 a1 ee) (he : ee = 0) : Calls Tryz.prog 3 #[.agg #[.int .i64 c, .int .i64 n], .string s] w fun e w' => e = .returned (.bool true) ∧ Below w.heap.size w w' := by
  have HF : Hid (mform c n = true) := hf
  have HB := (show Hid _ from B)
  have HW := (show Hid _ from hW)
  have HRW := (show Hid _ from hR)
  have HPB := (show Hid _ from hB)
  clear hW hR hB
  obtain ⟨i2, hi2, rfl, hn2, hWa⟩ := B.c he
  subst he
  have HWA := (show Hid _ from hWa)
  clear hWa
  have ML_0 := (show Hid _ from ml_new c n T N X)
  clear T N X B hf
  go_enter Tryz.func3, Tryz.ntmps3
  go_wp2_with fail
  refine (awake05 _ ML_0.out.u ML_0.out.cn).mono ?_
  rintro r w1 ⟨rfl, b1⟩
  have ML_1 := (show Hid _ from ML_0.out.step b1)
  clear b1 ML_0
  go_wp2_with (refine ldA rfl 23 _ rfl w.heap.size (by rfl) [.int .i64 c, .int .i64 n] _ ML_1.out.r _ Tryz.underlying23 rfl infoM ?_)
  refine (HW.out _ ML_1.out.u ML_1.out.n).mono ?_
  rintro r w2 ⟨rfl, b2⟩
  have ML_2 := (show Hid _ from ML_1.out.step b2)
  clear b2 ML_1
  go_wp2_with (refine ldA rfl 23 _ rfl w.heap.size (by rfl) [.int .i64 c, .int .i64 n] _ ML_2.out.r _ Tryz.underlying23 rfl infoM ?_)
  refine (rform_ok c n _).mono ?_
  rintro r w3 ⟨rfl, b3⟩
  have ML_3 := (show Hid _ from ML_2.out.step b3)
  clear b3 ML_2
  rw [HF.out]
  have m0 := ML_3.out.r.cell 0 (v := .int .i64 c) rfl
  have m1 := ML_3.out.r.cell 1 (v := .int .i64 n) rfl
  go_wp2_with fail
  clear m0 m1
  refine (HRW.out _).mono ?_
  rintro r w4 ⟨rfl, b4⟩
  have ML_4 := (show Hid _ from ML_3.out.step b4)
  clear b4 ML_3
  go_wp2_with fail
  refine (HB.out.a _ ML_4.out.u ML_4.out.n ML_4.out.x).mono ?_
  rintro r w5 ⟨rfl, b5⟩
  have ML_5 := (show Hid _ from ML_4.out.step b5)
  clear b5 ML_4
  unfold mcl
  have ML_6 := (show Hid _ from ML_5.out.step ((Below.refl _ _).alloc (Nat.le_refl _) (.cells #[.int .i64 (i2 : Int), .int .i64 a1] 23)))
  have Vpa_6 := (show Hid _ from va_new w5 [.int .i64 (i2 : Int), .int .i64 a1] 23)
  clear ML_5 
  go_upto_region 7 with fail
  change Code.wp _ _ _ _ (w5.alloc (.cells #[.int .i64 (i2 : Int), .int .i64 a1] 23))
  change Hid (ML w (w5.alloc (.cells #[.int .i64 (i2 : Int), .int .i64 a1] 23)) _ _) at ML_6
  change Hid (VA (w5.alloc (.cells #[.int .i64 (i2 : Int), .int .i64 a1] 23)) _ _ _) at Vpa_6
  generalize w5.alloc (.cells #[.int .i64 (i2 : Int), .int .i64 a1] 23) = w6 at *
  generalize w5.heap.size = pa at *
  go_wp2_with fail
  refine (HB.out.b _).mono ?_
  rintro r w7 ⟨rfl, b7⟩
  have ML_7 := (show Hid _ from ML_6.out.step b7)
  have Vpa_7 := (show Hid _ from Vpa_6.out.step b7)
  clear b7 ML_6 Vpa_6
  unfold mcl
  have ML_8 := (show Hid _ from ML_7.out.step ((Below.refl _ _).alloc (Nat.le_refl _) (.cells #[.int .i64 (i2 : Int), .int .i64 a1] 23)))
  have Vpb_8 := (show Hid _ from va_new w7 [.int .i64 (i2 : Int), .int .i64 a1] 23)
  have Vpa_8 := (show Hid _ from Vpa_7.out.alloc (.cells #[.int .i64 (i2 : Int), .int .i64 a1] 23))
  clear ML_7 Vpa_7
  go_upto_region 8 with fail
  change Code.wp _ _ _ _ (w7.alloc (.cells #[.int .i64 (i2 : Int), .int .i64 a1] 23))
  change Hid (ML w (w7.alloc (.cells #[.int .i64 (i2 : Int), .int .i64 a1] 23)) _ _) at ML_8
  change Hid (VA (w7.alloc (.cells #[.int .i64 (i2 : Int), .int .i64 a1] 23)) _ _ _) at Vpb_8
  change Hid (VA (w7.alloc (.cells #[.int .i64 (i2 : Int), .int .i64 a1] 23)) _ _ _) at Vpa_8
  generalize w7.alloc (.cells #[.int .i64 (i2 : Int), .int .i64 a1] 23) = w8 at *
  generalize w7.heap.size = pb at *
  have cpa0 := Vpa_8.out.cell 0 (v := .int .i64 (i2 : Int)) rfl
  have cpa1 := Vpa_8.out.cell 1 (v := .int .i64 a1) rfl
  have cpb0 := Vpb_8.out.cell 0 (v := .int .i64 (i2 : Int)) rfl
  have cpb1 := Vpb_8.out.cell 1 (v := .int .i64 a1) rfl
  go_upto_region 11 with fail
  clear cpa0 cpa1 cpb0 cpb1
  go_wp2_with fail
  refine (HPB.out _ ML_8.out.u ML_8.out.n ML_8.out.x).mono ?_
  rintro r w9 ⟨rfl, b9⟩
  have ML_9 := (show Hid _ from ML_8.out.step b9)
  have Vpa_9 := (show Hid _ from Vpa_8.out.step b9)
  clear b9 ML_8 Vpa_8
  have ML_A := (show Hid _ from ML_9.out.step ((Below.refl _ _).alloc (Nat.le_refl _) (.cells #[.int .i64 c, .int .i64 n] 23)))
  have Vpc_A := (show Hid _ from va_new w9 [.int .i64 c, .int .i64 n] 23)
  have Vpa_A := (show Hid _ from Vpa_9.out.alloc (.cells #[.int .i64 c, .int .i64 n] 23))
  clear ML_9 Vpa_9
  go_upto_region 12 with fail
  change Code.wp _ _ _ _ (w9.alloc (.cells #[.int .i64 c, .int .i64 n] 23))
  change Hid (ML w (w9.alloc (.cells #[.int .i64 c, .int .i64 n] 23)) _ _) at ML_A
  change Hid (VA (w9.alloc (.cells #[.int .i64 c, .int .i64 n] 23)) _ _ _) at Vpc_A
  change Hid (VA (w9.alloc (.cells #[.int .i64 c, .int .i64 n] 23)) _ _ _) at Vpa_A
  generalize w9.alloc (.cells #[.int .i64 c, .int .i64 n] 23) = wA at *
  generalize w9.heap.size = pc at *
  have cpc0 := Vpc_A.out.cell 0 (v := .int .i64 c) rfl
  have cpc1 := Vpc_A.out.cell 1 (v := .int .i64 n) rfl
  have m0 := ML_A.out.r.cell 0 (v := .int .i64 c) rfl
  have m1 := ML_A.out.r.cell 1 (v := .int .i64 n) rfl
  have cpa0 := Vpa_A.out.cell 0 (v := .int .i64 (i2 : Int)) rfl
  have cpa1 := Vpa_A.out.cell 1 (v := .int .i64 a1) rfl
  go_wp2_with fail
  refine (HWA.out _ ML_A.out.u ML_A.out.n).mono ?_
  rintro r wz ⟨rfl, bz⟩
  have BZ := (show Hid _ from ML_A.out.b.trans (bz.mono ML_A.out.b.size))
  clear bz
  go_wp2_with fail
  go_ret
  exact ⟨rfl, BZ.out⟩
end Go.Proofs.YteohncnjjgoemaaGreatDoor
