/- texts of the model: Oa Ob Oc Od -/
import Derived.Test.YtjkiplndbcmmbaaGreatDoorW23
import Derived.Test.YtjkiplndbcmmbaaGreatDoorW15
import Derived.Test.YtjkiplndbcmmbaaGreatDoorW14
import Derived.Test.YtjkiplndbcmmbaaGreatDoorW12
set_option linter.unusedVariables false
set_option linter.unusedSimpArgs false
set_option maxHeartbeats 16000000
set_option maxRecDepth 100000
namespace Go.Proofs.YtjkiplndbcmmbaaGreatDoor
open Tryz
open Go.RowKit
attribute [local go_sem] ap ai ar af ae ag aD av ax ay aN aO aP aQ aR
theorem ug (x y : Nat) : rnd false x y 0 = x / y ∧ rnd false x y 2 = x / y := by
 constructor <;> (unfold rnd; by_cases h : x % y = 0 <;> simp [away, h])
theorem ft (n : Int) (w : World) : Calls prog 125 #[.int .i64 n] w fun e w' => e = .returned (.bool (wi n (1) 1000000000000)) ∧ w' = w := by
 unfold wi
 by_cases h1 : 1 ≤ n
 ·by_cases h2 : n ≤ 1000000000000
  ·rw [show decide (1 ≤ n ∧ n ≤ 1000000000000) = true by simp; omega]
   go_enter func125, ntmps125
   go_wp2_with fail
   go_ret
   exact ⟨rfl, rfl⟩
  ·rw [show decide (1 ≤ n ∧ n ≤ 1000000000000) = false by simp; omega]
   go_enter func125, ntmps125
   go_wp2_with fail
   go_ret
   exact ⟨rfl, rfl⟩
 ·rw [show decide (1 ≤ n ∧ n ≤ 1000000000000) = false by simp; omega]
  go_enter func125, ntmps125
  go_wp2_with fail
  go_ret
  exact ⟨rfl, rfl⟩
theorem dz (n : Int) (w : World) : Calls prog 126 #[.int .i64 n] w fun e w' => e = .returned (.bool (wi n (1) 10000000000000)) ∧ w' = w := by
 unfold wi
 by_cases h1 : 1 ≤ n
 ·by_cases h2 : n ≤ 10000000000000
  ·rw [show decide (1 ≤ n ∧ n ≤ 10000000000000) = true by simp; omega]
   go_enter func126, ntmps126
   go_wp2_with fail
   go_ret
   exact ⟨rfl, rfl⟩
  ·rw [show decide (1 ≤ n ∧ n ≤ 10000000000000) = false by simp; omega]
   go_enter func126, ntmps126
   go_wp2_with fail
   go_ret
   exact ⟨rfl, rfl⟩
 ·rw [show decide (1 ≤ n ∧ n ≤ 10000000000000) = false by simp; omega]
  go_enter func126, ntmps126
  go_wp2_with fail
  go_ret
  exact ⟨rfl, rfl⟩
theorem cg (i : Nat) (w : World) (T : Cu w) (hi : i < 4) : Calls prog 124 #[.int .i64 i] w fun e w' => e = .returned (.bool true) ∧ w' = w := by
 have HT : Hid _ := T
 clear T
 go_enter func124, ntmps124
 go_wp2_with fail
 refine (gO i _ HT.out hi).mono ?_
 rintro e w1 ⟨rfl, hq⟩
 obtain rfl := hq.symm
 go_wp2_with fail
 go_ret
 exact ⟨rfl, rfl⟩
end Go.Proofs.YtjkiplndbcmmbaaGreatDoor
namespace Go.Proofs.YtjkiplndbcmmbaaGreatDoor
open Go.RowKit
attribute [local go_sem] ap ai ar af ae ag aD av ax ay aN aO aP aQ aR
def qx (r s : Nat) : Nat := r * (1000000 - s) / 1000000
end Go.Proofs.YtjkiplndbcmmbaaGreatDoor
namespace Go.Proofs.YtjkiplndbcmmbaaGreatDoor
open Tryz
open Go.RowKit
attribute [local go_sem] ap ai ar af ae ag aD av ax ay aN aO aP aQ aR
theorem lE (i : Nat) (n : Int) (w : World) (T : Cu w) (hi : i < 4) (hn : -10000000000000 ≤ n ∧ n ≤ 10000000000000) :
  Calls prog 159 #[.agg #[.int .i64 i, .int .i64 n]] w fun e w' => e = .returned (.tuple #[.agg #[.int .i64 (dhi (n)), .int .u64 (dlo (n)), .int .i64 (cdg i : Int)], .int .i64 0]) ∧ Below w.heap.size w w' := wP i n w T hi hn
theorem xQ (a d r : Nat) (hd : d ≤ 3) : mv (a : Int) d (r : Int) 9 12 0 = ((a * r * 10 ^ (3 - d) : Nat) : Int) := by
 have e := fX false (a * r) 1 (3 - d) 0 0
 rw [Nat.pow_zero, Nat.mul_one, show (((3 - d : Nat) : Int) - ((0 : Nat) : Int)) = ((12 : Nat) : Int) - d - ((9 : Nat) : Int) by omega, j0 _ _ _ _ (Nat.mod_one _), Nat.div_one] at e
 unfold mv sv
 rw [decide_eq_false (show ¬ (a : Int) < 0 by omega), decide_eq_false (show ¬ (r : Int) < 0 by omega), Int.natAbs_natCast, Int.natAbs_natCast]
 simp only [bne_self_eq_false]
 rw [← e]
 simp
def wor (i a r : Nat) : Nat := a * r * 10 ^ (3 - cdg i)
theorem jW {i a r : Nat} (ha : a ≤ 10000000000000) (hr : r ≤ 1000000000000) : wor i a r ≤ 10000000000000000000000000000 := by
 unfold wor
 have h1 : a * r ≤ 10000000000000 * 1000000000000 := Nat.mul_le_mul ha hr
 have h2 : 10 ^ (3 - cdg i) ≤ 10 ^ 3 := Nat.pow_le_pow_right (by decide) (by omega)
 have := Nat.mul_le_mul h1 h2
 omega
theorem s9 (i a r : Nat) (w : World) (T : Cu w) (hi : i < 4) (ha : a ≤ 10000000000000) (hr : r ≤ 1000000000000) :
  Calls prog 127 #[.agg (mcl i a).toArray, .int .i64 r] w fun e w' => e = .returned (.agg (dcs (wor i a r : Nat) 12).toArray) ∧ Below w.heap.size w w' := by
 have hC := jW (i := i) ha hr
 have eM := xQ a (cdg i) r (dw i)
 have hd := dw i
 obtain ⟨C, hC0⟩ : ∃ C : Int, C = ((wor i a r : Nat) : Int) := ⟨_, rfl⟩
 have iC : InR C := by rw [hC0]; exact b8 (by omega) (by omega)
 have MU0 : ∀ w, Calls prog 161 #[.agg #[.int .i64 (dhi (a : Int)), .int .u64 (dlo (a : Int)), .int .i64 (cdg i : Int)], .agg #[.int .i64 (dhi (r : Int)), .int .u64 (dlo (r : Int)), .int .i64 9], .int .i64 12, .int .i64 0] w fun e w' => e = .returned (.tuple #[.agg #[.int .i64 (dhi (C)), .int .u64 (dlo (C)), .int .i64 12], .int .i64 0]) ∧ Below w.heap.size w w' := by
  intro w
  have e : mv (a : Int) (cdg i) (r : Int) 9 12 0 = C := by rw [eM, hC0]; rfl
  have h := tD (a : Int) (r : Int) (cdg i) 9 12 0 w (b8 (by omega) (by omega)) (b8 (by omega) (by omega)) (by omega) (by decide) (by decide) (by decide) (by rw [e]; exact iC)
  rw [e] at h
  exact h
 have MU : Hid _ := MU0
 have HB : Hid _ := And.intro ha hr
 rw [← hC0]
 have VM_0 : Hid _ := (aa w (mcl i a) 195).alloc (.cells zdl.toArray 44)
 have VR_0 : Hid _ := aa (w.alloc (.cells (mcl i a).toArray 195)) zdl 44
 rw [show (w.alloc (.cells (mcl i a).toArray 195)).heap.size = w.heap.size + 1 by simp] at VR_0
 have BB_0 : Hid _ := ((Below.refl w.heap.size w).alloc (Nat.le_refl _) (.cells (mcl i a).toArray 195)).alloc (by simp) (.cells zdl.toArray 44)
 have CU_0 : Hid _ := (T.alloc (.cells (mcl i a).toArray 195)).alloc (.cells zdl.toArray 44)
 clear T MU0 iC hC0 eM hd hC ha hr
 go_enter func127, ntmps127
 go_wp2_with (refine ldA rfl 195 _ rfl w.heap.size (by rfl) (mcl i a) _ VM_0.out _ underlying195 rfl bR ?_)
 refine (lE i a _ CU_0.out hi (by have := HB.out; omega)).mono ?_
 rintro e w1 ⟨rfl, b1⟩
 have VR_1 : Hid _ := (VR_0.out).step b1
 have CU_1 : Hid _ := (CU_0.out).step b1
 have BB_1 : Hid _ := BB_0.out.trans (b1.mono BB_0.out.size)
 clear b1 VM_0 VR_0 CU_0 BB_0
 go_wp2_with fail
 refine (uK r 9 _ (by have := HB.out; omega) (by have := HB.out; omega) (by decide)).mono ?_
 rintro e w2 ⟨rfl, b2⟩
 have VR_2 : Hid _ := (VR_1.out.alloc _).step b2
 have Ax_2 : Hid _ := (dt w1 _ _ _ _).step b2
 have BB_2 : Hid _ := BB_1.out.trans ((aC b2).mono BB_1.out.size)
 clear b2 VR_1 CU_1 BB_1
 generalize w1.heap.size = px at *
 obtain ⟨x0, x1, x2, x3⟩ := Ax_2.out
 go_wp2_with fail
 refine (MU.out _).mono ?_
 rintro e w3 ⟨rfl, b3⟩
 have VR_3 : Hid _ := (VR_2.out.alloc _).step b3
 have BB_3 : Hid _ := BB_2.out.trans ((aC b3).mono BB_2.out.size)
 clear x0 x1 x2 x3 b3 VR_2 Ax_2 BB_2
 generalize w2.heap.size = py at *
 go_wp2_with (refine stA rfl 44 _ _ rfl (w.heap.size + 1) (by rfl) zdl (dcs C 12) (by rfl) 44 (VR_3.out.alloc _) aU rfl (bI _ _) ?_; intro wf vf uf)
 have hld := run_loadVar_row (P := prog) wf (w.heap.size + 1) 44 44 _ (0, 0) _ vf.blk underlying44 rfl aU
 exact bodyPost_ret (v := .agg (dcs C 12).toArray) (by simp [results, results127, asAddr, hld, Act.put]) rfl ⟨rfl, uf.bel (ao BB_3.out _) (by omega)⟩
theorem xT (a : Int) (d : Nat) (ha : 0 ≤ a) : qv a 12 1 d 12 0 = a * 10 ^ d := by
 obtain ⟨n, rfl⟩ := Int.eq_ofNat_of_zero_le ha
 have e := fX false n 1 d 0 0
 rw [Nat.pow_zero, Nat.mul_one, show ((d : Int) - ((0 : Nat) : Int)) = ((12 : Nat) : Int) + d - ((12 : Nat) : Int) by omega, j0 _ _ _ _ (Nat.mod_one _), Nat.div_one] at e
 unfold qv sv
 rw [decide_eq_false (show ¬ (n : Int) < 0 by omega), Int.natAbs_natCast]
 simp only [show decide ((1 : Int) < 0) = false from rfl, bne_self_eq_false, show (1 : Int).natAbs = 1 from rfl]
 rw [← e, Int.natCast_mul, Int.natCast_pow]
 simp
theorem fi (C : Int) (o : Nat) (G R : Int) (w : World) (T : Cu w) (ho : o < 4) (hC : 0 ≤ C ∧ C ≤ 10000000000000000000000000000) (hG : 0 ≤ G ∧ G ≤ 10000000000000)
  (hA : 0 ≤ C - G * 10 ^ (12 - cdg o)) (hA2 : C - G * 10 ^ (12 - cdg o) ≤ 1000000000000) (hR : R = (C - G * 10 ^ (12 - cdg o)) * 10 ^ cdg o) (hR2 : R ≤ 1000000000000000) :
  Calls prog 129 #[.agg (dcs C 12).toArray, .agg (mcl o G).toArray] w fun e w' => e = .returned (.agg (dcs R 12).toArray) ∧ Below w.heap.size w w' := by
 have hd := dw o
 obtain ⟨A, hA0⟩ : ∃ A, A = C - G * 10 ^ (12 - cdg o) := ⟨_, rfl⟩
 rw [← hA0] at hA hA2 hR
 have hR0 : 0 ≤ R := by rw [hR]; exact Int.mul_nonneg hA (Int.le_of_lt (uv _))
 have SU0 : ∀ w, Calls prog 163 #[.agg #[.int .i64 (dhi (C)), .int .u64 (dlo (C)), .int .i64 12], .agg #[.int .i64 (dhi (G)), .int .u64 (dlo (G)), .int .i64 (cdg o : Int)]] w fun e w' => e = .returned (.tuple #[.agg #[.int .i64 (dhi (A)), .int .u64 (dlo (A)), .int .i64 12], .int .i64 0]) ∧ Below w.heap.size w w' := by
  intro w
  have e : tv C 12 (-G) (cdg o) = A := by
   unfold tv
   rw [show max 12 (cdg o) = 12 by omega, show 12 - 12 = 0 from rfl, Int.pow_zero, Int.mul_one, Int.neg_mul, hA0]
   omega
  have h := ut C G 12 (cdg o) w (b8 hC.1 (by omega)) (b8 hG.1 (by omega)) (by decide) (by omega) (by rw [e]; exact b8 hA (by omega))
  rw [e, show max 12 (cdg o) = 12 by omega] at h
  exact h
 have QU0 : ∀ w, Calls prog 164 #[.agg #[.int .i64 (dhi (A)), .int .u64 (dlo (A)), .int .i64 12], .agg #[.int .i64 (dhi (1 : Int)), .int .u64 (dlo (1 : Int)), .int .i64 (cdg o : Int)], .int .i64 12, .int .i64 0] w fun e w' => e = .returned (.tuple #[.agg #[.int .i64 (dhi (R)), .int .u64 (dlo (R)), .int .i64 12], .int .i64 0]) ∧ Below w.heap.size w w' := by
  intro w
  have e : qv A 12 1 (cdg o) 12 0 = R := by rw [xT A _ hA, hR]
  have h := qf A 1 12 (cdg o) 12 0 w (b8 hA (by omega)) (b8 (by decide) (by decide)) (by decide) (by omega) (by decide) (by decide) (by decide) (by rw [e]; exact b8 hR0 (by omega))
  rw [e] at h
  exact h
 have SU : Hid _ := SU0
 have QU : Hid _ := QU0
 have HB : Hid _ := hG
 have BX := (Below.refl w.heap.size w).alloc (Nat.le_refl _) (.cells (dcs C 12).toArray 44)
 have VU_0 : Hid _ := ((aa w (dcs C 12) 44).alloc (.cells (mcl o G).toArray 195)).alloc (.cells zdl.toArray 44)
 have VG_0 : Hid _ := (aa (w.alloc (.cells (dcs C 12).toArray 44)) (mcl o G) 195).alloc (.cells zdl.toArray 44)
 have VR_0 : Hid _ := aa ((w.alloc (.cells (dcs C 12).toArray 44)).alloc (.cells (mcl o G).toArray 195)) zdl 44
 rw [show ((w.alloc (.cells (dcs C 12).toArray 44)).alloc (.cells (mcl o G).toArray 195)).heap.size = w.heap.size + 1 + 1 by simp] at VR_0
 rw [show (w.alloc (.cells (dcs C 12).toArray 44)).heap.size = w.heap.size + 1 by simp] at VG_0
 have BB_0 : Hid _ := (BX.alloc BX.size (.cells (mcl o G).toArray 195)).alloc (by simp; omega) (.cells zdl.toArray 44)
 have CU_0 : Hid _ := ((T.alloc (.cells (dcs C 12).toArray 44)).alloc (.cells (mcl o G).toArray 195)).alloc (.cells zdl.toArray 44)
 clear T SU0 QU0 BX hA0 hA hA2 hR hR2 hR0 hd hC hG
 go_enter func129, ntmps129
 go_wp2_with (refine ldA rfl 195 _ rfl (w.heap.size + 1) (by rfl) (mcl o G) _ VG_0.out _ underlying195 rfl bR ?_)
 refine (lE o G _ CU_0.out ho (by have := HB.out; omega)).mono ?_
 rintro e w1 ⟨rfl, b1⟩
 have VU_1 : Hid _ := (VU_0.out).step b1
 have VG_1 : Hid _ := (VG_0.out).step b1
 have VR_1 : Hid _ := (VR_0.out).step b1
 have CU_1 : Hid _ := (CU_0.out).step b1
 have BB_1 : Hid _ := BB_0.out.trans (b1.mono BB_0.out.size)
 clear b1 VU_0 VG_0 VR_0 CU_0 BB_0
 have g0 := VG_1.out.cell 0 (v := .int .i64 (o : Int)) rfl
 have gl := VG_1.out.lt
 go_wp2_with fail
 refine (lE o 1 _ (CU_1.out.alloc _) ho (by decide)).mono ?_
 rintro e w2 ⟨rfl, b2⟩
 have VU_2 : Hid _ := (VU_1.out.alloc _).step b2
 have VR_2 : Hid _ := (VR_1.out.alloc _).step b2
 have Ax_2 : Hid _ := (dt w1 _ _ _ _).step b2
 have BB_2 : Hid _ := BB_1.out.trans ((aC b2).mono BB_1.out.size)
 clear b2 VU_1 VG_1 VR_1 CU_1 BB_1
 generalize w1.heap.size = px at *
 clear g0 gl
 obtain ⟨x0, x1, x2, x3⟩ := Ax_2.out
 have u0 := VU_2.out.cell 0 (v := .int .i64 (dhi C)) rfl
 have u1 := VU_2.out.cell 1 (v := .int .u64 (dlo C)) rfl
 have u2 := VU_2.out.cell 2 (v := .int .i64 12) rfl
 have ul := VU_2.out.lt
 go_wp2_with fail
 clear u0 u1 u2 ul
 refine (SU.out _).mono ?_
 rintro e w3 ⟨rfl, b3⟩
 have VR_3 : Hid _ := (VR_2.out.alloc _).step b3
 have Ay_3 : Hid _ := (dt w2 _ _ _ _).step b3
 have BB_3 : Hid _ := BB_2.out.trans ((aC b3).mono BB_2.out.size)
 clear x0 x1 x2 x3 b3 VU_2 VR_2 Ax_2 BB_2
 generalize w2.heap.size = py at *
 obtain ⟨y0, y1, y2, y3⟩ := Ay_3.out
 go_wp2_with fail
 refine (QU.out _).mono ?_
 rintro e w4 ⟨rfl, b4⟩
 have VR_4 : Hid _ := (VR_3.out.alloc _).step b4
 have BB_4 : Hid _ := BB_3.out.trans ((aC b4).mono BB_3.out.size)
 clear y0 y1 y2 y3 b4 VR_3 Ay_3 BB_3
 generalize w3.heap.size = pz at *
 go_wp2_with (refine stA rfl 44 _ _ rfl (w.heap.size + 1 + 1) (by rfl) zdl (dcs R 12) (by rfl) 44 (VR_4.out.alloc _) aU rfl (bI _ _) ?_; intro wf vf uf)
 have hld := run_loadVar_row (P := prog) wf (w.heap.size + 1 + 1) 44 44 _ (0, 0) _ vf.blk underlying44 rfl aU
 exact bodyPost_ret (v := .agg (dcs R 12).toArray) (by simp [results, results129, asAddr, hld, Act.put]) rfl ⟨rfl, uf.bel (ao BB_4.out _) (by omega)⟩
def gt (o C : Nat) : Nat := C / 10 ^ (12 - cdg o)
def rsd (o C : Nat) : Nat := C % 10 ^ (12 - cdg o) * 10 ^ cdg o
theorem uM (o : Nat) : 10 ^ (12 - cdg o) * 10 ^ cdg o = 1000000000000 := by
 have := dw o
 rw [← Nat.pow_add, show 12 - cdg o + cdg o = 12 by omega]
theorem rB (o C : Nat) : rv (C : Int) 12 (cdg o) 2 = ((gt o C : Nat) : Int) := by
 have e := fX false C 1 (cdg o) 12 2
 rw [Nat.one_mul, (ug _ _).2] at e
 have hd := dw o
 unfold rv sv
 rw [decide_eq_false (show ¬ (C : Int) < 0 by omega), Int.natAbs_natCast]
 simp only [Bool.false_eq_true, if_false]
 rw [show (((cdg o : Nat) : Int) - ((12 : Nat) : Int)) = ((cdg o : Nat) : Int) - ((12 : Nat) : Int) from rfl, ← e]
 unfold gt
 rw [show (10 : Nat) ^ 12 = 10 ^ (12 - cdg o) * 10 ^ cdg o by rw [uM], Nat.mul_div_mul_right _ _ (Nat.pow_pos (by decide))]
theorem jK (o C : Nat) : rsd o C ≤ 1000000000000 ∧ C % 10 ^ (12 - cdg o) ≤ 1000000000000 := by
 have h1 := Nat.mod_lt C (Nat.pow_pos (n := 12 - cdg o) (show 0 < 10 by decide))
 have h2 := uM o
 have h3 : C % 10 ^ (12 - cdg o) * 10 ^ cdg o ≤ 10 ^ (12 - cdg o) * 10 ^ cdg o := Nat.mul_le_mul_right _ (Nat.le_of_lt h1)
 have h4 : 10 ^ (12 - cdg o) ≤ 10 ^ 12 := Nat.pow_le_pow_right (by decide) (by omega)
 unfold rsd
 omega
theorem lZ (o C : Nat) : (C : Int) - ((gt o C : Nat) : Int) * 10 ^ (12 - cdg o) = ((C % 10 ^ (12 - cdg o) : Nat) : Int) := by
 have e := Nat.div_add_mod C (10 ^ (12 - cdg o))
 have e2 : ((10 ^ (12 - cdg o) : Nat) : Int) = (10 : Int) ^ (12 - cdg o) := by rw [Int.natCast_pow]; rfl
 unfold gt
 have e3 : (C : Int) = (10 : Int) ^ (12 - cdg o) * ((C / 10 ^ (12 - cdg o) : Nat) : Int) + ((C % 10 ^ (12 - cdg o) : Nat) : Int) := by rw [← e2, ← Int.natCast_mul, ← Int.natCast_add, e]
 rw [Int.mul_comm]
 omega
theorem gc (i a r : Nat) (w : World) (T : Cu w) (hi : i < 4) (ha : a ≤ 10000000000000) (hr : r ≤ 1000000000000) :
  Calls prog 127 #[.agg #[.int .i64 i, .int .i64 a], .int .i64 r] w fun e w' => e = .returned (.agg #[.int .i64 (dhi ((wor i a r : Nat) : Int)), .int .u64 (dlo ((wor i a r : Nat) : Int)), .int .i64 12]) ∧ Below w.heap.size w w' := s9 i a r w T hi ha hr
theorem lS (i o r a : Nat) (w : World) (T : Cu w) (hi : i < 4) (ho : o < 4) (hr : 1 ≤ r ∧ r ≤ 1000000000000) (ha : 1 ≤ a ∧ a ≤ 10000000000000) (hG : ¬ gt o (wor i a r) ≤ 10000000000000) :
  Calls prog 75 #[.int .i64 i, .int .i64 o, .int .i64 r, .int .i64 a] w fun e w' => e = .returned (.tuple #[.int .i64 0, .agg zdl.toArray, .int .i64 4]) ∧ Below w.heap.size w w' := by
 have wr : wi r 1 1000000000000 = true := br (by omega) (by omega)
 have wa : wi a 1 10000000000000 = true := br (by omega) (by omega)
 have hC := jW (i := i) ha.2 hr.2
 obtain ⟨C, hC0⟩ : ∃ C, C = wor i a r := ⟨_, rfl⟩
 have WO0 : ∀ w, Cu w → Calls prog 127 #[.agg #[.int .i64 i, .int .i64 a], .int .i64 r] w fun e w' => e = .returned (.agg #[.int .i64 (dhi (C : Int)), .int .u64 (dlo (C : Int)), .int .i64 12]) ∧ Below w.heap.size w w' := by
  intro w T
  have h := gc i a r w T hi ha.2 hr.2
  rw [← hC0] at h
  exact h
 rw [← hC0] at hG hC
 clear hC0
 have eR := rB o C
 have eS := lZ o C
 have bS := jK o C
 have eR2 : ((rsd o C : Nat) : Int) = ((C : Int) - ((gt o C : Nat) : Int) * 10 ^ (12 - cdg o)) * 10 ^ cdg o := by
  rw [eS]; unfold rsd; rw [Int.natCast_mul, Int.natCast_pow]; rfl
 generalize rsd o C = Rs at *
 obtain ⟨G, hG0⟩ : ∃ G, G = gt o C := ⟨_, rfl⟩
 rw [← hG0] at eR eS eR2 hG
 have hGle : G ≤ 1000000000000000000000000000000 := by rw [hG0]; unfold gt; exact Nat.le_trans (Nat.div_le_self _ _) (by omega)
 clear hG0
 have iC : InR (C : Int) := b8 (by omega) (by omega)
 have iG : InR (G : Int) := b8 (by omega) (by omega)
 have MO0 : ∀ w, Cu w → Calls prog 128 #[.agg #[.int .i64 (dhi (C : Int)), .int .u64 (dlo (C : Int)), .int .i64 12], .int .i64 o, .int .i64 2] w fun e w' => e = .returned (.tuple #[.agg #[.int .i64 0, .int .i64 0], .int .i64 4]) ∧ Below w.heap.size w w' := fun w T =>
  uS (C : Int) 12 o 2 (G : Int) w T iC (by decide) ho (by decide) eR.symm iG (by omega)
 have RS0 : ∀ w, Cu w → G ≤ 10000000000000 → Calls prog 129 #[.agg #[.int .i64 (dhi (C : Int)), .int .u64 (dlo (C : Int)), .int .i64 12], .agg #[.int .i64 o, .int .i64 G]] w fun e w' => e = .returned (.agg (dcs (Rs : Int) 12).toArray) ∧ Below w.heap.size w w' := fun w T hG =>
  fi (C : Int) o (G : Int) (Rs : Int) w T ho ⟨by omega, by omega⟩ ⟨by omega, by omega⟩ (by rw [eS]; omega) (by rw [eS]; omega) eR2 (by omega)
 have WO : Hid _ := WO0
 have MO : Hid _ := MO0
 have RS : Hid _ := RS0
 have HG : Hid _ := hG
 have VR_0 : Hid _ := aa w zdl 44
 have BB_0 : Hid _ := (Below.refl w.heap.size w).alloc (Nat.le_refl _) (.cells zdl.toArray 44)
 have CU_0 : Hid _ := T.alloc (.cells zdl.toArray 44)
 have hp : 0 < w.heap.size := T.lt
 clear T WO0 MO0 RS0 eR eS eR2 iC iG hG hC hGle bS hr ha
 go_enter func75, ntmps75
 go_wp2_with fail
 refine (cg i _ CU_0.out hi).mono ?_
 rintro e w7 ⟨rfl, hq⟩
 obtain rfl := hq.symm
 go_wp2_with fail
 refine (cg o _ CU_0.out ho).mono ?_
 rintro e w7 ⟨rfl, hq⟩
 obtain rfl := hq.symm
 go_wp2_with fail
 refine (ft r _).mono ?_
 rintro e w7 ⟨rfl, hq⟩
 obtain rfl := hq.symm
 rw [wr]
 go_wp2_with fail
 refine (dz a _).mono ?_
 rintro e w7 ⟨rfl, hq⟩
 obtain rfl := hq.symm
 rw [wa]
 clear wr wa
 go_wp2_with fail
 refine (WO.out _ CU_0.out).mono ?_
 rintro e w1 ⟨rfl, b1⟩
 have VR_1 : Hid _ := VR_0.out.step b1
 have CU_1 : Hid _ := CU_0.out.step b1
 have BB_1 : Hid _ := BB_0.out.trans (b1.mono BB_0.out.size)
 clear b1 VR_0 CU_0 BB_0
 go_wp2_with fail
 refine (MO.out _ (CU_1.out.alloc _)).mono ?_
 rintro e w2 ⟨rfl, b2⟩
 have VU_2 : Hid _ := (aa w1 (dcs (C : Int) 12) 44).step b2
 have VR_2 : Hid _ := (VR_1.out.alloc (.cells (dcs (C : Int) 12).toArray 44)).step b2
 have CU_2 : Hid _ := (CU_1.out.alloc (.cells (dcs (C : Int) 12).toArray 44)).step b2
 have BB_2 : Hid _ := BB_1.out.trans ((aC b2).mono BB_1.out.size)
 have HL : Hid (w.heap.size < w1.heap.size) := VR_1.out.lt
 clear b2 VR_1 CU_1 BB_1 WO MO
 generalize w1.heap.size = pu at *
 have VR_3 : Hid _ := VR_2.out.alloc (.cells (mcl 0 0).toArray 195)
 have BB_3 : Hid _ := BB_2.out.alloc BB_2.out.size (.cells (mcl 0 0).toArray 195)
 go_wp2_with (refine stA rfl 44 _ _ rfl w.heap.size (by rfl) zdl zdl (by rfl) 44 VR_3.out aU rfl (by decide) ?_; intro wf vf uf)
 have hld := run_loadVar_row (P := prog) wf w.heap.size 44 44 _ (0, 0) _ vf.blk underlying44 rfl aU
 exact bodyPost_ret (v := .tuple #[.int .i64 0, .agg zdl.toArray, .int .i64 4]) (by simp [results, results75, asAddr, hld]) rfl ⟨rfl, uf.bel BB_3.out (Nat.le_refl _)⟩
theorem qa (i o r a : Nat) (w : World) (T : Cu w) (hi : i < 4) (ho : o < 4) (hr : 1 ≤ r ∧ r ≤ 1000000000000) (ha : 1 ≤ a ∧ a ≤ 10000000000000) (hG : gt o (wor i a r) ≤ 10000000000000) (hio : i = o) :
  Calls prog 75 #[.int .i64 i, .int .i64 o, .int .i64 r, .int .i64 a] w fun e w' => e = .returned (.tuple #[.int .i64 0, .agg zdl.toArray, .int .i64 10]) ∧ Below w.heap.size w w' := by
 subst hio
 have wr : wi r 1 1000000000000 = true := br (by omega) (by omega)
 have wa : wi a 1 10000000000000 = true := br (by omega) (by omega)
 have hC := jW (i := i) ha.2 hr.2
 obtain ⟨C, hC0⟩ : ∃ C, C = wor i a r := ⟨_, rfl⟩
 have WO0 : ∀ w, Cu w → Calls prog 127 #[.agg #[.int .i64 i, .int .i64 a], .int .i64 r] w fun e w' => e = .returned (.agg #[.int .i64 (dhi (C : Int)), .int .u64 (dlo (C : Int)), .int .i64 12]) ∧ Below w.heap.size w w' := by
  intro w T
  have h := gc i a r w T hi ha.2 hr.2
  rw [← hC0] at h
  exact h
 rw [← hC0] at hG hC
 clear hC0
 have eR := rB i C
 have eS := lZ i C
 have bS := jK i C
 have eR2 : ((rsd i C : Nat) : Int) = ((C : Int) - ((gt i C : Nat) : Int) * 10 ^ (12 - cdg i)) * 10 ^ cdg i := by
  rw [eS]; unfold rsd; rw [Int.natCast_mul, Int.natCast_pow]; rfl
 generalize rsd i C = Rs at *
 obtain ⟨G, hG0⟩ : ∃ G, G = gt i C := ⟨_, rfl⟩
 rw [← hG0] at eR eS eR2 hG
 have hGle : G ≤ 1000000000000000000000000000000 := by rw [hG0]; unfold gt; exact Nat.le_trans (Nat.div_le_self _ _) (by omega)
 clear hG0
 have iC : InR (C : Int) := b8 (by omega) (by omega)
 have iG : InR (G : Int) := b8 (by omega) (by omega)
 have MO0 : ∀ w, Cu w → Calls prog 128 #[.agg #[.int .i64 (dhi (C : Int)), .int .u64 (dlo (C : Int)), .int .i64 12], .int .i64 i, .int .i64 2] w fun e w' => e = .returned (.tuple #[.agg #[.int .i64 i, .int .i64 G], .int .i64 0]) ∧ Below w.heap.size w w' := fun w T =>
  mE (C : Int) 12 i 2 (G : Int) w T iC (by decide) hi (by decide) eR.symm iG (by omega)
 have RS0 : ∀ w, Cu w → G ≤ 10000000000000 → Calls prog 129 #[.agg #[.int .i64 (dhi (C : Int)), .int .u64 (dlo (C : Int)), .int .i64 12], .agg #[.int .i64 i, .int .i64 G]] w fun e w' => e = .returned (.agg (dcs (Rs : Int) 12).toArray) ∧ Below w.heap.size w w' := fun w T hG =>
  fi (C : Int) i (G : Int) (Rs : Int) w T hi ⟨by omega, by omega⟩ ⟨by omega, by omega⟩ (by rw [eS]; omega) (by rw [eS]; omega) eR2 (by omega)
 have WO : Hid _ := WO0
 have MO : Hid _ := MO0
 have RS : Hid _ := RS0
 have HG : Hid _ := hG
 have VR_0 : Hid _ := aa w zdl 44
 have BB_0 : Hid _ := (Below.refl w.heap.size w).alloc (Nat.le_refl _) (.cells zdl.toArray 44)
 have CU_0 : Hid _ := T.alloc (.cells zdl.toArray 44)
 have hp : 0 < w.heap.size := T.lt
 clear T WO0 MO0 RS0 eR eS eR2 iC iG hG hC hGle bS hr ha
 go_enter func75, ntmps75
 go_wp2_with fail
 refine (cg i _ CU_0.out hi).mono ?_
 rintro e w7 ⟨rfl, hq⟩
 obtain rfl := hq.symm
 go_wp2_with fail
 refine (cg i _ CU_0.out hi).mono ?_
 rintro e w7 ⟨rfl, hq⟩
 obtain rfl := hq.symm
 go_wp2_with fail
 refine (ft r _).mono ?_
 rintro e w7 ⟨rfl, hq⟩
 obtain rfl := hq.symm
 rw [wr]
 go_wp2_with fail
 refine (dz a _).mono ?_
 rintro e w7 ⟨rfl, hq⟩
 obtain rfl := hq.symm
 rw [wa]
 clear wr wa
 go_wp2_with fail
 refine (WO.out _ CU_0.out).mono ?_
 rintro e w1 ⟨rfl, b1⟩
 have VR_1 : Hid _ := VR_0.out.step b1
 have CU_1 : Hid _ := CU_0.out.step b1
 have BB_1 : Hid _ := BB_0.out.trans (b1.mono BB_0.out.size)
 clear b1 VR_0 CU_0 BB_0
 go_wp2_with fail
 refine (MO.out _ (CU_1.out.alloc _)).mono ?_
 rintro e w2 ⟨rfl, b2⟩
 have VU_2 : Hid _ := (aa w1 (dcs (C : Int) 12) 44).step b2
 have VR_2 : Hid _ := (VR_1.out.alloc (.cells (dcs (C : Int) 12).toArray 44)).step b2
 have CU_2 : Hid _ := (CU_1.out.alloc (.cells (dcs (C : Int) 12).toArray 44)).step b2
 have BB_2 : Hid _ := BB_1.out.trans ((aC b2).mono BB_1.out.size)
 have HL : Hid (w.heap.size < w1.heap.size) := VR_1.out.lt
 clear b2 VR_1 CU_1 BB_1 WO MO
 generalize w1.heap.size = pu at *
 have hio2 : ((i : Int) == (i : Int)) = true := beq_self_eq_true _
 have VR_3 : Hid _ := VR_2.out.alloc (.cells (mcl i G).toArray 195)
 have BB_3 : Hid _ := BB_2.out.alloc BB_2.out.size (.cells (mcl i G).toArray 195)
 go_wp2_with (refine stA rfl 44 _ _ rfl w.heap.size (by rfl) zdl zdl (by rfl) 44 VR_3.out aU rfl (by decide) ?_; intro wf vf uf)
 have hld := run_loadVar_row (P := prog) wf w.heap.size 44 44 _ (0, 0) _ vf.blk underlying44 rfl aU
 exact bodyPost_ret (v := .tuple #[.int .i64 0, .agg zdl.toArray, .int .i64 10]) (by simp [results, results75, asAddr, hld]) rfl ⟨rfl, uf.bel BB_3.out (Nat.le_refl _)⟩
theorem qb (i o r a : Nat) (w : World) (T : Cu w) (hi : i < 4) (ho : o < 4) (hr : 1 ≤ r ∧ r ≤ 1000000000000) (ha : 1 ≤ a ∧ a ≤ 10000000000000) (hG : gt o (wor i a r) ≤ 10000000000000) (hio : i ≠ o) :
  Calls prog 75 #[.int .i64 i, .int .i64 o, .int .i64 r, .int .i64 a] w fun e w' => e = .returned (.tuple #[.int .i64 (gt o (wor i a r) : Nat), .agg (dcs (rsd o (wor i a r) : Nat) 12).toArray, .int .i64 0]) ∧ Below w.heap.size w w' := by
 have wr : wi r 1 1000000000000 = true := br (by omega) (by omega)
 have wa : wi a 1 10000000000000 = true := br (by omega) (by omega)
 have hC := jW (i := i) ha.2 hr.2
 obtain ⟨C, hC0⟩ : ∃ C, C = wor i a r := ⟨_, rfl⟩
 have WO0 : ∀ w, Cu w → Calls prog 127 #[.agg #[.int .i64 i, .int .i64 a], .int .i64 r] w fun e w' => e = .returned (.agg #[.int .i64 (dhi (C : Int)), .int .u64 (dlo (C : Int)), .int .i64 12]) ∧ Below w.heap.size w w' := by
  intro w T
  have h := gc i a r w T hi ha.2 hr.2
  rw [← hC0] at h
  exact h
 rw [← hC0] at hG hC ⊢
 clear hC0
 have eR := rB o C
 have eS := lZ o C
 have bS := jK o C
 have eR2 : ((rsd o C : Nat) : Int) = ((C : Int) - ((gt o C : Nat) : Int) * 10 ^ (12 - cdg o)) * 10 ^ cdg o := by
  rw [eS]; unfold rsd; rw [Int.natCast_mul, Int.natCast_pow]; rfl
 generalize rsd o C = Rs at *
 obtain ⟨G, hG0⟩ : ∃ G, G = gt o C := ⟨_, rfl⟩
 rw [← hG0] at eR eS eR2 hG ⊢
 have hGle : G ≤ 1000000000000000000000000000000 := by rw [hG0]; unfold gt; exact Nat.le_trans (Nat.div_le_self _ _) (by omega)
 clear hG0
 have iC : InR (C : Int) := b8 (by omega) (by omega)
 have iG : InR (G : Int) := b8 (by omega) (by omega)
 have MO0 : ∀ w, Cu w → Calls prog 128 #[.agg #[.int .i64 (dhi (C : Int)), .int .u64 (dlo (C : Int)), .int .i64 12], .int .i64 o, .int .i64 2] w fun e w' => e = .returned (.tuple #[.agg #[.int .i64 o, .int .i64 G], .int .i64 0]) ∧ Below w.heap.size w w' := fun w T =>
  mE (C : Int) 12 o 2 (G : Int) w T iC (by decide) ho (by decide) eR.symm iG (by omega)
 have RS0 : ∀ w, Cu w → G ≤ 10000000000000 → Calls prog 129 #[.agg #[.int .i64 (dhi (C : Int)), .int .u64 (dlo (C : Int)), .int .i64 12], .agg #[.int .i64 o, .int .i64 G]] w fun e w' => e = .returned (.agg (dcs (Rs : Int) 12).toArray) ∧ Below w.heap.size w w' := fun w T hG =>
  fi (C : Int) o (G : Int) (Rs : Int) w T ho ⟨by omega, by omega⟩ ⟨by omega, by omega⟩ (by rw [eS]; omega) (by rw [eS]; omega) eR2 (by omega)
 have WO : Hid _ := WO0
 have MO : Hid _ := MO0
 have RS : Hid _ := RS0
 have HG : Hid _ := hG
 have VR_0 : Hid _ := aa w zdl 44
 have BB_0 : Hid _ := (Below.refl w.heap.size w).alloc (Nat.le_refl _) (.cells zdl.toArray 44)
 have CU_0 : Hid _ := T.alloc (.cells zdl.toArray 44)
 have hp : 0 < w.heap.size := T.lt
 clear T WO0 MO0 RS0 eR eS eR2 iC iG hG hC hGle bS hr ha
 go_enter func75, ntmps75
 go_wp2_with fail
 refine (cg i _ CU_0.out hi).mono ?_
 rintro e w7 ⟨rfl, hq⟩
 obtain rfl := hq.symm
 go_wp2_with fail
 refine (cg o _ CU_0.out ho).mono ?_
 rintro e w7 ⟨rfl, hq⟩
 obtain rfl := hq.symm
 go_wp2_with fail
 refine (ft r _).mono ?_
 rintro e w7 ⟨rfl, hq⟩
 obtain rfl := hq.symm
 rw [wr]
 go_wp2_with fail
 refine (dz a _).mono ?_
 rintro e w7 ⟨rfl, hq⟩
 obtain rfl := hq.symm
 rw [wa]
 clear wr wa
 go_wp2_with fail
 refine (WO.out _ CU_0.out).mono ?_
 rintro e w1 ⟨rfl, b1⟩
 have VR_1 : Hid _ := VR_0.out.step b1
 have CU_1 : Hid _ := CU_0.out.step b1
 have BB_1 : Hid _ := BB_0.out.trans (b1.mono BB_0.out.size)
 clear b1 VR_0 CU_0 BB_0
 go_wp2_with fail
 refine (MO.out _ (CU_1.out.alloc _)).mono ?_
 rintro e w2 ⟨rfl, b2⟩
 have VU_2 : Hid _ := (aa w1 (dcs (C : Int) 12) 44).step b2
 have VR_2 : Hid _ := (VR_1.out.alloc (.cells (dcs (C : Int) 12).toArray 44)).step b2
 have CU_2 : Hid _ := (CU_1.out.alloc (.cells (dcs (C : Int) 12).toArray 44)).step b2
 have BB_2 : Hid _ := BB_1.out.trans ((aC b2).mono BB_1.out.size)
 have HL : Hid (w.heap.size < w1.heap.size) := VR_1.out.lt
 clear b2 VR_1 CU_1 BB_1 WO MO
 generalize w1.heap.size = pu at *
 have hio2 : ((i : Int) == (o : Int)) = false := by rw [beq_eq_false_iff_ne]; omega
 go_upto_region 9 with fail
 clear hio2
 change Code.wp _ _ _ _ (w2.alloc (.cells (mcl o G).toArray 195))
 have VG_3 : Hid _ := aa w2 (mcl o G) 195
 have VU_3 : Hid _ := VU_2.out.alloc (.cells (mcl o G).toArray 195)
 have VR_3 : Hid _ := VR_2.out.alloc (.cells (mcl o G).toArray 195)
 have CU_3 : Hid _ := CU_2.out.alloc (.cells (mcl o G).toArray 195)
 have BB_3 : Hid _ := BB_2.out.alloc BB_2.out.size (.cells (mcl o G).toArray 195)
 have HL2 : Hid (pu < w2.heap.size) := VU_2.out.lt
 clear VU_2 VR_2 CU_2 BB_2
 generalize w2.alloc (.cells (mcl o G).toArray 195) = w3 at *
 generalize w2.heap.size = pg at *
 refine wp_region_noPanic ?_
 refine wp_region_held_drew (S := fun w' => VA w' pu (dcs (C : Int) 12) 44 ∧ VA w' pg (mcl o G) 195) (by kernel_rfl) ⟨VU_3.out.drew, VG_3.out.drew⟩ (fun hh_ => ?_)
 refine tL 0 52 (.pointer (some ⟨pg, 1, none⟩)) ?_ ?_
 ·intro wq hS
  go_simp
 try simp only [nrm]
 refine tL 1 53 (.int .i64 (G : Int)) ?_ ?_
 ·intro wq hS
  have h1 := hS.2.cell 1 (v := .int .i64 (G : Int)) rfl
  go_simp
 try simp only [nrm]
 refine tL 2 54 (.agg #[.int .i64 (dhi (C : Int)), .int .u64 (dlo (C : Int)), .int .i64 12]) ?_ ?_
 ·intro wq hS
  have h0 := hS.1.cell 0 (v := .int .i64 (dhi (C : Int))) rfl
  have h1 := hS.1.cell 1 (v := .int .u64 (dlo (C : Int))) rfl
  have h2 := hS.1.cell 2 (v := .int .i64 12) rfl
  go_simp
 try simp only [nrm]
 refine tL 3 55 (.agg #[.int .i64 o, .int .i64 G]) ?_ ?_
 ·intro wq hS
  have h0 := hS.2.cell 0 (v := .int .i64 (o : Int)) rfl
  have h1 := hS.2.cell 1 (v := .int .i64 (G : Int)) rfl
  go_simp
 try simp only [nrm]
 clear hh_
 have VU_z : Hid _ := VU_3.out.drew
 have VG_z : Hid _ := VG_3.out.drew
 have VR_z : Hid _ := VR_3.out.drew
 have CU_z : Hid _ := CU_3.out.drew
 have BB_z : Hid _ := BB_3.out.drew
 clear VU_3 VG_3 VR_3 CU_3 BB_3
 generalize w3.drew = wz at *
 refine rdy 4 (fun K hK => ?_)
 go_simp
 refine (RS.out _ CU_z.out HG.out).mono ?_
 rintro e w4 ⟨rfl, b4⟩
 have VU_4 : Hid _ := VU_z.out.step b4
 have VG_4 : Hid _ := VG_z.out.step b4
 have VR_4 : Hid _ := VR_z.out.step b4
 have BB_4 : Hid _ := BB_z.out.trans (b4.mono BB_z.out.size)
 clear b4
 go_wp2_with fail
 refine hK.out _ _ (⟨VU_4.out, VG_4.out⟩) (fun hh_ => ?_)
 try simp only [nrm]
 clear hK K VU_z VG_z VR_z CU_z BB_z
 refine tL 5 8 (.int .i64 (G : Int)) ?_ ?_
 ·intro wq hS
  go_simp
 try simp only [nrm]
 clear hh_
 refine rdy 6 (fun K hK => ?_)
 refine dW (by rfl) (by rfl) 44 _ _ (by rfl) w.heap.size (by rfl) zdl (dcs (Rs : Int) 12) (by rfl) 44 VR_4.out aU rfl (bI _ _) ?_
 intro wf vf uf
 refine hK.out _ _ ⟨VU_4.out.upd uf (by have := HL.out; omega), VG_4.out.upd uf (by have := HL.out; have := HL2.out; omega)⟩ (fun hh_ => ?_)
 clear hK K
 refine tL 7 10 (.int .i64 0) ?_ ?_
 ·intro wq hS
  go_simp
 try simp only [nrm]
 clear hh_
 refine dN ?_
 have BB_3 := BB_4
 go_wp2_with fail
 have hld := run_loadVar_row (P := prog) wf w.heap.size 44 44 _ (0, 0) _ vf.blk underlying44 rfl aU
 exact bodyPost_ret (v := .tuple #[.int .i64 (G : Int), .agg (dcs (Rs : Int) 12).toArray, .int .i64 0]) (by simp [results, results75, asAddr, hld]) rfl ⟨rfl, uf.bel BB_3.out (Nat.le_refl _)⟩
end Go.Proofs.YtjkiplndbcmmbaaGreatDoor