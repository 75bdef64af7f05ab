/- fx: the contracts of worth and residue. -/
import Derived.Test.YtkndnpkpdchbiaaDoorOb
namespace Go.Proofs.YtkndnpkpdchbiaaDoor
open Go.RowKit
set_option linter.unusedVariables false
attribute [local go_sem] ext_cell ext_frozen ext_drew ext_of_drew ext_of_drewN ext_setCell ext_lt ext_lt1 ext_lt2 ext_lt3 lt_n2 lt_n3 lt_n4 lt_n5 lt_n6

theorem To_lit (i : Nat) (n : Int) (w : World) (T : Cu w) (hi : i < 4) (hn : -10000000000000 ≤ n ∧ n ≤ 10000000000000) :
    Calls Tryd.prog 30 #[.agg #[.int .i64 i, .int .i64 n]] w fun e w' => e = .returned (.tuple #[.agg #[.int .i64 (dhi (n)), .int .u64 (dlo (n)), .int .i64 (cdg i : Int)], .int .i64 0]) ∧ Below w.heap.size w w' := To_ok i n w T hi hn
theorem At3.hid {w : World} {b : Nat} {x y z : Value} (h : At3 w b x y z) : At3 w b x y z := h
theorem mv_up (a d r : Nat) (hd : d ≤ 3) : mv (a : Int) d (r : Int) 9 12 0 = ((a * r * 10 ^ (3 - d) : Nat) : Int) := by
  have e := rnd_shift false (a * r) 1 (3 - d) 0 0
  rw [Nat.pow_zero, Nat.mul_one, show (((3 - d : Nat) : Int) - ((0 : Nat) : Int)) = ((12 : Nat) : Int) - d - ((9 : Nat) : Int) by omega, rnd_exact _ _ _ _ (Nat.mod_one _), Nat.div_one] at e
  unfold mv sv
  rw [decide_eq_false (show ¬ (a : Int) < 0 by omega), decide_eq_false (show ¬ (r : Int) < 0 by omega), Int.natAbs_natCast, Int.natAbs_natCast]
  simp only [bne_self_eq_false]
  rw [← e]
  simp
/-- what an amount is worth, in 10^-12 units -/
def wor (i a r : Nat) : Nat := a * r * 10 ^ (3 - cdg i)
theorem wor_bd {i a r : Nat} (ha : a ≤ 10000000000000) (hr : r ≤ 1000000000000) : wor i a r ≤ 10000000000000000000000000000 := by
  unfold wor
  have h1 : a * r ≤ 10000000000000 * 1000000000000 := Nat.mul_le_mul ha hr
  have h2 : 10 ^ (3 - cdg i) ≤ 10 ^ 3 := Nat.pow_le_pow_right (by decide) (by omega)
  have := Nat.mul_le_mul h1 h2
  omega
set_option maxHeartbeats 1000000 in
set_option maxRecDepth 100000 in
theorem worth_ok (i a r : Nat) (w : World) (T : Cu w) (hi : i < 4) (ha : a ≤ 10000000000000) (hr : r ≤ 1000000000000) :
    Calls Tryd.prog 18 #[.agg (mcl i a).toArray, .int .i64 r] w fun e w' => e = .returned (.agg (dcs (wor i a r : Nat) 12).toArray) ∧ Below w.heap.size w w' := by
  have hC := wor_bd (i := i) ha hr
  have eM := mv_up a (cdg i) r (cdg_le i)
  have hd := cdg_le i
  obtain ⟨C, hC0⟩ : ∃ C : Int, C = ((wor i a r : Nat) : Int) := ⟨_, rfl⟩
  have iC : InR C := by rw [hC0]; exact in_small (by omega) (by omega)
  have MU0 : ∀ w, Calls Tryd.prog 22 #[.agg #[.int .i64 (dhi (a : Int)), .int .u64 (dlo (a : Int)), .int .i64 (cdg i : Int)], .agg #[.int .i64 (dhi (r : Int)), .int .u64 (dlo (r : Int)), .int .i64 9], .int .i64 12, .int .i64 0] w fun e w' => e = .returned (.tuple #[.agg #[.int .i64 (dhi (C)), .int .u64 (dlo (C)), .int .i64 12], .int .i64 0]) ∧ Below w.heap.size w w' := by
    intro w
    have e : mv (a : Int) (cdg i) (r : Int) 9 12 0 = C := by rw [eM, hC0]; rfl
    have h := mul_yes (a : Int) (r : Int) (cdg i) 9 12 0 w (in_small (by omega) (by omega)) (in_small (by omega) (by omega)) (by omega) (by decide) (by decide) (by decide) (by rw [e]; exact iC)
    rw [e] at h
    exact h
  have MU := (show Hid _ from MU0)
  have HB := (show Hid _ from And.intro ha hr)
  rw [← hC0]
  have VM_0 := (show Hid _ from (va_new w (mcl i a) 48).alloc (.cells zdl.toArray 35))
  have VR_0 := (show Hid _ from va_new (w.alloc (.cells (mcl i a).toArray 48)) zdl 35)
  rw [show (w.alloc (.cells (mcl i a).toArray 48)).heap.size = w.heap.size + 1 by simp] at VR_0
  have BB_0 := (show Hid _ from ((Below.refl w.heap.size w).alloc (Nat.le_refl _) (.cells (mcl i a).toArray 48)).alloc (by simp) (.cells zdl.toArray 35))
  have CU_0 := (show Hid _ from (T.alloc (.cells (mcl i a).toArray 48)).alloc (.cells zdl.toArray 35))
  clear T MU0 iC hC0 eM hd hC ha hr
  go_enter Tryd.func18, Tryd.ntmps18
  go_wp2_with (refine ldA rfl 48 _ rfl w.heap.size (by rfl) (mcl i a) _ VM_0.out _ Tryd.underlying48 rfl infoM ?_)
  refine (To_lit i a _ CU_0.out hi (by have := HB.out; omega)).mono ?_
  rintro e w1 ⟨rfl, b1⟩
  have VR_1 := (show Hid _ from (VR_0.out).step b1)
  have CU_1 := (show Hid _ from (CU_0.out).step b1)
  have BB_1 := (show Hid _ from BB_0.out.trans (b1.mono BB_0.out.size))
  clear b1 VM_0 VR_0 CU_0 BB_0
  go_wp2_with fail
  refine (of_ok r 9 _ (by have := HB.out; omega) (by have := HB.out; omega) (by decide)).mono ?_
  rintro e w2 ⟨rfl, b2⟩
  have VR_2 := (show Hid _ from (VR_1.out.alloc _).step b2)
  have Ax_2 := (show Hid _ from (at3_new w1 _ _ _ _).step b2)
  have BB_2 := (show Hid _ from BB_1.out.trans ((below_over b2).mono BB_1.out.size))
  clear b2 VR_1 CU_1 BB_1
  generalize w1.heap.size = px at *
  obtain ⟨x0, x1, x2, x3⟩ := Ax_2.out
  go_wp2_with fail
  refine (MU.out _).mono ?_
  rintro e w3 ⟨rfl, b3⟩
  have VR_3 := (show Hid _ from (VR_2.out.alloc _).step b3)
  have BB_3 := (show Hid _ from BB_2.out.trans ((below_over b3).mono BB_2.out.size))
  clear x0 x1 x2 x3
  clear b3 VR_2 Ax_2 BB_2
  generalize w2.heap.size = py at *
  go_wp2_with (refine stA rfl 35 _ _ rfl (w.heap.size + 1) (by rfl) zdl (dcs C 12) (by rfl) 35 (VR_3.out.alloc _) infoD rfl (dcs_one _ _) ?_; intro wf vf uf)
  have hld := run_loadVar_row (P := Tryd.prog) wf (w.heap.size + 1) 35 35 _ (0, 0) _ vf.blk Tryd.underlying35 rfl infoD
  exact bodyPost_ret (v := .agg (dcs C 12).toArray) (by simp [results, Tryd.results18, asAddr, hld, Act.put]) rfl ⟨rfl, uf.bel (bel_alloc BB_3.out _) (by omega)⟩
/-- the residue: what is above the whole minor units -/
theorem qv_up (a : Int) (d : Nat) (ha : 0 ≤ a) : qv a 12 1 d 12 0 = a * 10 ^ d := by
  obtain ⟨n, rfl⟩ := Int.eq_ofNat_of_zero_le ha
  have e := rnd_shift false n 1 d 0 0
  rw [Nat.pow_zero, Nat.mul_one, show ((d : Int) - ((0 : Nat) : Int)) = ((12 : Nat) : Int) + d - ((12 : Nat) : Int) by omega, rnd_exact _ _ _ _ (Nat.mod_one _), Nat.div_one] at e
  unfold qv sv
  rw [decide_eq_false (show ¬ (n : Int) < 0 by omega), Int.natAbs_natCast]
  simp only [show decide ((1 : Int) < 0) = false from rfl, bne_self_eq_false, show (1 : Int).natAbs = 1 from rfl]
  rw [← e, Int.natCast_mul, Int.natCast_pow]
  simp
set_option maxHeartbeats 1000000 in
set_option maxRecDepth 100000 in
theorem residue_ok (C : Int) (o : Nat) (G R : Int) (w : World) (T : Cu w) (ho : o < 4) (hC : 0 ≤ C ∧ C ≤ 10000000000000000000000000000) (hG : 0 ≤ G ∧ G ≤ 10000000000000)
    (hA : 0 ≤ C - G * 10 ^ (12 - cdg o)) (hA2 : C - G * 10 ^ (12 - cdg o) ≤ 1000000000000) (hR : R = (C - G * 10 ^ (12 - cdg o)) * 10 ^ cdg o) (hR2 : R ≤ 1000000000000000) :
    Calls Tryd.prog 20 #[.agg (dcs C 12).toArray, .agg (mcl o G).toArray] w fun e w' => e = .returned (.agg (dcs R 12).toArray) ∧ Below w.heap.size w w' := by
  have hd := cdg_le o
  obtain ⟨A, hA0⟩ : ∃ A, A = C - G * 10 ^ (12 - cdg o) := ⟨_, rfl⟩
  rw [← hA0] at hA hA2 hR
  have hR0 : 0 ≤ R := by rw [hR]; exact Int.mul_nonneg hA (Int.le_of_lt (ten_pos _))
  have SU0 : ∀ w, Calls Tryd.prog 34 #[.agg #[.int .i64 (dhi (C)), .int .u64 (dlo (C)), .int .i64 12], .agg #[.int .i64 (dhi (G)), .int .u64 (dlo (G)), .int .i64 (cdg o : Int)]] w fun e w' => e = .returned (.tuple #[.agg #[.int .i64 (dhi (A)), .int .u64 (dlo (A)), .int .i64 12], .int .i64 0]) ∧ Below w.heap.size w w' := by
    intro w
    have e : tv C 12 (-G) (cdg o) = A := by
      unfold tv
      rw [show max 12 (cdg o) = 12 by omega, show 12 - 12 = 0 from rfl, Int.pow_zero, Int.mul_one, Int.neg_mul, hA0]
      omega
    have h := sub_yes C G 12 (cdg o) w (in_small hC.1 (by omega)) (in_small hG.1 (by omega)) (by decide) (by omega) (by rw [e]; exact in_small hA (by omega))
    rw [e, show max 12 (cdg o) = 12 by omega] at h
    exact h
  have QU0 : ∀ w, Calls Tryd.prog 35 #[.agg #[.int .i64 (dhi (A)), .int .u64 (dlo (A)), .int .i64 12], .agg #[.int .i64 (dhi (1 : Int)), .int .u64 (dlo (1 : Int)), .int .i64 (cdg o : Int)], .int .i64 12, .int .i64 0] w fun e w' => e = .returned (.tuple #[.agg #[.int .i64 (dhi (R)), .int .u64 (dlo (R)), .int .i64 12], .int .i64 0]) ∧ Below w.heap.size w w' := by
    intro w
    have e : qv A 12 1 (cdg o) 12 0 = R := by rw [qv_up A _ hA, hR]
    have h := dquo_yes A 1 12 (cdg o) 12 0 w (in_small hA (by omega)) (in_small (by decide) (by decide)) (by decide) (by omega) (by decide) (by decide) (by decide) (by rw [e]; exact in_small hR0 (by omega))
    rw [e] at h
    exact h
  have SU := (show Hid _ from SU0)
  have QU := (show Hid _ from QU0)
  have HB := (show Hid _ from hG)
  have BX := (Below.refl w.heap.size w).alloc (Nat.le_refl _) (.cells (dcs C 12).toArray 35)
  have VU_0 := (show Hid _ from ((va_new w (dcs C 12) 35).alloc (.cells (mcl o G).toArray 48)).alloc (.cells zdl.toArray 35))
  have VG_0 := (show Hid _ from (va_new (w.alloc (.cells (dcs C 12).toArray 35)) (mcl o G) 48).alloc (.cells zdl.toArray 35))
  have VR_0 := (show Hid _ from va_new ((w.alloc (.cells (dcs C 12).toArray 35)).alloc (.cells (mcl o G).toArray 48)) zdl 35)
  rw [show ((w.alloc (.cells (dcs C 12).toArray 35)).alloc (.cells (mcl o G).toArray 48)).heap.size = w.heap.size + 1 + 1 by simp] at VR_0
  rw [show (w.alloc (.cells (dcs C 12).toArray 35)).heap.size = w.heap.size + 1 by simp] at VG_0
  have BB_0 := (show Hid _ from (BX.alloc BX.size (.cells (mcl o G).toArray 48)).alloc (by simp; omega) (.cells zdl.toArray 35))
  have CU_0 := (show Hid _ from ((T.alloc (.cells (dcs C 12).toArray 35)).alloc (.cells (mcl o G).toArray 48)).alloc (.cells zdl.toArray 35))
  clear T SU0 QU0 BX hA0 hA hA2 hR hR2 hR0 hd hC hG
  go_enter Tryd.func20, Tryd.ntmps20
  go_wp2_with (refine ldA rfl 48 _ rfl (w.heap.size + 1) (by rfl) (mcl o G) _ VG_0.out _ Tryd.underlying48 rfl infoM ?_)
  refine (To_lit o G _ CU_0.out ho (by have := HB.out; omega)).mono ?_
  rintro e w1 ⟨rfl, b1⟩
  have VU_1 := (show Hid _ from (VU_0.out).step b1)
  have VG_1 := (show Hid _ from (VG_0.out).step b1)
  have VR_1 := (show Hid _ from (VR_0.out).step b1)
  have CU_1 := (show Hid _ from (CU_0.out).step b1)
  have BB_1 := (show Hid _ from BB_0.out.trans (b1.mono BB_0.out.size))
  clear b1 VU_0 VG_0 VR_0 CU_0 BB_0
  have g0 := VG_1.out.cell 0 (v := .int .i64 (o : Int)) rfl
  have gl := VG_1.out.lt
  go_wp2_with fail
  refine (To_lit o 1 _ (CU_1.out.alloc _) ho (by decide)).mono ?_
  rintro e w2 ⟨rfl, b2⟩
  have VU_2 := (show Hid _ from (VU_1.out.alloc _).step b2)
  have VR_2 := (show Hid _ from (VR_1.out.alloc _).step b2)
  have Ax_2 := (show Hid _ from (at3_new w1 _ _ _ _).step b2)
  have BB_2 := (show Hid _ from BB_1.out.trans ((below_over b2).mono BB_1.out.size))
  clear b2 VU_1 VG_1 VR_1 CU_1 BB_1
  generalize w1.heap.size = px at *
  clear g0 gl
  obtain ⟨x0, x1, x2, x3⟩ := Ax_2.out
  have u0 := VU_2.out.cell 0 (v := .int .i64 (dhi C)) rfl
  have u1 := VU_2.out.cell 1 (v := .int .u64 (dlo C)) rfl
  have u2 := VU_2.out.cell 2 (v := .int .i64 12) rfl
  have ul := VU_2.out.lt
  go_wp2_with fail
  clear u0 u1 u2 ul
  refine (SU.out _).mono ?_
  rintro e w3 ⟨rfl, b3⟩
  have VR_3 := (show Hid _ from (VR_2.out.alloc _).step b3)
  have Ay_3 := (show Hid _ from (at3_new w2 _ _ _ _).step b3)
  have BB_3 := (show Hid _ from BB_2.out.trans ((below_over b3).mono BB_2.out.size))
  clear x0 x1 x2 x3
  clear b3 VU_2 VR_2 Ax_2 BB_2
  generalize w2.heap.size = py at *
  obtain ⟨y0, y1, y2, y3⟩ := Ay_3.out
  go_wp2_with fail
  refine (QU.out _).mono ?_
  rintro e w4 ⟨rfl, b4⟩
  have VR_4 := (show Hid _ from (VR_3.out.alloc _).step b4)
  have BB_4 := (show Hid _ from BB_3.out.trans ((below_over b4).mono BB_3.out.size))
  clear y0 y1 y2 y3
  clear b4 VR_3 Ay_3 BB_3
  generalize w3.heap.size = pz at *
  go_wp2_with (refine stA rfl 35 _ _ rfl (w.heap.size + 1 + 1) (by rfl) zdl (dcs R 12) (by rfl) 35 (VR_4.out.alloc _) infoD rfl (dcs_one _ _) ?_; intro wf vf uf)
  have hld := run_loadVar_row (P := Tryd.prog) wf (w.heap.size + 1 + 1) 35 35 _ (0, 0) _ vf.blk Tryd.underlying35 rfl infoD
  exact bodyPost_ret (v := .agg (dcs R 12).toArray) (by simp [results, Tryd.results20, asAddr, hld, Act.put]) rfl ⟨rfl, uf.bel (bel_alloc BB_4.out _) (by omega)⟩
end Go.Proofs.YtkndnpkpdchbiaaDoor
