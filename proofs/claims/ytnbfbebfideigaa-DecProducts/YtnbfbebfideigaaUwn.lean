/- The document's decimals: the contract of DocMul, out of range. -/
import Derived.Test.YtnbfbebfideigaaUwa
import Derived.Deep.DeepCutAuto
namespace Go.Proofs.Ytnbfbebfideigaa
open Go.RowKit
set_option linter.unusedVariables false
attribute [local go_sem ↓] Go.wp_at_zero Go.wp_at_succ

set_option maxHeartbeats 12000000 in
set_option maxRecDepth 100000 in
theorem dmul_no (ca cb : Int) (sa sb t mode : Nat) (w : World) (ia : InR ca) (ib : InR cb) (hsa : (sa : Int) ≤ 18) (hsb : (sb : Int) ≤ 18) (ht : (t : Int) ≤ 18) (hm : (mode : Int) ≤ 6) (hr : ¬ InR (mv ca sa cb sb t mode)) :
    Calls Try.prog 28 #[.agg #[.int .i64 (dhi ca), .int .u64 (dlo ca), .int .i64 sa], .agg #[.int .i64 (dhi cb), .int .u64 (dlo cb), .int .i64 sb], .int .i64 t, .int .i64 mode] w fun e w' => e = .returned (.tuple #[.agg #[.int .i64 0, .int .u64 0, .int .i64 0], .int .i64 4]) ∧ Below w.heap.size w w' := by
  obtain ⟨P, hP⟩ : ∃ P, P = ca * cb * 10 ^ t := ⟨_, rfl⟩
  obtain ⟨Z0, hZ0⟩ : ∃ Z, Z = mv ca sa cb sb t mode := ⟨_, rfl⟩
  have HV : Hid (sv (decide (P < 0)) (rnd (decide (P < 0)) P.natAbs (10 ^ (sa + sb)) mode) = Z0) := by rw [hP, hZ0]; exact mv_eq ca cb sa sb t mode
  have MAB : Hid (Mi (ca * cb)) := mul_mi ia ib
  have MP : Hid (Mi P) := by rw [hP]; exact mul_up_mi ia ib t (by omega)
  have HP0 := (show Hid _ from hP)
  have hm6 : mode ≤ 6 := by omega
  have ht38 : t ≤ 38 := by omega
  have hs38 : sa + sb ≤ 38 := by omega
  rw [← hZ0] at hr
  skip
  have HR0 := (show Hid _ from hr)
  clear hP hZ0 hr
  have A := ((v3_new w (.int .i64 (dhi ca)) (.int .u64 (dlo ca)) (.int .i64 sa) 24).alloc (.cells #[.int .i64 (dhi cb), .int .u64 (dlo cb), .int .i64 sb] 24)).alloc (.cells #[.int .i64 0, .int .u64 0, .int .i64 0] 24)
  have B := (v3_new (w.alloc (.cells #[.int .i64 (dhi ca), .int .u64 (dlo ca), .int .i64 sa] 24)) (.int .i64 (dhi cb)) (.int .u64 (dlo cb)) (.int .i64 sb) 24).alloc (.cells #[.int .i64 0, .int .u64 0, .int .i64 0] 24)
  rw [size_al] at B
  have R := v3_new ((w.alloc (.cells #[.int .i64 (dhi ca), .int .u64 (dlo ca), .int .i64 sa] 24)).alloc (.cells #[.int .i64 (dhi cb), .int .u64 (dlo cb), .int .i64 sb] 24)) (.int .i64 0) (.int .u64 0) (.int .i64 0) 24
  rw [size_al, size_al] at R
  have hW := bel_al (bel_al (bel_al (Below.refl _ w) (.cells #[.int .i64 (dhi ca), .int .u64 (dlo ca), .int .i64 sa] 24)) (.cells #[.int .i64 (dhi cb), .int .u64 (dlo cb), .int .i64 sb] 24)) (.cells #[.int .i64 0, .int .u64 0, .int .i64 0] 24)
  go_enter Try.func28, Try.ntmps28
  go_wp2_with fail
  refine (way_yes t mode _ (by omega) ht hm).mono ?_
  rintro e w1 ⟨rfl, rfl⟩
  go_wp2_with fail
  refine (form_yes ca sa _ ia hsa).mono ?_
  rintro e V ⟨rfl, hb⟩
  replace A := A.step hb
  replace B := B.step hb
  replace R := R.step hb
  replace hW := hW.trans (hb.mono hW.size)
  clear hb
  obtain ⟨p, hp⟩ : ∃ p, p = w.heap.size := ⟨_, rfl⟩
  have HP : Hid (p = w.heap.size) := hp
  rw [← hp] at A B R
  rw [← hp]
  clear hp
  have b0 := B.c0
  have b1 := B.c1
  have b2 := B.c2
  go_wp2_with fail
  refine (form_yes cb sb _ ib hsb).mono ?_
  rintro e W ⟨rfl, hb⟩
  replace A := A.step hb
  replace B := B.step hb
  replace R := R.step hb
  replace hW := hW.trans (hb.mono hW.size)
  clear hb b0 b1 b2
  go_upto_region 5 with fail
  go_cut [10] (fun up wx => ∃ uu m5 a5 n5 k5, up = .pointer (some ⟨uu, 0, none⟩) ∧ Below w.heap.size w wx ∧ V3 wx p (.int .i64 (dhi ca)) (.int .u64 (dlo ca)) (.int .i64 sa) 24 ∧ V3 wx (p + 1) (.int .i64 (dhi cb)) (.int .u64 (dlo cb)) (.int .i64 sb) 24 ∧ V3 wx (p + 1 + 1) (.int .i64 0) (.int .u64 0) (.int .i64 0) 24 ∧ V2 wx uu (.bool m5) (.slice a5 n5 k5) 66 ∧ In wx (.agg #[.bool m5, .slice a5 n5 k5]) P)
  case first =>
    go_region_held3 (fun w' => w'.cell? ⟨p, 0, none⟩ = some (.int .i64 (dhi ca)) ∧ w'.cell? ⟨p, 1, none⟩ = some (.int .u64 (dlo ca)) ∧ w'.cell? ⟨p, 2, none⟩ = some (.int .i64 sa) ∧ w'.cell? ⟨p + 1, 0, none⟩ = some (.int .i64 (dhi cb)) ∧ w'.cell? ⟨p + 1, 1, none⟩ = some (.int .u64 (dlo cb)) ∧ w'.cell? ⟨p + 1, 2, none⟩ = some (.int .i64 sb))
      (first | exact ⟨A.c0, A.c1, A.c2, B.c0, B.c1, B.c2⟩ | exact ⟨A.drew.c0, A.drew.c1, A.drew.c2, B.drew.c0, B.drew.c1, B.drew.c2⟩ | exact ⟨(A.drew.alloc _).c0, (A.drew.alloc _).c1, (A.drew.alloc _).c2, (B.drew.alloc _).c0, (B.drew.alloc _).c1, (B.drew.alloc _).c2⟩ | exact ⟨A5.c0, A5.c1, A5.c2, B5.c0, B5.c1, B5.c2⟩ | exact ⟨(A5.alloc _).c0, (A5.alloc _).c1, (A5.alloc _).c2, (B5.alloc _).c0, (B5.alloc _).c1, (B5.alloc _).c2⟩ | exact ⟨A4.c0, A4.c1, A4.c2, B4.c0, B4.c1, B4.c2⟩ | exact ⟨(A4.alloc _).c0, (A4.alloc _).c1, (A4.alloc _).c2, (B4.alloc _).c0, (B4.alloc _).c1, (B4.alloc _).c2⟩ | exact ⟨A3.c0, A3.c1, A3.c2, B3.c0, B3.c1, B3.c2⟩ | exact ⟨(A3.alloc _).c0, (A3.alloc _).c1, (A3.alloc _).c2, (B3.alloc _).c0, (B3.alloc _).c1, (B3.alloc _).c2⟩ | exact ⟨A2.c0, A2.c1, A2.c2, B2.c0, B2.c1, B2.c2⟩ | exact ⟨(A2.alloc _).c0, (A2.alloc _).c1, (A2.alloc _).c2, (B2.alloc _).c0, (B2.alloc _).c1, (B2.alloc _).c2⟩ | exact ⟨A1.c0, A1.c1, A1.c2, B1.c0, B1.c1, B1.c2⟩ | exact ⟨(A1.alloc _).c0, (A1.alloc _).c1, (A1.alloc _).c2, (B1.alloc _).c0, (B1.alloc _).c1, (B1.alloc _).c2⟩ | exact ⟨(cell_put (A5.neU U5)).trans A5.c0, (cell_put (A5.neU U5)).trans A5.c1, (cell_put (A5.neU U5)).trans A5.c2, (cell_put (B5.neU U5)).trans B5.c0, (cell_put (B5.neU U5)).trans B5.c1, (cell_put (B5.neU U5)).trans B5.c2⟩)
      (first
        | (go_at_call_of 42 (Value.agg #[.int .i64 (dhi ca), .int .u64 (dlo ca), .int .i64 (sa : Int)]); refine (coef_ok ca sa _ ia).mono ?_; rintro e w1 ⟨⟨r1, rfl, hr1⟩, hb1⟩; (first | (have A1 := (A.drew).step hb1; have B1 := (B.drew).step hb1; have R1 := (R.drew).step hb1; have hW1 := hW.trans ((bel_of_drew hb1).mono hW.size)) | (have A1 := (A.drew.alloc _).step hb1; have B1 := (B.drew.alloc _).step hb1; have R1 := (R.drew.alloc _).step hb1; have U1 : V2 w1 W.heap.size (.bool false) (.slice none 0 0) 66 := (v2_new W.drew (.bool false) (.slice none 0 0) 66).step hb1; have lU := hW.size; have hW1 := hW.trans ((bel_of_drew (bel_over hb1)).mono hW.size))); have i11 := hr1)
        | (go_at_call_of 42 (Value.agg #[.int .i64 (dhi cb), .int .u64 (dlo cb), .int .i64 (sb : Int)]); refine (coef_ok cb sb _ ib).mono ?_; rintro e w2 ⟨⟨r2, rfl, hr2⟩, hb2⟩; (first | (have U2 := U1.step hb2; have A2 := A1.step hb2; have B2 := B1.step hb2; have R2 := R1.step hb2; have i12 := i11.step hb2; have hW2 := hW1.trans ((hb2).mono hW1.size)) | (have A2 := A1.step hb2; have B2 := B1.step hb2; have R2 := R1.step hb2; have i12 := i11.step hb2; have hW2 := hW1.trans ((hb2).mono hW1.size)) | (have A2 := (A1.alloc _).step hb2; have B2 := (B1.alloc _).step hb2; have R2 := (R1.alloc _).step hb2; have i12 := (i11.alloc _).step hb2; have U2 : V2 w2 w1.heap.size (.bool false) (.slice none 0 0) 66 := (v2_new w1 (.bool false) (.slice none 0 0) 66).step hb2; have lU := hW1.size; have hW2 := hW1.trans ((bel_over hb2).mono hW1.size))); have i22 := hr2)
        | (go_at_call_of 54 (r1); refine (prod_in _ _ ca cb _ (by first | exact i12 | exact (i12).alloc _) (by first | exact i22 | exact (i22).alloc _) (inr_mi ia) (inr_mi ib)).mono ?_; rintro e w3 ⟨⟨r3, rfl, hr3⟩, hb3⟩; (first | (have U3 := U2.step hb3; have A3 := A2.step hb3; have B3 := B2.step hb3; have R3 := R2.step hb3; have i13 := i12.step hb3; have i23 := i22.step hb3; have hW3 := hW2.trans ((hb3).mono hW2.size)) | (have A3 := A2.step hb3; have B3 := B2.step hb3; have R3 := R2.step hb3; have i13 := i12.step hb3; have i23 := i22.step hb3; have hW3 := hW2.trans ((hb3).mono hW2.size)) | (have A3 := (A2.alloc _).step hb3; have B3 := (B2.alloc _).step hb3; have R3 := (R2.alloc _).step hb3; have i13 := (i12.alloc _).step hb3; have i23 := (i22.alloc _).step hb3; have U3 : V2 w3 w2.heap.size (.bool false) (.slice none 0 0) 66 := (v2_new w2 (.bool false) (.slice none 0 0) 66).step hb3; have lU := hW2.size; have hW3 := hW2.trans ((bel_over hb3).mono hW2.size))); have i33 := hr3)
        | (go_at_call 48; refine (ten_ok t _ ht38).mono ?_; rintro e w4 ⟨⟨r4, rfl, hr4⟩, hb4⟩; (first | (have U4 := U3.step hb4; have A4 := A3.step hb4; have B4 := B3.step hb4; have R4 := R3.step hb4; have i14 := i13.step hb4; have i24 := i23.step hb4; have i34 := i33.step hb4; have hW4 := hW3.trans ((hb4).mono hW3.size)) | (have A4 := A3.step hb4; have B4 := B3.step hb4; have R4 := R3.step hb4; have i14 := i13.step hb4; have i24 := i23.step hb4; have i34 := i33.step hb4; have hW4 := hW3.trans ((hb4).mono hW3.size)) | (have A4 := (A3.alloc _).step hb4; have B4 := (B3.alloc _).step hb4; have R4 := (R3.alloc _).step hb4; have i14 := (i13.alloc _).step hb4; have i24 := (i23.alloc _).step hb4; have i34 := (i33.alloc _).step hb4; have U4 : V2 w4 w3.heap.size (.bool false) (.slice none 0 0) 66 := (v2_new w3 (.bool false) (.slice none 0 0) 66).step hb4; have lU := hW3.size; have hW4 := hW3.trans ((bel_over hb4).mono hW3.size))); have i44 := hr4; obtain ⟨xa, xn, xc, rfl⟩ := hr4.form)
        | (go_at_call_of 54 (r3); refine (prod_in _ _ (ca * cb) (10 ^ t) _ (by first | exact i34 | exact (i34).alloc _) (in_mk (by rw [ten_abs]; exact (by first | exact i44 | exact (i44).alloc _)) (fun _ => rfl) (fun h => by have := ten_pos t; omega)) MAB.out (ten_mi _ (by omega))).mono ?_; rintro e w5 ⟨⟨r5, rfl, hr5⟩, hb5⟩; (first | (have U5 := U4.step hb5; have A5 := A4.step hb5; have B5 := B4.step hb5; have R5 := R4.step hb5; have i15 := i14.step hb5; have i25 := i24.step hb5; have i35 := i34.step hb5; have i45 := i44.step hb5; have hW5 := hW4.trans ((hb5).mono hW4.size); have u0 := U5.c0; have u1 := U5.c1; have g0 := U5.free 0; have g1 := U5.free 1) | (have A5 := A4.step hb5; have B5 := B4.step hb5; have R5 := R4.step hb5; have i15 := i14.step hb5; have i25 := i24.step hb5; have i35 := i34.step hb5; have i45 := i44.step hb5; have hW5 := hW4.trans ((hb5).mono hW4.size)) | (have A5 := (A4.alloc _).step hb5; have B5 := (B4.alloc _).step hb5; have R5 := (R4.alloc _).step hb5; have i15 := (i14.alloc _).step hb5; have i25 := (i24.alloc _).step hb5; have i35 := (i34.alloc _).step hb5; have i45 := (i44.alloc _).step hb5; have U5 : V2 w5 w4.heap.size (.bool false) (.slice none 0 0) 66 := (v2_new w4 (.bool false) (.slice none 0 0) 66).step hb5; have lU := hW4.size; have hW5 := hW4.trans ((bel_over hb5).mono hW4.size); have u0 := U5.c0; have u1 := U5.c1; have g0 := U5.free 0; have g1 := U5.free 1)); rw [← HP0.out] at hr5; obtain ⟨m5, a5, n5, k5, rfl, hn5, ha5, hb5'⟩ := hr5.form))
    all_goals
      first
        | (have U6 := (U5.set0 (.bool m5)).set1 (.slice a5 n5 k5)
           have A6 := A5.keepT U5 (by decide) (.bool m5) (.slice a5 n5 k5)
           have B6 := B5.keepT U5 (by decide) (.bool m5) (.slice a5 n5 k5)
           have R6 := R5.keepT U5 (by decide) (.bool m5) (.slice a5 n5 k5)
           have h6 := hr5.put U5 (by decide) (.bool m5) (.slice a5 n5 k5)
           have hW6 := bel_put hW5 lU (.bool m5) (.slice a5 n5 k5)
           go_wp2_with fail
           go_meet
           exact ⟨_, m5, a5, n5, k5, rfl, hW6, A6, B6, R6, U6, h6⟩)
        | (have U6 := v2_new w5 (.bool m5) (.slice a5 n5 k5) 66
           have A6 := A5.alloc (.cells #[.bool m5, .slice a5 n5 k5] 66)
           have B6 := B5.alloc (.cells #[.bool m5, .slice a5 n5 k5] 66)
           have R6 := R5.alloc (.cells #[.bool m5, .slice a5 n5 k5] 66)
           have h6 := hr5.alloc (.cells #[.bool m5, .slice a5 n5 k5] 66)
           have hW6 := bel_al hW5 (.cells #[.bool m5, .slice a5 n5 k5] 66)
           go_wp2_with fail
           go_meet
           exact ⟨_, m5, a5, n5, k5, rfl, hW6, A6, B6, R6, U6, h6⟩)
  case rest =>
    clear A B R hW
    obtain ⟨uu, m5, a5, n5, k5, rfl, hW, A, B, R, U, hP5⟩ := hcut
    have hw : IntKind.i64.wrap ((sa : Int) + (sb : Int)) = ((sa + sb : Nat) : Int) := by rw [IntKind.wrap_i64]; omega
    have nA := A.neU U
    have nB := B.neU U
    have nR := R.neU U
    go_wp2_with fail
    go_region_held3 (fun w' => w'.cell? ⟨uu, 0, none⟩ = some (.bool m5) ∧ w'.cell? ⟨uu, 1, none⟩ = some (.slice a5 n5 k5) ∧ w'.cell? ⟨p, 2, none⟩ = some (.int .i64 sa) ∧ w'.cell? ⟨p + 1, 2, none⟩ = some (.int .i64 sb))
      (first | exact ⟨U.c0, U.c1, A.c2, B.c2⟩ | exact ⟨U.drew.c0, U.drew.c1, A.drew.c2, B.drew.c2⟩ | exact ⟨U7.c0, U7.c1, A7.c2, B7.c2⟩ | exact ⟨U6.c0, U6.c1, A6.c2, B6.c2⟩ | exact ⟨U4.c0, U4.c1, A4.c2, B4.c2⟩ | exact ⟨(cell_put3 (Ne.symm nR)).trans U7.c0, (cell_put3 (Ne.symm nR)).trans U7.c1, (cell_put3 (by omega)).trans A7.c2, (cell_put3 (by omega)).trans B7.c2⟩)
      (first
        | (go_at_call 48; refine (ten_ok (sa + sb) _ hs38).mono ?_; rintro e w4 ⟨⟨r4, rfl, hr4⟩, hb4⟩; have A4 := A.drew.step hb4; have B4 := B.drew.step hb4; have R4 := R.drew.step hb4; have U4 := U.drew.step hb4; have h4 := hP5.drew.step hb4; have hW4 := hW.trans ((bel_of_drew hb4).mono hW.size))
        | (go_at_call 53; refine (rounded_in _ _ P (10 ^ (sa + sb)) mode _ h4 hr4 MP.out (ten_md _ (by omega)) (Nat.pow_pos (by decide)) hm6).mono ?_; rintro e w6 ⟨⟨r6, rfl, hr6⟩, hb6⟩; have A6 := A4.step hb6; have B6 := B4.step hb6; have R6 := R4.step hb6; have U6 := U4.step hb6; have hW6 := hW4.trans (hb6.mono hW4.size); rw [HV.out] at hr6)
        | (go_at_call 37; refine (decr_big _ Z0 _ _ hr6 (not_inr HR0.out)).mono ?_; rintro e w7 ⟨rfl, hb7⟩; have A7 := A6.step hb7; have B7 := B6.step hb7; have R7 := R6.step hb7; have U7 := U6.step hb7; have hW7 := hW6.trans (hb7.mono hW6.size); have r0 := R7.c0; have r1 := R7.c1; have r2 := R7.c2; have f0 := R7.free 0; have f1 := R7.free 1; have f2 := R7.free 2))
    have V := ((R7.set0 (.int .i64 0)).set1 (.int .u64 0)).set2 (.int .i64 0)
    have hB := ((hW7.setCell (p := ⟨p + 1 + 1, 0, none⟩) (by have := HP.out; show _ ≤ p + 1 + 1; omega) (.int .i64 0)).setCell (p := ⟨p + 1 + 1, 1, none⟩) (by have := HP.out; show _ ≤ p + 1 + 1; omega) (.int .u64 0)).setCell (p := ⟨p + 1 + 1, 2, none⟩) (by have := HP.out; show _ ≤ p + 1 + 1; omega) (.int .i64 0)
    have HB := (show Hid _ from hB)
    clear hB A A4 A6 A7 B B4 B6 B7 U U4 U6 U7 R R4 R6 R7 r0 r1 r2 f0 f1 f2 hr4 h4 hr6 hP5 hb4 hb6 hb7 hW hW4 hW6 hW7 nA nB nR hw
    generalize ((w7.setCell ⟨p + 1 + 1, 0, none⟩ (.int .i64 0)).setCell ⟨p + 1 + 1, 1, none⟩ (.int .u64 0)).setCell ⟨p + 1 + 1, 2, none⟩ (.int .i64 0) = Z at *
    have c0 := V.c0
    have c1 := V.c1
    have c2 := V.c2
    clear V
    go_wp2_with fail
    refine bodyPost_ret (v := .tuple #[.agg #[.int .i64 0, .int .u64 0, .int .i64 0], .int .i64 4]) (by simp [results, Try.results28, go_sem, *]) rfl ⟨rfl, HB.out⟩

end Go.Proofs.Ytnbfbebfideigaa
