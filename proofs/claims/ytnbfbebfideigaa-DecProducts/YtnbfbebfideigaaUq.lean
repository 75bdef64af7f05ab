/- The document's decimals: the contract of DocAdd in form. -/
import Derived.Test.YtnbfbebfideigaaUp
namespace Go.Proofs.Ytnbfbebfideigaa
open Go.RowKit
set_option linter.unusedVariables false
attribute [local go_sem ↓] Go.wp_at_zero Go.wp_at_succ

theorem not_inr {z : Int} (h : ¬ InR z) : M127 ≤ (z.natAbs : Int) := by
  by_cases h2 : (z.natAbs : Int) < M127
  · exact absurd (inr_of h2) h
  · omega
set_option maxHeartbeats 1000000 in
set_option maxRecDepth 100000 in
theorem dadd_aylt (ca cb : Int) (sa sb : Nat) (w : World) (ia : InR ca) (ib : InR cb) (hsa : (sa : Int) ≤ 18) (hsb : (sb : Int) ≤ 18) (hlt : sa < sb) (hr : InR (tv ca sa cb sb)) :
    Calls Try.prog 10 #[.agg #[.int .i64 (dhi ca), .int .u64 (dlo ca), .int .i64 sa], .agg #[.int .i64 (dhi cb), .int .u64 (dlo cb), .int .i64 sb], .bool false] w fun e w' => e = .returned (.tuple #[.agg #[.int .i64 (dhi (tv ca sa cb sb)), .int .u64 (dlo (tv ca sa cb sb)), .int .i64 (sb : Int)], .int .i64 0]) ∧ Below w.heap.size w w' := by
  obtain ⟨X, hX⟩ : ∃ X, X = ca * 10 ^ ((sb : Int) - sa).toNat := ⟨_, rfl⟩
  obtain ⟨Y, hY⟩ : ∃ Y, Y = cb * 10 ^ ((sb : Int) - sb).toNat := ⟨_, rfl⟩
  obtain ⟨Z0, hZ0⟩ : ∃ Z, Z = tv ca sa cb sb := ⟨_, rfl⟩
  have HV : Hid (X + Y = Z0) := by
    obtain ⟨e1, e2⟩ := tv_at ca cb sa sb (sb : Int) (by omega)
    show _ = _
    rw [hX, hY, hZ0, e1, e2]; unfold tv; rfl
  have MX : Hid (Mi X) := by rw [hX]; exact up_mi ia _ (by omega)
  have MY : Hid (Mi Y) := by rw [hY]; exact up_mi ib _ (by omega)
  have HX := (show Hid _ from hX)
  have HY := (show Hid _ from hY)
  rw [← hZ0] at hr
  rw [← hZ0]
  have HR0 := (show Hid _ from hr)
  clear hX hY hZ0 hr
  have A := ((v3_new w (.int .i64 (dhi ca)) (.int .u64 (dlo ca)) (.int .i64 sa) 24).alloc (.cells #[.int .i64 (dhi cb), .int .u64 (dlo cb), .int .i64 sb] 24)).alloc (.cells #[.int .i64 0, .int .u64 0, .int .i64 0] 24)
  have B := (v3_new (w.alloc (.cells #[.int .i64 (dhi ca), .int .u64 (dlo ca), .int .i64 sa] 24)) (.int .i64 (dhi cb)) (.int .u64 (dlo cb)) (.int .i64 sb) 24).alloc (.cells #[.int .i64 0, .int .u64 0, .int .i64 0] 24)
  rw [size_al] at B
  have R := v3_new ((w.alloc (.cells #[.int .i64 (dhi ca), .int .u64 (dlo ca), .int .i64 sa] 24)).alloc (.cells #[.int .i64 (dhi cb), .int .u64 (dlo cb), .int .i64 sb] 24)) (.int .i64 0) (.int .u64 0) (.int .i64 0) 24
  rw [size_al, size_al] at R
  have hW := bel_al (bel_al (bel_al (Below.refl _ w) (.cells #[.int .i64 (dhi ca), .int .u64 (dlo ca), .int .i64 sa] 24)) (.cells #[.int .i64 (dhi cb), .int .u64 (dlo cb), .int .i64 sb] 24)) (.cells #[.int .i64 0, .int .u64 0, .int .i64 0] 24)
  go_enter Try.func10, Try.ntmps10
  go_wp2_with fail
  refine (form_yes ca sa _ ia hsa).mono ?_
  rintro e W ⟨rfl, hb⟩
  replace A := A.step hb
  replace B := B.step hb
  replace R := R.step hb
  replace hW := hW.trans (hb.mono hW.size)
  clear hb
  obtain ⟨p, hp⟩ : ∃ p, p = w.heap.size := ⟨_, rfl⟩
  have HP : Hid (p = w.heap.size) := hp
  rw [← hp] at A B R
  rw [← hp]
  clear hp
  have b0 := B.c0
  have b1 := B.c1
  have b2 := B.c2
  go_wp2_with fail
  refine (form_yes cb sb _ ib hsb).mono ?_
  rintro e W2 ⟨rfl, hb⟩
  replace A := A.step hb
  replace B := B.step hb
  replace R := R.step hb
  replace hW := hW.trans (hb.mono hW.size)
  clear hb b0 b1 b2
  have a2 := A.c2
  have b0 := B.c0
  have b1 := B.c1
  have b2 := B.c2
  go_wp2_with fail
  clear a2 b0 b1 b2
  refine (at_eq cb sb _ Y _ ib (by omega) (by omega) HY.out).mono ?_
  rintro e W3 ⟨⟨rY, rfl, hrY⟩, hb⟩
  obtain ⟨ym, ya, yn, yk, rfl, hny, hay, hby⟩ := hrY.form
  replace A := (A.step hb).alloc (.cells #[.bool ym, .slice ya yn yk] 66)
  replace B := (B.step hb).alloc (.cells #[.bool ym, .slice ya yn yk] 66)
  have R0 := R.step hb
  replace R := R0.alloc (.cells #[.bool ym, .slice ya yn yk] 66)
  have lq0 : p + 1 + 1 < W3.heap.size := by have := R0.lt; omega
  have Q := v2_new W3 (.bool ym) (.slice ya yn yk) 66
  replace hrY := hrY.alloc (.cells #[.bool ym, .slice ya yn yk] 66)
  replace hW := bel_al (hW.trans (hb.mono hW.size)) (.cells #[.bool ym, .slice ya yn yk] 66)
  clear hb hny hay hby
  go_wp2_with fail
  generalize W3.alloc (.cells #[.bool ym, .slice ya yn yk] 66) = W4 at *
  obtain ⟨q, hq⟩ : ∃ q, q = W3.heap.size := ⟨_, rfl⟩
  rw [← hq] at Q lq0
  rw [← hq]
  clear hq
  skip
  have lA := A.lt
  have lB := B.lt
  have lR := R.lt
  have lQ := Q.lt
  go_region_held3 (fun w' => w'.cell? ⟨p, 0, none⟩ = some (.int .i64 (dhi ca)) ∧ w'.cell? ⟨p, 1, none⟩ = some (.int .u64 (dlo ca)) ∧ w'.cell? ⟨p, 2, none⟩ = some (.int .i64 sa) ∧ w'.cell? ⟨q, 0, none⟩ = some (.bool ym) ∧ w'.cell? ⟨q, 1, none⟩ = some (.slice ya yn yk))
    (first | exact ⟨A.c0, A.c1, A.c2, Q.c0, Q.c1⟩ | exact ⟨A.drew.c0, A.drew.c1, A.drew.c2, Q.drew.c0, Q.drew.c1⟩ | exact ⟨A5.c0, A5.c1, A5.c2, Q5.c0, Q5.c1⟩ | exact ⟨A6.c0, A6.c1, A6.c2, Q6.c0, Q6.c1⟩ | exact ⟨A7.c0, A7.c1, A7.c2, Q7.c0, Q7.c1⟩ | exact ⟨(cell_put3 (by omega)).trans A7.c0, (cell_put3 (by omega)).trans A7.c1, (cell_put3 (by omega)).trans A7.c2, (cell_put3 (by omega)).trans Q7.c0, (cell_put3 (by omega)).trans Q7.c1⟩)
    (first
      | (go_at_call 35; refine (at_eq ca sa _ X _ ia (by omega) (by omega) HX.out).mono ?_; rintro e w5 ⟨⟨r5, rfl, hr5⟩, hb5⟩; have A5 := A.drew.step hb5; have Q5 := Q.drew.step hb5; have R5 := R.drew.step hb5; have h5 := hrY.drew.step hb5; have hW5 := hW.trans ((bel_of_drew hb5).mono hW.size))
      | (go_at_call 38; refine (sum_in _ _ X Y _ hr5 h5 MX.out MY.out).mono ?_; rintro e w6 ⟨⟨r6, rfl, hr6⟩, hb6⟩; have A6 := A5.step hb6; have Q6 := Q5.step hb6; have R6 := R5.step hb6; have hW6 := hW5.trans (hb6.mono hW5.size); rw [HV.out] at hr6)
      | (go_at_call 37; refine (decr_ok _ Z0 _ _ hr6 HR0.out).mono ?_; rintro e w7 ⟨rfl, hb7⟩; have A7 := A6.step hb7; have Q7 := Q6.step hb7; have R7 := R6.step hb7; have hW7 := hW6.trans (hb7.mono hW6.size); have r0 := R7.c0; have r1 := R7.c1; have r2 := R7.c2; have f0 := R7.free 0; have f1 := R7.free 1; have f2 := R7.free 2))
  have V := ((R7.set0 (.int .i64 (dhi Z0))).set1 (.int .u64 (dlo Z0))).set2 (.int .i64 (sb : Int))
  have hB := ((hW7.setCell (p := ⟨p + 1 + 1, 0, none⟩) (by have := HP.out; show _ ≤ p + 1 + 1; omega) (.int .i64 (dhi Z0))).setCell (p := ⟨p + 1 + 1, 1, none⟩) (by have := HP.out; show _ ≤ p + 1 + 1; omega) (.int .u64 (dlo Z0))).setCell (p := ⟨p + 1 + 1, 2, none⟩) (by have := HP.out; show _ ≤ p + 1 + 1; omega) (.int .i64 (sb : Int))
  have HB := (show Hid _ from hB)
  clear hB A A5 A6 A7 B Q Q5 Q6 Q7 R R0 R5 R6 R7 r0 r1 r2 f0 f1 f2 hr5 hr6 h5 hrY hb5 hb6 hb7 hW hW5 hW6 hW7 lA lB lR lQ
  generalize ((w7.setCell ⟨p + 1 + 1, 0, none⟩ (.int .i64 (dhi Z0))).setCell ⟨p + 1 + 1, 1, none⟩ (.int .u64 (dlo Z0))).setCell ⟨p + 1 + 1, 2, none⟩ (.int .i64 (sb : Int)) = Z at *
  have c0 := V.c0
  have c1 := V.c1
  have c2 := V.c2
  clear V
  go_wp2_with fail
  refine bodyPost_ret (v := .tuple #[.agg #[.int .i64 (dhi Z0), .int .u64 (dlo Z0), .int .i64 (sb : Int)], .int .i64 0]) (by simp [results, Try.results10, go_sem, *]) rfl ⟨rfl, HB.out⟩
set_option maxHeartbeats 1000000 in
set_option maxRecDepth 100000 in
theorem dadd_ayge (ca cb : Int) (sa sb : Nat) (w : World) (ia : InR ca) (ib : InR cb) (hsa : (sa : Int) ≤ 18) (hsb : (sb : Int) ≤ 18) (hlt : ¬ sa < sb) (hr : InR (tv ca sa cb sb)) :
    Calls Try.prog 10 #[.agg #[.int .i64 (dhi ca), .int .u64 (dlo ca), .int .i64 sa], .agg #[.int .i64 (dhi cb), .int .u64 (dlo cb), .int .i64 sb], .bool false] w fun e w' => e = .returned (.tuple #[.agg #[.int .i64 (dhi (tv ca sa cb sb)), .int .u64 (dlo (tv ca sa cb sb)), .int .i64 (sa : Int)], .int .i64 0]) ∧ Below w.heap.size w w' := by
  obtain ⟨X, hX⟩ : ∃ X, X = ca * 10 ^ ((sa : Int) - sa).toNat := ⟨_, rfl⟩
  obtain ⟨Y, hY⟩ : ∃ Y, Y = cb * 10 ^ ((sa : Int) - sb).toNat := ⟨_, rfl⟩
  obtain ⟨Z0, hZ0⟩ : ∃ Z, Z = tv ca sa cb sb := ⟨_, rfl⟩
  have HV : Hid (X + Y = Z0) := by
    obtain ⟨e1, e2⟩ := tv_at ca cb sa sb (sa : Int) (by omega)
    show _ = _
    rw [hX, hY, hZ0, e1, e2]; unfold tv; rfl
  have MX : Hid (Mi X) := by rw [hX]; exact up_mi ia _ (by omega)
  have MY : Hid (Mi Y) := by rw [hY]; exact up_mi ib _ (by omega)
  have HX := (show Hid _ from hX)
  have HY := (show Hid _ from hY)
  rw [← hZ0] at hr
  rw [← hZ0]
  have HR0 := (show Hid _ from hr)
  clear hX hY hZ0 hr
  have A := ((v3_new w (.int .i64 (dhi ca)) (.int .u64 (dlo ca)) (.int .i64 sa) 24).alloc (.cells #[.int .i64 (dhi cb), .int .u64 (dlo cb), .int .i64 sb] 24)).alloc (.cells #[.int .i64 0, .int .u64 0, .int .i64 0] 24)
  have B := (v3_new (w.alloc (.cells #[.int .i64 (dhi ca), .int .u64 (dlo ca), .int .i64 sa] 24)) (.int .i64 (dhi cb)) (.int .u64 (dlo cb)) (.int .i64 sb) 24).alloc (.cells #[.int .i64 0, .int .u64 0, .int .i64 0] 24)
  rw [size_al] at B
  have R := v3_new ((w.alloc (.cells #[.int .i64 (dhi ca), .int .u64 (dlo ca), .int .i64 sa] 24)).alloc (.cells #[.int .i64 (dhi cb), .int .u64 (dlo cb), .int .i64 sb] 24)) (.int .i64 0) (.int .u64 0) (.int .i64 0) 24
  rw [size_al, size_al] at R
  have hW := bel_al (bel_al (bel_al (Below.refl _ w) (.cells #[.int .i64 (dhi ca), .int .u64 (dlo ca), .int .i64 sa] 24)) (.cells #[.int .i64 (dhi cb), .int .u64 (dlo cb), .int .i64 sb] 24)) (.cells #[.int .i64 0, .int .u64 0, .int .i64 0] 24)
  go_enter Try.func10, Try.ntmps10
  go_wp2_with fail
  refine (form_yes ca sa _ ia hsa).mono ?_
  rintro e W ⟨rfl, hb⟩
  replace A := A.step hb
  replace B := B.step hb
  replace R := R.step hb
  replace hW := hW.trans (hb.mono hW.size)
  clear hb
  obtain ⟨p, hp⟩ : ∃ p, p = w.heap.size := ⟨_, rfl⟩
  have HP : Hid (p = w.heap.size) := hp
  rw [← hp] at A B R
  rw [← hp]
  clear hp
  have b0 := B.c0
  have b1 := B.c1
  have b2 := B.c2
  go_wp2_with fail
  refine (form_yes cb sb _ ib hsb).mono ?_
  rintro e W2 ⟨rfl, hb⟩
  replace A := A.step hb
  replace B := B.step hb
  replace R := R.step hb
  replace hW := hW.trans (hb.mono hW.size)
  clear hb b0 b1 b2
  have a2 := A.c2
  have b0 := B.c0
  have b1 := B.c1
  have b2 := B.c2
  go_wp2_with fail
  clear a2 b0 b1 b2
  refine (at_eq cb sb _ Y _ ib (by omega) (by omega) HY.out).mono ?_
  rintro e W3 ⟨⟨rY, rfl, hrY⟩, hb⟩
  obtain ⟨ym, ya, yn, yk, rfl, hny, hay, hby⟩ := hrY.form
  replace A := (A.step hb).alloc (.cells #[.bool ym, .slice ya yn yk] 66)
  replace B := (B.step hb).alloc (.cells #[.bool ym, .slice ya yn yk] 66)
  have R0 := R.step hb
  replace R := R0.alloc (.cells #[.bool ym, .slice ya yn yk] 66)
  have lq0 : p + 1 + 1 < W3.heap.size := by have := R0.lt; omega
  have Q := v2_new W3 (.bool ym) (.slice ya yn yk) 66
  replace hrY := hrY.alloc (.cells #[.bool ym, .slice ya yn yk] 66)
  replace hW := bel_al (hW.trans (hb.mono hW.size)) (.cells #[.bool ym, .slice ya yn yk] 66)
  clear hb hny hay hby
  go_wp2_with fail
  generalize W3.alloc (.cells #[.bool ym, .slice ya yn yk] 66) = W4 at *
  obtain ⟨q, hq⟩ : ∃ q, q = W3.heap.size := ⟨_, rfl⟩
  rw [← hq] at Q lq0
  rw [← hq]
  clear hq
  skip
  have lA := A.lt
  have lB := B.lt
  have lR := R.lt
  have lQ := Q.lt
  go_region_held3 (fun w' => w'.cell? ⟨p, 0, none⟩ = some (.int .i64 (dhi ca)) ∧ w'.cell? ⟨p, 1, none⟩ = some (.int .u64 (dlo ca)) ∧ w'.cell? ⟨p, 2, none⟩ = some (.int .i64 sa) ∧ w'.cell? ⟨q, 0, none⟩ = some (.bool ym) ∧ w'.cell? ⟨q, 1, none⟩ = some (.slice ya yn yk))
    (first | exact ⟨A.c0, A.c1, A.c2, Q.c0, Q.c1⟩ | exact ⟨A.drew.c0, A.drew.c1, A.drew.c2, Q.drew.c0, Q.drew.c1⟩ | exact ⟨A5.c0, A5.c1, A5.c2, Q5.c0, Q5.c1⟩ | exact ⟨A6.c0, A6.c1, A6.c2, Q6.c0, Q6.c1⟩ | exact ⟨A7.c0, A7.c1, A7.c2, Q7.c0, Q7.c1⟩ | exact ⟨(cell_put3 (by omega)).trans A7.c0, (cell_put3 (by omega)).trans A7.c1, (cell_put3 (by omega)).trans A7.c2, (cell_put3 (by omega)).trans Q7.c0, (cell_put3 (by omega)).trans Q7.c1⟩)
    (first
      | (go_at_call 35; refine (at_eq ca sa _ X _ ia (by omega) (by omega) HX.out).mono ?_; rintro e w5 ⟨⟨r5, rfl, hr5⟩, hb5⟩; have A5 := A.drew.step hb5; have Q5 := Q.drew.step hb5; have R5 := R.drew.step hb5; have h5 := hrY.drew.step hb5; have hW5 := hW.trans ((bel_of_drew hb5).mono hW.size))
      | (go_at_call 38; refine (sum_in _ _ X Y _ hr5 h5 MX.out MY.out).mono ?_; rintro e w6 ⟨⟨r6, rfl, hr6⟩, hb6⟩; have A6 := A5.step hb6; have Q6 := Q5.step hb6; have R6 := R5.step hb6; have hW6 := hW5.trans (hb6.mono hW5.size); rw [HV.out] at hr6)
      | (go_at_call 37; refine (decr_ok _ Z0 _ _ hr6 HR0.out).mono ?_; rintro e w7 ⟨rfl, hb7⟩; have A7 := A6.step hb7; have Q7 := Q6.step hb7; have R7 := R6.step hb7; have hW7 := hW6.trans (hb7.mono hW6.size); have r0 := R7.c0; have r1 := R7.c1; have r2 := R7.c2; have f0 := R7.free 0; have f1 := R7.free 1; have f2 := R7.free 2))
  have V := ((R7.set0 (.int .i64 (dhi Z0))).set1 (.int .u64 (dlo Z0))).set2 (.int .i64 (sa : Int))
  have hB := ((hW7.setCell (p := ⟨p + 1 + 1, 0, none⟩) (by have := HP.out; show _ ≤ p + 1 + 1; omega) (.int .i64 (dhi Z0))).setCell (p := ⟨p + 1 + 1, 1, none⟩) (by have := HP.out; show _ ≤ p + 1 + 1; omega) (.int .u64 (dlo Z0))).setCell (p := ⟨p + 1 + 1, 2, none⟩) (by have := HP.out; show _ ≤ p + 1 + 1; omega) (.int .i64 (sa : Int))
  have HB := (show Hid _ from hB)
  clear hB A A5 A6 A7 B Q Q5 Q6 Q7 R R0 R5 R6 R7 r0 r1 r2 f0 f1 f2 hr5 hr6 h5 hrY hb5 hb6 hb7 hW hW5 hW6 hW7 lA lB lR lQ
  generalize ((w7.setCell ⟨p + 1 + 1, 0, none⟩ (.int .i64 (dhi Z0))).setCell ⟨p + 1 + 1, 1, none⟩ (.int .u64 (dlo Z0))).setCell ⟨p + 1 + 1, 2, none⟩ (.int .i64 (sa : Int)) = Z at *
  have c0 := V.c0
  have c1 := V.c1
  have c2 := V.c2
  clear V
  go_wp2_with fail
  refine bodyPost_ret (v := .tuple #[.agg #[.int .i64 (dhi Z0), .int .u64 (dlo Z0), .int .i64 (sa : Int)], .int .i64 0]) (by simp [results, Try.results10, go_sem, *]) rfl ⟨rfl, HB.out⟩
set_option maxHeartbeats 1000000 in
set_option maxRecDepth 100000 in
theorem dadd_anlt (ca cb : Int) (sa sb : Nat) (w : World) (ia : InR ca) (ib : InR cb) (hsa : (sa : Int) ≤ 18) (hsb : (sb : Int) ≤ 18) (hlt : sa < sb) (hr : ¬ InR (tv ca sa cb sb)) :
    Calls Try.prog 10 #[.agg #[.int .i64 (dhi ca), .int .u64 (dlo ca), .int .i64 sa], .agg #[.int .i64 (dhi cb), .int .u64 (dlo cb), .int .i64 sb], .bool false] w fun e w' => e = .returned (.tuple #[.agg #[.int .i64 0, .int .u64 0, .int .i64 0], .int .i64 4]) ∧ Below w.heap.size w w' := by
  obtain ⟨X, hX⟩ : ∃ X, X = ca * 10 ^ ((sb : Int) - sa).toNat := ⟨_, rfl⟩
  obtain ⟨Y, hY⟩ : ∃ Y, Y = cb * 10 ^ ((sb : Int) - sb).toNat := ⟨_, rfl⟩
  obtain ⟨Z0, hZ0⟩ : ∃ Z, Z = tv ca sa cb sb := ⟨_, rfl⟩
  have HV : Hid (X + Y = Z0) := by
    obtain ⟨e1, e2⟩ := tv_at ca cb sa sb (sb : Int) (by omega)
    show _ = _
    rw [hX, hY, hZ0, e1, e2]; unfold tv; rfl
  have MX : Hid (Mi X) := by rw [hX]; exact up_mi ia _ (by omega)
  have MY : Hid (Mi Y) := by rw [hY]; exact up_mi ib _ (by omega)
  have HX := (show Hid _ from hX)
  have HY := (show Hid _ from hY)
  rw [← hZ0] at hr
  skip
  have HR0 := (show Hid _ from hr)
  clear hX hY hZ0 hr
  have A := ((v3_new w (.int .i64 (dhi ca)) (.int .u64 (dlo ca)) (.int .i64 sa) 24).alloc (.cells #[.int .i64 (dhi cb), .int .u64 (dlo cb), .int .i64 sb] 24)).alloc (.cells #[.int .i64 0, .int .u64 0, .int .i64 0] 24)
  have B := (v3_new (w.alloc (.cells #[.int .i64 (dhi ca), .int .u64 (dlo ca), .int .i64 sa] 24)) (.int .i64 (dhi cb)) (.int .u64 (dlo cb)) (.int .i64 sb) 24).alloc (.cells #[.int .i64 0, .int .u64 0, .int .i64 0] 24)
  rw [size_al] at B
  have R := v3_new ((w.alloc (.cells #[.int .i64 (dhi ca), .int .u64 (dlo ca), .int .i64 sa] 24)).alloc (.cells #[.int .i64 (dhi cb), .int .u64 (dlo cb), .int .i64 sb] 24)) (.int .i64 0) (.int .u64 0) (.int .i64 0) 24
  rw [size_al, size_al] at R
  have hW := bel_al (bel_al (bel_al (Below.refl _ w) (.cells #[.int .i64 (dhi ca), .int .u64 (dlo ca), .int .i64 sa] 24)) (.cells #[.int .i64 (dhi cb), .int .u64 (dlo cb), .int .i64 sb] 24)) (.cells #[.int .i64 0, .int .u64 0, .int .i64 0] 24)
  go_enter Try.func10, Try.ntmps10
  go_wp2_with fail
  refine (form_yes ca sa _ ia hsa).mono ?_
  rintro e W ⟨rfl, hb⟩
  replace A := A.step hb
  replace B := B.step hb
  replace R := R.step hb
  replace hW := hW.trans (hb.mono hW.size)
  clear hb
  obtain ⟨p, hp⟩ : ∃ p, p = w.heap.size := ⟨_, rfl⟩
  have HP : Hid (p = w.heap.size) := hp
  rw [← hp] at A B R
  rw [← hp]
  clear hp
  have b0 := B.c0
  have b1 := B.c1
  have b2 := B.c2
  go_wp2_with fail
  refine (form_yes cb sb _ ib hsb).mono ?_
  rintro e W2 ⟨rfl, hb⟩
  replace A := A.step hb
  replace B := B.step hb
  replace R := R.step hb
  replace hW := hW.trans (hb.mono hW.size)
  clear hb b0 b1 b2
  have a2 := A.c2
  have b0 := B.c0
  have b1 := B.c1
  have b2 := B.c2
  go_wp2_with fail
  clear a2 b0 b1 b2
  refine (at_eq cb sb _ Y _ ib (by omega) (by omega) HY.out).mono ?_
  rintro e W3 ⟨⟨rY, rfl, hrY⟩, hb⟩
  obtain ⟨ym, ya, yn, yk, rfl, hny, hay, hby⟩ := hrY.form
  replace A := (A.step hb).alloc (.cells #[.bool ym, .slice ya yn yk] 66)
  replace B := (B.step hb).alloc (.cells #[.bool ym, .slice ya yn yk] 66)
  have R0 := R.step hb
  replace R := R0.alloc (.cells #[.bool ym, .slice ya yn yk] 66)
  have lq0 : p + 1 + 1 < W3.heap.size := by have := R0.lt; omega
  have Q := v2_new W3 (.bool ym) (.slice ya yn yk) 66
  replace hrY := hrY.alloc (.cells #[.bool ym, .slice ya yn yk] 66)
  replace hW := bel_al (hW.trans (hb.mono hW.size)) (.cells #[.bool ym, .slice ya yn yk] 66)
  clear hb hny hay hby
  go_wp2_with fail
  generalize W3.alloc (.cells #[.bool ym, .slice ya yn yk] 66) = W4 at *
  obtain ⟨q, hq⟩ : ∃ q, q = W3.heap.size := ⟨_, rfl⟩
  rw [← hq] at Q lq0
  rw [← hq]
  clear hq
  skip
  have lA := A.lt
  have lB := B.lt
  have lR := R.lt
  have lQ := Q.lt
  go_region_held3 (fun w' => w'.cell? ⟨p, 0, none⟩ = some (.int .i64 (dhi ca)) ∧ w'.cell? ⟨p, 1, none⟩ = some (.int .u64 (dlo ca)) ∧ w'.cell? ⟨p, 2, none⟩ = some (.int .i64 sa) ∧ w'.cell? ⟨q, 0, none⟩ = some (.bool ym) ∧ w'.cell? ⟨q, 1, none⟩ = some (.slice ya yn yk))
    (first | exact ⟨A.c0, A.c1, A.c2, Q.c0, Q.c1⟩ | exact ⟨A.drew.c0, A.drew.c1, A.drew.c2, Q.drew.c0, Q.drew.c1⟩ | exact ⟨A5.c0, A5.c1, A5.c2, Q5.c0, Q5.c1⟩ | exact ⟨A6.c0, A6.c1, A6.c2, Q6.c0, Q6.c1⟩ | exact ⟨A7.c0, A7.c1, A7.c2, Q7.c0, Q7.c1⟩ | exact ⟨(cell_put3 (by omega)).trans A7.c0, (cell_put3 (by omega)).trans A7.c1, (cell_put3 (by omega)).trans A7.c2, (cell_put3 (by omega)).trans Q7.c0, (cell_put3 (by omega)).trans Q7.c1⟩)
    (first
      | (go_at_call 35; refine (at_eq ca sa _ X _ ia (by omega) (by omega) HX.out).mono ?_; rintro e w5 ⟨⟨r5, rfl, hr5⟩, hb5⟩; have A5 := A.drew.step hb5; have Q5 := Q.drew.step hb5; have R5 := R.drew.step hb5; have h5 := hrY.drew.step hb5; have hW5 := hW.trans ((bel_of_drew hb5).mono hW.size))
      | (go_at_call 38; refine (sum_in _ _ X Y _ hr5 h5 MX.out MY.out).mono ?_; rintro e w6 ⟨⟨r6, rfl, hr6⟩, hb6⟩; have A6 := A5.step hb6; have Q6 := Q5.step hb6; have R6 := R5.step hb6; have hW6 := hW5.trans (hb6.mono hW5.size); rw [HV.out] at hr6)
      | (go_at_call 37; refine (decr_big _ Z0 _ _ hr6 (not_inr HR0.out)).mono ?_; rintro e w7 ⟨rfl, hb7⟩; have A7 := A6.step hb7; have Q7 := Q6.step hb7; have R7 := R6.step hb7; have hW7 := hW6.trans (hb7.mono hW6.size); have r0 := R7.c0; have r1 := R7.c1; have r2 := R7.c2; have f0 := R7.free 0; have f1 := R7.free 1; have f2 := R7.free 2))
  have V := ((R7.set0 (.int .i64 0)).set1 (.int .u64 0)).set2 (.int .i64 0)
  have hB := ((hW7.setCell (p := ⟨p + 1 + 1, 0, none⟩) (by have := HP.out; show _ ≤ p + 1 + 1; omega) (.int .i64 0)).setCell (p := ⟨p + 1 + 1, 1, none⟩) (by have := HP.out; show _ ≤ p + 1 + 1; omega) (.int .u64 0)).setCell (p := ⟨p + 1 + 1, 2, none⟩) (by have := HP.out; show _ ≤ p + 1 + 1; omega) (.int .i64 0)
  have HB := (show Hid _ from hB)
  clear hB A A5 A6 A7 B Q Q5 Q6 Q7 R R0 R5 R6 R7 r0 r1 r2 f0 f1 f2 hr5 hr6 h5 hrY hb5 hb6 hb7 hW hW5 hW6 hW7 lA lB lR lQ
  generalize ((w7.setCell ⟨p + 1 + 1, 0, none⟩ (.int .i64 0)).setCell ⟨p + 1 + 1, 1, none⟩ (.int .u64 0)).setCell ⟨p + 1 + 1, 2, none⟩ (.int .i64 0) = Z at *
  have c0 := V.c0
  have c1 := V.c1
  have c2 := V.c2
  clear V
  go_wp2_with fail
  refine bodyPost_ret (v := .tuple #[.agg #[.int .i64 0, .int .u64 0, .int .i64 0], .int .i64 4]) (by simp [results, Try.results10, go_sem, *]) rfl ⟨rfl, HB.out⟩
set_option maxHeartbeats 1000000 in
set_option maxRecDepth 100000 in
theorem dadd_ange (ca cb : Int) (sa sb : Nat) (w : World) (ia : InR ca) (ib : InR cb) (hsa : (sa : Int) ≤ 18) (hsb : (sb : Int) ≤ 18) (hlt : ¬ sa < sb) (hr : ¬ InR (tv ca sa cb sb)) :
    Calls Try.prog 10 #[.agg #[.int .i64 (dhi ca), .int .u64 (dlo ca), .int .i64 sa], .agg #[.int .i64 (dhi cb), .int .u64 (dlo cb), .int .i64 sb], .bool false] w fun e w' => e = .returned (.tuple #[.agg #[.int .i64 0, .int .u64 0, .int .i64 0], .int .i64 4]) ∧ Below w.heap.size w w' := by
  obtain ⟨X, hX⟩ : ∃ X, X = ca * 10 ^ ((sa : Int) - sa).toNat := ⟨_, rfl⟩
  obtain ⟨Y, hY⟩ : ∃ Y, Y = cb * 10 ^ ((sa : Int) - sb).toNat := ⟨_, rfl⟩
  obtain ⟨Z0, hZ0⟩ : ∃ Z, Z = tv ca sa cb sb := ⟨_, rfl⟩
  have HV : Hid (X + Y = Z0) := by
    obtain ⟨e1, e2⟩ := tv_at ca cb sa sb (sa : Int) (by omega)
    show _ = _
    rw [hX, hY, hZ0, e1, e2]; unfold tv; rfl
  have MX : Hid (Mi X) := by rw [hX]; exact up_mi ia _ (by omega)
  have MY : Hid (Mi Y) := by rw [hY]; exact up_mi ib _ (by omega)
  have HX := (show Hid _ from hX)
  have HY := (show Hid _ from hY)
  rw [← hZ0] at hr
  skip
  have HR0 := (show Hid _ from hr)
  clear hX hY hZ0 hr
  have A := ((v3_new w (.int .i64 (dhi ca)) (.int .u64 (dlo ca)) (.int .i64 sa) 24).alloc (.cells #[.int .i64 (dhi cb), .int .u64 (dlo cb), .int .i64 sb] 24)).alloc (.cells #[.int .i64 0, .int .u64 0, .int .i64 0] 24)
  have B := (v3_new (w.alloc (.cells #[.int .i64 (dhi ca), .int .u64 (dlo ca), .int .i64 sa] 24)) (.int .i64 (dhi cb)) (.int .u64 (dlo cb)) (.int .i64 sb) 24).alloc (.cells #[.int .i64 0, .int .u64 0, .int .i64 0] 24)
  rw [size_al] at B
  have R := v3_new ((w.alloc (.cells #[.int .i64 (dhi ca), .int .u64 (dlo ca), .int .i64 sa] 24)).alloc (.cells #[.int .i64 (dhi cb), .int .u64 (dlo cb), .int .i64 sb] 24)) (.int .i64 0) (.int .u64 0) (.int .i64 0) 24
  rw [size_al, size_al] at R
  have hW := bel_al (bel_al (bel_al (Below.refl _ w) (.cells #[.int .i64 (dhi ca), .int .u64 (dlo ca), .int .i64 sa] 24)) (.cells #[.int .i64 (dhi cb), .int .u64 (dlo cb), .int .i64 sb] 24)) (.cells #[.int .i64 0, .int .u64 0, .int .i64 0] 24)
  go_enter Try.func10, Try.ntmps10
  go_wp2_with fail
  refine (form_yes ca sa _ ia hsa).mono ?_
  rintro e W ⟨rfl, hb⟩
  replace A := A.step hb
  replace B := B.step hb
  replace R := R.step hb
  replace hW := hW.trans (hb.mono hW.size)
  clear hb
  obtain ⟨p, hp⟩ : ∃ p, p = w.heap.size := ⟨_, rfl⟩
  have HP : Hid (p = w.heap.size) := hp
  rw [← hp] at A B R
  rw [← hp]
  clear hp
  have b0 := B.c0
  have b1 := B.c1
  have b2 := B.c2
  go_wp2_with fail
  refine (form_yes cb sb _ ib hsb).mono ?_
  rintro e W2 ⟨rfl, hb⟩
  replace A := A.step hb
  replace B := B.step hb
  replace R := R.step hb
  replace hW := hW.trans (hb.mono hW.size)
  clear hb b0 b1 b2
  have a2 := A.c2
  have b0 := B.c0
  have b1 := B.c1
  have b2 := B.c2
  go_wp2_with fail
  clear a2 b0 b1 b2
  refine (at_eq cb sb _ Y _ ib (by omega) (by omega) HY.out).mono ?_
  rintro e W3 ⟨⟨rY, rfl, hrY⟩, hb⟩
  obtain ⟨ym, ya, yn, yk, rfl, hny, hay, hby⟩ := hrY.form
  replace A := (A.step hb).alloc (.cells #[.bool ym, .slice ya yn yk] 66)
  replace B := (B.step hb).alloc (.cells #[.bool ym, .slice ya yn yk] 66)
  have R0 := R.step hb
  replace R := R0.alloc (.cells #[.bool ym, .slice ya yn yk] 66)
  have lq0 : p + 1 + 1 < W3.heap.size := by have := R0.lt; omega
  have Q := v2_new W3 (.bool ym) (.slice ya yn yk) 66
  replace hrY := hrY.alloc (.cells #[.bool ym, .slice ya yn yk] 66)
  replace hW := bel_al (hW.trans (hb.mono hW.size)) (.cells #[.bool ym, .slice ya yn yk] 66)
  clear hb hny hay hby
  go_wp2_with fail
  generalize W3.alloc (.cells #[.bool ym, .slice ya yn yk] 66) = W4 at *
  obtain ⟨q, hq⟩ : ∃ q, q = W3.heap.size := ⟨_, rfl⟩
  rw [← hq] at Q lq0
  rw [← hq]
  clear hq
  skip
  have lA := A.lt
  have lB := B.lt
  have lR := R.lt
  have lQ := Q.lt
  go_region_held3 (fun w' => w'.cell? ⟨p, 0, none⟩ = some (.int .i64 (dhi ca)) ∧ w'.cell? ⟨p, 1, none⟩ = some (.int .u64 (dlo ca)) ∧ w'.cell? ⟨p, 2, none⟩ = some (.int .i64 sa) ∧ w'.cell? ⟨q, 0, none⟩ = some (.bool ym) ∧ w'.cell? ⟨q, 1, none⟩ = some (.slice ya yn yk))
    (first | exact ⟨A.c0, A.c1, A.c2, Q.c0, Q.c1⟩ | exact ⟨A.drew.c0, A.drew.c1, A.drew.c2, Q.drew.c0, Q.drew.c1⟩ | exact ⟨A5.c0, A5.c1, A5.c2, Q5.c0, Q5.c1⟩ | exact ⟨A6.c0, A6.c1, A6.c2, Q6.c0, Q6.c1⟩ | exact ⟨A7.c0, A7.c1, A7.c2, Q7.c0, Q7.c1⟩ | exact ⟨(cell_put3 (by omega)).trans A7.c0, (cell_put3 (by omega)).trans A7.c1, (cell_put3 (by omega)).trans A7.c2, (cell_put3 (by omega)).trans Q7.c0, (cell_put3 (by omega)).trans Q7.c1⟩)
    (first
      | (go_at_call 35; refine (at_eq ca sa _ X _ ia (by omega) (by omega) HX.out).mono ?_; rintro e w5 ⟨⟨r5, rfl, hr5⟩, hb5⟩; have A5 := A.drew.step hb5; have Q5 := Q.drew.step hb5; have R5 := R.drew.step hb5; have h5 := hrY.drew.step hb5; have hW5 := hW.trans ((bel_of_drew hb5).mono hW.size))
      | (go_at_call 38; refine (sum_in _ _ X Y _ hr5 h5 MX.out MY.out).mono ?_; rintro e w6 ⟨⟨r6, rfl, hr6⟩, hb6⟩; have A6 := A5.step hb6; have Q6 := Q5.step hb6; have R6 := R5.step hb6; have hW6 := hW5.trans (hb6.mono hW5.size); rw [HV.out] at hr6)
      | (go_at_call 37; refine (decr_big _ Z0 _ _ hr6 (not_inr HR0.out)).mono ?_; rintro e w7 ⟨rfl, hb7⟩; have A7 := A6.step hb7; have Q7 := Q6.step hb7; have R7 := R6.step hb7; have hW7 := hW6.trans (hb7.mono hW6.size); have r0 := R7.c0; have r1 := R7.c1; have r2 := R7.c2; have f0 := R7.free 0; have f1 := R7.free 1; have f2 := R7.free 2))
  have V := ((R7.set0 (.int .i64 0)).set1 (.int .u64 0)).set2 (.int .i64 0)
  have hB := ((hW7.setCell (p := ⟨p + 1 + 1, 0, none⟩) (by have := HP.out; show _ ≤ p + 1 + 1; omega) (.int .i64 0)).setCell (p := ⟨p + 1 + 1, 1, none⟩) (by have := HP.out; show _ ≤ p + 1 + 1; omega) (.int .u64 0)).setCell (p := ⟨p + 1 + 1, 2, none⟩) (by have := HP.out; show _ ≤ p + 1 + 1; omega) (.int .i64 0)
  have HB := (show Hid _ from hB)
  clear hB A A5 A6 A7 B Q Q5 Q6 Q7 R R0 R5 R6 R7 r0 r1 r2 f0 f1 f2 hr5 hr6 h5 hrY hb5 hb6 hb7 hW hW5 hW6 hW7 lA lB lR lQ
  generalize ((w7.setCell ⟨p + 1 + 1, 0, none⟩ (.int .i64 0)).setCell ⟨p + 1 + 1, 1, none⟩ (.int .u64 0)).setCell ⟨p + 1 + 1, 2, none⟩ (.int .i64 0) = Z at *
  have c0 := V.c0
  have c1 := V.c1
  have c2 := V.c2
  clear V
  go_wp2_with fail
  refine bodyPost_ret (v := .tuple #[.agg #[.int .i64 0, .int .u64 0, .int .i64 0], .int .i64 4]) (by simp [results, Try.results10, go_sem, *]) rfl ⟨rfl, HB.out⟩
set_option maxHeartbeats 1000000 in
set_option maxRecDepth 100000 in
theorem dadd_sylt (ca cb : Int) (sa sb : Nat) (w : World) (ia : InR ca) (ib : InR cb) (hsa : (sa : Int) ≤ 18) (hsb : (sb : Int) ≤ 18) (hlt : sa < sb) (hr : InR (tv ca sa (-cb) sb)) :
    Calls Try.prog 10 #[.agg #[.int .i64 (dhi ca), .int .u64 (dlo ca), .int .i64 sa], .agg #[.int .i64 (dhi cb), .int .u64 (dlo cb), .int .i64 sb], .bool true] w fun e w' => e = .returned (.tuple #[.agg #[.int .i64 (dhi (tv ca sa (-cb) sb)), .int .u64 (dlo (tv ca sa (-cb) sb)), .int .i64 (sb : Int)], .int .i64 0]) ∧ Below w.heap.size w w' := by
  obtain ⟨X, hX⟩ : ∃ X, X = ca * 10 ^ ((sb : Int) - sa).toNat := ⟨_, rfl⟩
  obtain ⟨Y, hY⟩ : ∃ Y, Y = cb * 10 ^ ((sb : Int) - sb).toNat := ⟨_, rfl⟩
  obtain ⟨Z0, hZ0⟩ : ∃ Z, Z = tv ca sa (-cb) sb := ⟨_, rfl⟩
  have HV : Hid (X + -Y = Z0) := by
    obtain ⟨e1, e2⟩ := tv_at ca cb sa sb (sb : Int) (by omega)
    show _ = _
    rw [hX, hY, hZ0, e1, e2]; unfold tv; rw [Int.neg_mul]
  have MX : Hid (Mi X) := by rw [hX]; exact up_mi ia _ (by omega)
  have MY : Hid (Mi (-Y)) := by show Mi (-Y); unfold Mi; rw [Int.natAbs_neg]; show Mi Y; rw [hY]; exact up_mi ib _ (by omega)
  have HX := (show Hid _ from hX)
  have HY := (show Hid _ from hY)
  rw [← hZ0] at hr
  rw [← hZ0]
  have HR0 := (show Hid _ from hr)
  clear hX hY hZ0 hr
  have A := ((v3_new w (.int .i64 (dhi ca)) (.int .u64 (dlo ca)) (.int .i64 sa) 24).alloc (.cells #[.int .i64 (dhi cb), .int .u64 (dlo cb), .int .i64 sb] 24)).alloc (.cells #[.int .i64 0, .int .u64 0, .int .i64 0] 24)
  have B := (v3_new (w.alloc (.cells #[.int .i64 (dhi ca), .int .u64 (dlo ca), .int .i64 sa] 24)) (.int .i64 (dhi cb)) (.int .u64 (dlo cb)) (.int .i64 sb) 24).alloc (.cells #[.int .i64 0, .int .u64 0, .int .i64 0] 24)
  rw [size_al] at B
  have R := v3_new ((w.alloc (.cells #[.int .i64 (dhi ca), .int .u64 (dlo ca), .int .i64 sa] 24)).alloc (.cells #[.int .i64 (dhi cb), .int .u64 (dlo cb), .int .i64 sb] 24)) (.int .i64 0) (.int .u64 0) (.int .i64 0) 24
  rw [size_al, size_al] at R
  have hW := bel_al (bel_al (bel_al (Below.refl _ w) (.cells #[.int .i64 (dhi ca), .int .u64 (dlo ca), .int .i64 sa] 24)) (.cells #[.int .i64 (dhi cb), .int .u64 (dlo cb), .int .i64 sb] 24)) (.cells #[.int .i64 0, .int .u64 0, .int .i64 0] 24)
  go_enter Try.func10, Try.ntmps10
  go_wp2_with fail
  refine (form_yes ca sa _ ia hsa).mono ?_
  rintro e W ⟨rfl, hb⟩
  replace A := A.step hb
  replace B := B.step hb
  replace R := R.step hb
  replace hW := hW.trans (hb.mono hW.size)
  clear hb
  obtain ⟨p, hp⟩ : ∃ p, p = w.heap.size := ⟨_, rfl⟩
  have HP : Hid (p = w.heap.size) := hp
  rw [← hp] at A B R
  rw [← hp]
  clear hp
  have b0 := B.c0
  have b1 := B.c1
  have b2 := B.c2
  go_wp2_with fail
  refine (form_yes cb sb _ ib hsb).mono ?_
  rintro e W2 ⟨rfl, hb⟩
  replace A := A.step hb
  replace B := B.step hb
  replace R := R.step hb
  replace hW := hW.trans (hb.mono hW.size)
  clear hb b0 b1 b2
  have a2 := A.c2
  have b0 := B.c0
  have b1 := B.c1
  have b2 := B.c2
  go_wp2_with fail
  clear a2 b0 b1 b2
  refine (at_eq cb sb _ Y _ ib (by omega) (by omega) HY.out).mono ?_
  rintro e W3 ⟨⟨rY, rfl, hrY⟩, hb⟩
  obtain ⟨ym, ya, yn, yk, rfl, hny, hay, hby⟩ := hrY.form
  replace A := (A.step hb).alloc (.cells #[.bool ym, .slice ya yn yk] 66)
  replace B := (B.step hb).alloc (.cells #[.bool ym, .slice ya yn yk] 66)
  have R0 := R.step hb
  replace R := R0.alloc (.cells #[.bool ym, .slice ya yn yk] 66)
  have lq0 : p + 1 + 1 < W3.heap.size := by have := R0.lt; omega
  have Q := v2_new W3 (.bool ym) (.slice ya yn yk) 66
  replace hrY := hrY.alloc (.cells #[.bool ym, .slice ya yn yk] 66)
  replace hW := bel_al (hW.trans (hb.mono hW.size)) (.cells #[.bool ym, .slice ya yn yk] 66)
  clear hb hny hay hby
  go_wp2_with fail
  generalize W3.alloc (.cells #[.bool ym, .slice ya yn yk] 66) = W4 at *
  obtain ⟨q, hq⟩ : ∃ q, q = W3.heap.size := ⟨_, rfl⟩
  rw [← hq] at Q lq0
  rw [← hq]
  clear hq
  refine (opp_in _ Y _ hrY).mono ?_
  rintro e W5 ⟨⟨rO, rfl, hrO⟩, hb⟩
  obtain ⟨om, oa, on', ok, rfl, hno, hao, hbo⟩ := hrO.form
  replace A := A.step hb
  replace B := B.step hb
  replace R := R.step hb
  replace Q := Q.step hb
  replace hW := hW.trans (hb.mono hW.size)
  clear hb hrY hno hao hbo
  have q0 := Q.c0
  have q1 := Q.c1
  have g0 := Q.free 0
  have g1 := Q.free 1
  go_wp2_with fail
  clear q0 q1 g0 g1
  have hrY := hrO.put Q (by decide) (.bool om) (.slice oa on' ok)
  replace A := A.keep q (by omega) (.bool om) (.slice oa on' ok)
  replace B := B.keep q (by omega) (.bool om) (.slice oa on' ok)
  replace R := R.keep q (by omega) (.bool om) (.slice oa on' ok)
  replace hW := bel_put hW (p := q) (by have := HP.out; omega) (.bool om) (.slice oa on' ok)
  replace Q := (Q.set0 (.bool om)).set1 (.slice oa on' ok)
  clear hrO
  generalize (W5.setCell ⟨q, 0, none⟩ (.bool om)).setCell ⟨q, 1, none⟩ (.slice oa on' ok) = W6 at *
  have lA := A.lt
  have lB := B.lt
  have lR := R.lt
  have lQ := Q.lt
  go_region_held3 (fun w' => w'.cell? ⟨p, 0, none⟩ = some (.int .i64 (dhi ca)) ∧ w'.cell? ⟨p, 1, none⟩ = some (.int .u64 (dlo ca)) ∧ w'.cell? ⟨p, 2, none⟩ = some (.int .i64 sa) ∧ w'.cell? ⟨q, 0, none⟩ = some (.bool om) ∧ w'.cell? ⟨q, 1, none⟩ = some (.slice oa on' ok))
    (first | exact ⟨A.c0, A.c1, A.c2, Q.c0, Q.c1⟩ | exact ⟨A.drew.c0, A.drew.c1, A.drew.c2, Q.drew.c0, Q.drew.c1⟩ | exact ⟨A5.c0, A5.c1, A5.c2, Q5.c0, Q5.c1⟩ | exact ⟨A6.c0, A6.c1, A6.c2, Q6.c0, Q6.c1⟩ | exact ⟨A7.c0, A7.c1, A7.c2, Q7.c0, Q7.c1⟩ | exact ⟨(cell_put3 (by omega)).trans A7.c0, (cell_put3 (by omega)).trans A7.c1, (cell_put3 (by omega)).trans A7.c2, (cell_put3 (by omega)).trans Q7.c0, (cell_put3 (by omega)).trans Q7.c1⟩)
    (first
      | (go_at_call 35; refine (at_eq ca sa _ X _ ia (by omega) (by omega) HX.out).mono ?_; rintro e w5 ⟨⟨r5, rfl, hr5⟩, hb5⟩; have A5 := A.drew.step hb5; have Q5 := Q.drew.step hb5; have R5 := R.drew.step hb5; have h5 := hrY.drew.step hb5; have hW5 := hW.trans ((bel_of_drew hb5).mono hW.size))
      | (go_at_call 38; refine (sum_in _ _ X (-Y) _ hr5 h5 MX.out MY.out).mono ?_; rintro e w6 ⟨⟨r6, rfl, hr6⟩, hb6⟩; have A6 := A5.step hb6; have Q6 := Q5.step hb6; have R6 := R5.step hb6; have hW6 := hW5.trans (hb6.mono hW5.size); rw [HV.out] at hr6)
      | (go_at_call 37; refine (decr_ok _ Z0 _ _ hr6 HR0.out).mono ?_; rintro e w7 ⟨rfl, hb7⟩; have A7 := A6.step hb7; have Q7 := Q6.step hb7; have R7 := R6.step hb7; have hW7 := hW6.trans (hb7.mono hW6.size); have r0 := R7.c0; have r1 := R7.c1; have r2 := R7.c2; have f0 := R7.free 0; have f1 := R7.free 1; have f2 := R7.free 2))
  have V := ((R7.set0 (.int .i64 (dhi Z0))).set1 (.int .u64 (dlo Z0))).set2 (.int .i64 (sb : Int))
  have hB := ((hW7.setCell (p := ⟨p + 1 + 1, 0, none⟩) (by have := HP.out; show _ ≤ p + 1 + 1; omega) (.int .i64 (dhi Z0))).setCell (p := ⟨p + 1 + 1, 1, none⟩) (by have := HP.out; show _ ≤ p + 1 + 1; omega) (.int .u64 (dlo Z0))).setCell (p := ⟨p + 1 + 1, 2, none⟩) (by have := HP.out; show _ ≤ p + 1 + 1; omega) (.int .i64 (sb : Int))
  have HB := (show Hid _ from hB)
  clear hB A A5 A6 A7 B Q Q5 Q6 Q7 R R0 R5 R6 R7 r0 r1 r2 f0 f1 f2 hr5 hr6 h5 hrY hb5 hb6 hb7 hW hW5 hW6 hW7 lA lB lR lQ
  generalize ((w7.setCell ⟨p + 1 + 1, 0, none⟩ (.int .i64 (dhi Z0))).setCell ⟨p + 1 + 1, 1, none⟩ (.int .u64 (dlo Z0))).setCell ⟨p + 1 + 1, 2, none⟩ (.int .i64 (sb : Int)) = Z at *
  have c0 := V.c0
  have c1 := V.c1
  have c2 := V.c2
  clear V
  go_wp2_with fail
  refine bodyPost_ret (v := .tuple #[.agg #[.int .i64 (dhi Z0), .int .u64 (dlo Z0), .int .i64 (sb : Int)], .int .i64 0]) (by simp [results, Try.results10, go_sem, *]) rfl ⟨rfl, HB.out⟩
set_option maxHeartbeats 1000000 in
set_option maxRecDepth 100000 in
theorem dadd_syge (ca cb : Int) (sa sb : Nat) (w : World) (ia : InR ca) (ib : InR cb) (hsa : (sa : Int) ≤ 18) (hsb : (sb : Int) ≤ 18) (hlt : ¬ sa < sb) (hr : InR (tv ca sa (-cb) sb)) :
    Calls Try.prog 10 #[.agg #[.int .i64 (dhi ca), .int .u64 (dlo ca), .int .i64 sa], .agg #[.int .i64 (dhi cb), .int .u64 (dlo cb), .int .i64 sb], .bool true] w fun e w' => e = .returned (.tuple #[.agg #[.int .i64 (dhi (tv ca sa (-cb) sb)), .int .u64 (dlo (tv ca sa (-cb) sb)), .int .i64 (sa : Int)], .int .i64 0]) ∧ Below w.heap.size w w' := by
  obtain ⟨X, hX⟩ : ∃ X, X = ca * 10 ^ ((sa : Int) - sa).toNat := ⟨_, rfl⟩
  obtain ⟨Y, hY⟩ : ∃ Y, Y = cb * 10 ^ ((sa : Int) - sb).toNat := ⟨_, rfl⟩
  obtain ⟨Z0, hZ0⟩ : ∃ Z, Z = tv ca sa (-cb) sb := ⟨_, rfl⟩
  have HV : Hid (X + -Y = Z0) := by
    obtain ⟨e1, e2⟩ := tv_at ca cb sa sb (sa : Int) (by omega)
    show _ = _
    rw [hX, hY, hZ0, e1, e2]; unfold tv; rw [Int.neg_mul]
  have MX : Hid (Mi X) := by rw [hX]; exact up_mi ia _ (by omega)
  have MY : Hid (Mi (-Y)) := by show Mi (-Y); unfold Mi; rw [Int.natAbs_neg]; show Mi Y; rw [hY]; exact up_mi ib _ (by omega)
  have HX := (show Hid _ from hX)
  have HY := (show Hid _ from hY)
  rw [← hZ0] at hr
  rw [← hZ0]
  have HR0 := (show Hid _ from hr)
  clear hX hY hZ0 hr
  have A := ((v3_new w (.int .i64 (dhi ca)) (.int .u64 (dlo ca)) (.int .i64 sa) 24).alloc (.cells #[.int .i64 (dhi cb), .int .u64 (dlo cb), .int .i64 sb] 24)).alloc (.cells #[.int .i64 0, .int .u64 0, .int .i64 0] 24)
  have B := (v3_new (w.alloc (.cells #[.int .i64 (dhi ca), .int .u64 (dlo ca), .int .i64 sa] 24)) (.int .i64 (dhi cb)) (.int .u64 (dlo cb)) (.int .i64 sb) 24).alloc (.cells #[.int .i64 0, .int .u64 0, .int .i64 0] 24)
  rw [size_al] at B
  have R := v3_new ((w.alloc (.cells #[.int .i64 (dhi ca), .int .u64 (dlo ca), .int .i64 sa] 24)).alloc (.cells #[.int .i64 (dhi cb), .int .u64 (dlo cb), .int .i64 sb] 24)) (.int .i64 0) (.int .u64 0) (.int .i64 0) 24
  rw [size_al, size_al] at R
  have hW := bel_al (bel_al (bel_al (Below.refl _ w) (.cells #[.int .i64 (dhi ca), .int .u64 (dlo ca), .int .i64 sa] 24)) (.cells #[.int .i64 (dhi cb), .int .u64 (dlo cb), .int .i64 sb] 24)) (.cells #[.int .i64 0, .int .u64 0, .int .i64 0] 24)
  go_enter Try.func10, Try.ntmps10
  go_wp2_with fail
  refine (form_yes ca sa _ ia hsa).mono ?_
  rintro e W ⟨rfl, hb⟩
  replace A := A.step hb
  replace B := B.step hb
  replace R := R.step hb
  replace hW := hW.trans (hb.mono hW.size)
  clear hb
  obtain ⟨p, hp⟩ : ∃ p, p = w.heap.size := ⟨_, rfl⟩
  have HP : Hid (p = w.heap.size) := hp
  rw [← hp] at A B R
  rw [← hp]
  clear hp
  have b0 := B.c0
  have b1 := B.c1
  have b2 := B.c2
  go_wp2_with fail
  refine (form_yes cb sb _ ib hsb).mono ?_
  rintro e W2 ⟨rfl, hb⟩
  replace A := A.step hb
  replace B := B.step hb
  replace R := R.step hb
  replace hW := hW.trans (hb.mono hW.size)
  clear hb b0 b1 b2
  have a2 := A.c2
  have b0 := B.c0
  have b1 := B.c1
  have b2 := B.c2
  go_wp2_with fail
  clear a2 b0 b1 b2
  refine (at_eq cb sb _ Y _ ib (by omega) (by omega) HY.out).mono ?_
  rintro e W3 ⟨⟨rY, rfl, hrY⟩, hb⟩
  obtain ⟨ym, ya, yn, yk, rfl, hny, hay, hby⟩ := hrY.form
  replace A := (A.step hb).alloc (.cells #[.bool ym, .slice ya yn yk] 66)
  replace B := (B.step hb).alloc (.cells #[.bool ym, .slice ya yn yk] 66)
  have R0 := R.step hb
  replace R := R0.alloc (.cells #[.bool ym, .slice ya yn yk] 66)
  have lq0 : p + 1 + 1 < W3.heap.size := by have := R0.lt; omega
  have Q := v2_new W3 (.bool ym) (.slice ya yn yk) 66
  replace hrY := hrY.alloc (.cells #[.bool ym, .slice ya yn yk] 66)
  replace hW := bel_al (hW.trans (hb.mono hW.size)) (.cells #[.bool ym, .slice ya yn yk] 66)
  clear hb hny hay hby
  go_wp2_with fail
  generalize W3.alloc (.cells #[.bool ym, .slice ya yn yk] 66) = W4 at *
  obtain ⟨q, hq⟩ : ∃ q, q = W3.heap.size := ⟨_, rfl⟩
  rw [← hq] at Q lq0
  rw [← hq]
  clear hq
  refine (opp_in _ Y _ hrY).mono ?_
  rintro e W5 ⟨⟨rO, rfl, hrO⟩, hb⟩
  obtain ⟨om, oa, on', ok, rfl, hno, hao, hbo⟩ := hrO.form
  replace A := A.step hb
  replace B := B.step hb
  replace R := R.step hb
  replace Q := Q.step hb
  replace hW := hW.trans (hb.mono hW.size)
  clear hb hrY hno hao hbo
  have q0 := Q.c0
  have q1 := Q.c1
  have g0 := Q.free 0
  have g1 := Q.free 1
  go_wp2_with fail
  clear q0 q1 g0 g1
  have hrY := hrO.put Q (by decide) (.bool om) (.slice oa on' ok)
  replace A := A.keep q (by omega) (.bool om) (.slice oa on' ok)
  replace B := B.keep q (by omega) (.bool om) (.slice oa on' ok)
  replace R := R.keep q (by omega) (.bool om) (.slice oa on' ok)
  replace hW := bel_put hW (p := q) (by have := HP.out; omega) (.bool om) (.slice oa on' ok)
  replace Q := (Q.set0 (.bool om)).set1 (.slice oa on' ok)
  clear hrO
  generalize (W5.setCell ⟨q, 0, none⟩ (.bool om)).setCell ⟨q, 1, none⟩ (.slice oa on' ok) = W6 at *
  have lA := A.lt
  have lB := B.lt
  have lR := R.lt
  have lQ := Q.lt
  go_region_held3 (fun w' => w'.cell? ⟨p, 0, none⟩ = some (.int .i64 (dhi ca)) ∧ w'.cell? ⟨p, 1, none⟩ = some (.int .u64 (dlo ca)) ∧ w'.cell? ⟨p, 2, none⟩ = some (.int .i64 sa) ∧ w'.cell? ⟨q, 0, none⟩ = some (.bool om) ∧ w'.cell? ⟨q, 1, none⟩ = some (.slice oa on' ok))
    (first | exact ⟨A.c0, A.c1, A.c2, Q.c0, Q.c1⟩ | exact ⟨A.drew.c0, A.drew.c1, A.drew.c2, Q.drew.c0, Q.drew.c1⟩ | exact ⟨A5.c0, A5.c1, A5.c2, Q5.c0, Q5.c1⟩ | exact ⟨A6.c0, A6.c1, A6.c2, Q6.c0, Q6.c1⟩ | exact ⟨A7.c0, A7.c1, A7.c2, Q7.c0, Q7.c1⟩ | exact ⟨(cell_put3 (by omega)).trans A7.c0, (cell_put3 (by omega)).trans A7.c1, (cell_put3 (by omega)).trans A7.c2, (cell_put3 (by omega)).trans Q7.c0, (cell_put3 (by omega)).trans Q7.c1⟩)
    (first
      | (go_at_call 35; refine (at_eq ca sa _ X _ ia (by omega) (by omega) HX.out).mono ?_; rintro e w5 ⟨⟨r5, rfl, hr5⟩, hb5⟩; have A5 := A.drew.step hb5; have Q5 := Q.drew.step hb5; have R5 := R.drew.step hb5; have h5 := hrY.drew.step hb5; have hW5 := hW.trans ((bel_of_drew hb5).mono hW.size))
      | (go_at_call 38; refine (sum_in _ _ X (-Y) _ hr5 h5 MX.out MY.out).mono ?_; rintro e w6 ⟨⟨r6, rfl, hr6⟩, hb6⟩; have A6 := A5.step hb6; have Q6 := Q5.step hb6; have R6 := R5.step hb6; have hW6 := hW5.trans (hb6.mono hW5.size); rw [HV.out] at hr6)
      | (go_at_call 37; refine (decr_ok _ Z0 _ _ hr6 HR0.out).mono ?_; rintro e w7 ⟨rfl, hb7⟩; have A7 := A6.step hb7; have Q7 := Q6.step hb7; have R7 := R6.step hb7; have hW7 := hW6.trans (hb7.mono hW6.size); have r0 := R7.c0; have r1 := R7.c1; have r2 := R7.c2; have f0 := R7.free 0; have f1 := R7.free 1; have f2 := R7.free 2))
  have V := ((R7.set0 (.int .i64 (dhi Z0))).set1 (.int .u64 (dlo Z0))).set2 (.int .i64 (sa : Int))
  have hB := ((hW7.setCell (p := ⟨p + 1 + 1, 0, none⟩) (by have := HP.out; show _ ≤ p + 1 + 1; omega) (.int .i64 (dhi Z0))).setCell (p := ⟨p + 1 + 1, 1, none⟩) (by have := HP.out; show _ ≤ p + 1 + 1; omega) (.int .u64 (dlo Z0))).setCell (p := ⟨p + 1 + 1, 2, none⟩) (by have := HP.out; show _ ≤ p + 1 + 1; omega) (.int .i64 (sa : Int))
  have HB := (show Hid _ from hB)
  clear hB A A5 A6 A7 B Q Q5 Q6 Q7 R R0 R5 R6 R7 r0 r1 r2 f0 f1 f2 hr5 hr6 h5 hrY hb5 hb6 hb7 hW hW5 hW6 hW7 lA lB lR lQ
  generalize ((w7.setCell ⟨p + 1 + 1, 0, none⟩ (.int .i64 (dhi Z0))).setCell ⟨p + 1 + 1, 1, none⟩ (.int .u64 (dlo Z0))).setCell ⟨p + 1 + 1, 2, none⟩ (.int .i64 (sa : Int)) = Z at *
  have c0 := V.c0
  have c1 := V.c1
  have c2 := V.c2
  clear V
  go_wp2_with fail
  refine bodyPost_ret (v := .tuple #[.agg #[.int .i64 (dhi Z0), .int .u64 (dlo Z0), .int .i64 (sa : Int)], .int .i64 0]) (by simp [results, Try.results10, go_sem, *]) rfl ⟨rfl, HB.out⟩
set_option maxHeartbeats 1000000 in
set_option maxRecDepth 100000 in
theorem dadd_snlt (ca cb : Int) (sa sb : Nat) (w : World) (ia : InR ca) (ib : InR cb) (hsa : (sa : Int) ≤ 18) (hsb : (sb : Int) ≤ 18) (hlt : sa < sb) (hr : ¬ InR (tv ca sa (-cb) sb)) :
    Calls Try.prog 10 #[.agg #[.int .i64 (dhi ca), .int .u64 (dlo ca), .int .i64 sa], .agg #[.int .i64 (dhi cb), .int .u64 (dlo cb), .int .i64 sb], .bool true] w fun e w' => e = .returned (.tuple #[.agg #[.int .i64 0, .int .u64 0, .int .i64 0], .int .i64 4]) ∧ Below w.heap.size w w' := by
  obtain ⟨X, hX⟩ : ∃ X, X = ca * 10 ^ ((sb : Int) - sa).toNat := ⟨_, rfl⟩
  obtain ⟨Y, hY⟩ : ∃ Y, Y = cb * 10 ^ ((sb : Int) - sb).toNat := ⟨_, rfl⟩
  obtain ⟨Z0, hZ0⟩ : ∃ Z, Z = tv ca sa (-cb) sb := ⟨_, rfl⟩
  have HV : Hid (X + -Y = Z0) := by
    obtain ⟨e1, e2⟩ := tv_at ca cb sa sb (sb : Int) (by omega)
    show _ = _
    rw [hX, hY, hZ0, e1, e2]; unfold tv; rw [Int.neg_mul]
  have MX : Hid (Mi X) := by rw [hX]; exact up_mi ia _ (by omega)
  have MY : Hid (Mi (-Y)) := by show Mi (-Y); unfold Mi; rw [Int.natAbs_neg]; show Mi Y; rw [hY]; exact up_mi ib _ (by omega)
  have HX := (show Hid _ from hX)
  have HY := (show Hid _ from hY)
  rw [← hZ0] at hr
  skip
  have HR0 := (show Hid _ from hr)
  clear hX hY hZ0 hr
  have A := ((v3_new w (.int .i64 (dhi ca)) (.int .u64 (dlo ca)) (.int .i64 sa) 24).alloc (.cells #[.int .i64 (dhi cb), .int .u64 (dlo cb), .int .i64 sb] 24)).alloc (.cells #[.int .i64 0, .int .u64 0, .int .i64 0] 24)
  have B := (v3_new (w.alloc (.cells #[.int .i64 (dhi ca), .int .u64 (dlo ca), .int .i64 sa] 24)) (.int .i64 (dhi cb)) (.int .u64 (dlo cb)) (.int .i64 sb) 24).alloc (.cells #[.int .i64 0, .int .u64 0, .int .i64 0] 24)
  rw [size_al] at B
  have R := v3_new ((w.alloc (.cells #[.int .i64 (dhi ca), .int .u64 (dlo ca), .int .i64 sa] 24)).alloc (.cells #[.int .i64 (dhi cb), .int .u64 (dlo cb), .int .i64 sb] 24)) (.int .i64 0) (.int .u64 0) (.int .i64 0) 24
  rw [size_al, size_al] at R
  have hW := bel_al (bel_al (bel_al (Below.refl _ w) (.cells #[.int .i64 (dhi ca), .int .u64 (dlo ca), .int .i64 sa] 24)) (.cells #[.int .i64 (dhi cb), .int .u64 (dlo cb), .int .i64 sb] 24)) (.cells #[.int .i64 0, .int .u64 0, .int .i64 0] 24)
  go_enter Try.func10, Try.ntmps10
  go_wp2_with fail
  refine (form_yes ca sa _ ia hsa).mono ?_
  rintro e W ⟨rfl, hb⟩
  replace A := A.step hb
  replace B := B.step hb
  replace R := R.step hb
  replace hW := hW.trans (hb.mono hW.size)
  clear hb
  obtain ⟨p, hp⟩ : ∃ p, p = w.heap.size := ⟨_, rfl⟩
  have HP : Hid (p = w.heap.size) := hp
  rw [← hp] at A B R
  rw [← hp]
  clear hp
  have b0 := B.c0
  have b1 := B.c1
  have b2 := B.c2
  go_wp2_with fail
  refine (form_yes cb sb _ ib hsb).mono ?_
  rintro e W2 ⟨rfl, hb⟩
  replace A := A.step hb
  replace B := B.step hb
  replace R := R.step hb
  replace hW := hW.trans (hb.mono hW.size)
  clear hb b0 b1 b2
  have a2 := A.c2
  have b0 := B.c0
  have b1 := B.c1
  have b2 := B.c2
  go_wp2_with fail
  clear a2 b0 b1 b2
  refine (at_eq cb sb _ Y _ ib (by omega) (by omega) HY.out).mono ?_
  rintro e W3 ⟨⟨rY, rfl, hrY⟩, hb⟩
  obtain ⟨ym, ya, yn, yk, rfl, hny, hay, hby⟩ := hrY.form
  replace A := (A.step hb).alloc (.cells #[.bool ym, .slice ya yn yk] 66)
  replace B := (B.step hb).alloc (.cells #[.bool ym, .slice ya yn yk] 66)
  have R0 := R.step hb
  replace R := R0.alloc (.cells #[.bool ym, .slice ya yn yk] 66)
  have lq0 : p + 1 + 1 < W3.heap.size := by have := R0.lt; omega
  have Q := v2_new W3 (.bool ym) (.slice ya yn yk) 66
  replace hrY := hrY.alloc (.cells #[.bool ym, .slice ya yn yk] 66)
  replace hW := bel_al (hW.trans (hb.mono hW.size)) (.cells #[.bool ym, .slice ya yn yk] 66)
  clear hb hny hay hby
  go_wp2_with fail
  generalize W3.alloc (.cells #[.bool ym, .slice ya yn yk] 66) = W4 at *
  obtain ⟨q, hq⟩ : ∃ q, q = W3.heap.size := ⟨_, rfl⟩
  rw [← hq] at Q lq0
  rw [← hq]
  clear hq
  refine (opp_in _ Y _ hrY).mono ?_
  rintro e W5 ⟨⟨rO, rfl, hrO⟩, hb⟩
  obtain ⟨om, oa, on', ok, rfl, hno, hao, hbo⟩ := hrO.form
  replace A := A.step hb
  replace B := B.step hb
  replace R := R.step hb
  replace Q := Q.step hb
  replace hW := hW.trans (hb.mono hW.size)
  clear hb hrY hno hao hbo
  have q0 := Q.c0
  have q1 := Q.c1
  have g0 := Q.free 0
  have g1 := Q.free 1
  go_wp2_with fail
  clear q0 q1 g0 g1
  have hrY := hrO.put Q (by decide) (.bool om) (.slice oa on' ok)
  replace A := A.keep q (by omega) (.bool om) (.slice oa on' ok)
  replace B := B.keep q (by omega) (.bool om) (.slice oa on' ok)
  replace R := R.keep q (by omega) (.bool om) (.slice oa on' ok)
  replace hW := bel_put hW (p := q) (by have := HP.out; omega) (.bool om) (.slice oa on' ok)
  replace Q := (Q.set0 (.bool om)).set1 (.slice oa on' ok)
  clear hrO
  generalize (W5.setCell ⟨q, 0, none⟩ (.bool om)).setCell ⟨q, 1, none⟩ (.slice oa on' ok) = W6 at *
  have lA := A.lt
  have lB := B.lt
  have lR := R.lt
  have lQ := Q.lt
  go_region_held3 (fun w' => w'.cell? ⟨p, 0, none⟩ = some (.int .i64 (dhi ca)) ∧ w'.cell? ⟨p, 1, none⟩ = some (.int .u64 (dlo ca)) ∧ w'.cell? ⟨p, 2, none⟩ = some (.int .i64 sa) ∧ w'.cell? ⟨q, 0, none⟩ = some (.bool om) ∧ w'.cell? ⟨q, 1, none⟩ = some (.slice oa on' ok))
    (first | exact ⟨A.c0, A.c1, A.c2, Q.c0, Q.c1⟩ | exact ⟨A.drew.c0, A.drew.c1, A.drew.c2, Q.drew.c0, Q.drew.c1⟩ | exact ⟨A5.c0, A5.c1, A5.c2, Q5.c0, Q5.c1⟩ | exact ⟨A6.c0, A6.c1, A6.c2, Q6.c0, Q6.c1⟩ | exact ⟨A7.c0, A7.c1, A7.c2, Q7.c0, Q7.c1⟩ | exact ⟨(cell_put3 (by omega)).trans A7.c0, (cell_put3 (by omega)).trans A7.c1, (cell_put3 (by omega)).trans A7.c2, (cell_put3 (by omega)).trans Q7.c0, (cell_put3 (by omega)).trans Q7.c1⟩)
    (first
      | (go_at_call 35; refine (at_eq ca sa _ X _ ia (by omega) (by omega) HX.out).mono ?_; rintro e w5 ⟨⟨r5, rfl, hr5⟩, hb5⟩; have A5 := A.drew.step hb5; have Q5 := Q.drew.step hb5; have R5 := R.drew.step hb5; have h5 := hrY.drew.step hb5; have hW5 := hW.trans ((bel_of_drew hb5).mono hW.size))
      | (go_at_call 38; refine (sum_in _ _ X (-Y) _ hr5 h5 MX.out MY.out).mono ?_; rintro e w6 ⟨⟨r6, rfl, hr6⟩, hb6⟩; have A6 := A5.step hb6; have Q6 := Q5.step hb6; have R6 := R5.step hb6; have hW6 := hW5.trans (hb6.mono hW5.size); rw [HV.out] at hr6)
      | (go_at_call 37; refine (decr_big _ Z0 _ _ hr6 (not_inr HR0.out)).mono ?_; rintro e w7 ⟨rfl, hb7⟩; have A7 := A6.step hb7; have Q7 := Q6.step hb7; have R7 := R6.step hb7; have hW7 := hW6.trans (hb7.mono hW6.size); have r0 := R7.c0; have r1 := R7.c1; have r2 := R7.c2; have f0 := R7.free 0; have f1 := R7.free 1; have f2 := R7.free 2))
  have V := ((R7.set0 (.int .i64 0)).set1 (.int .u64 0)).set2 (.int .i64 0)
  have hB := ((hW7.setCell (p := ⟨p + 1 + 1, 0, none⟩) (by have := HP.out; show _ ≤ p + 1 + 1; omega) (.int .i64 0)).setCell (p := ⟨p + 1 + 1, 1, none⟩) (by have := HP.out; show _ ≤ p + 1 + 1; omega) (.int .u64 0)).setCell (p := ⟨p + 1 + 1, 2, none⟩) (by have := HP.out; show _ ≤ p + 1 + 1; omega) (.int .i64 0)
  have HB := (show Hid _ from hB)
  clear hB A A5 A6 A7 B Q Q5 Q6 Q7 R R0 R5 R6 R7 r0 r1 r2 f0 f1 f2 hr5 hr6 h5 hrY hb5 hb6 hb7 hW hW5 hW6 hW7 lA lB lR lQ
  generalize ((w7.setCell ⟨p + 1 + 1, 0, none⟩ (.int .i64 0)).setCell ⟨p + 1 + 1, 1, none⟩ (.int .u64 0)).setCell ⟨p + 1 + 1, 2, none⟩ (.int .i64 0) = Z at *
  have c0 := V.c0
  have c1 := V.c1
  have c2 := V.c2
  clear V
  go_wp2_with fail
  refine bodyPost_ret (v := .tuple #[.agg #[.int .i64 0, .int .u64 0, .int .i64 0], .int .i64 4]) (by simp [results, Try.results10, go_sem, *]) rfl ⟨rfl, HB.out⟩
set_option maxHeartbeats 1000000 in
set_option maxRecDepth 100000 in
theorem dadd_snge (ca cb : Int) (sa sb : Nat) (w : World) (ia : InR ca) (ib : InR cb) (hsa : (sa : Int) ≤ 18) (hsb : (sb : Int) ≤ 18) (hlt : ¬ sa < sb) (hr : ¬ InR (tv ca sa (-cb) sb)) :
    Calls Try.prog 10 #[.agg #[.int .i64 (dhi ca), .int .u64 (dlo ca), .int .i64 sa], .agg #[.int .i64 (dhi cb), .int .u64 (dlo cb), .int .i64 sb], .bool true] w fun e w' => e = .returned (.tuple #[.agg #[.int .i64 0, .int .u64 0, .int .i64 0], .int .i64 4]) ∧ Below w.heap.size w w' := by
  obtain ⟨X, hX⟩ : ∃ X, X = ca * 10 ^ ((sa : Int) - sa).toNat := ⟨_, rfl⟩
  obtain ⟨Y, hY⟩ : ∃ Y, Y = cb * 10 ^ ((sa : Int) - sb).toNat := ⟨_, rfl⟩
  obtain ⟨Z0, hZ0⟩ : ∃ Z, Z = tv ca sa (-cb) sb := ⟨_, rfl⟩
  have HV : Hid (X + -Y = Z0) := by
    obtain ⟨e1, e2⟩ := tv_at ca cb sa sb (sa : Int) (by omega)
    show _ = _
    rw [hX, hY, hZ0, e1, e2]; unfold tv; rw [Int.neg_mul]
  have MX : Hid (Mi X) := by rw [hX]; exact up_mi ia _ (by omega)
  have MY : Hid (Mi (-Y)) := by show Mi (-Y); unfold Mi; rw [Int.natAbs_neg]; show Mi Y; rw [hY]; exact up_mi ib _ (by omega)
  have HX := (show Hid _ from hX)
  have HY := (show Hid _ from hY)
  rw [← hZ0] at hr
  skip
  have HR0 := (show Hid _ from hr)
  clear hX hY hZ0 hr
  have A := ((v3_new w (.int .i64 (dhi ca)) (.int .u64 (dlo ca)) (.int .i64 sa) 24).alloc (.cells #[.int .i64 (dhi cb), .int .u64 (dlo cb), .int .i64 sb] 24)).alloc (.cells #[.int .i64 0, .int .u64 0, .int .i64 0] 24)
  have B := (v3_new (w.alloc (.cells #[.int .i64 (dhi ca), .int .u64 (dlo ca), .int .i64 sa] 24)) (.int .i64 (dhi cb)) (.int .u64 (dlo cb)) (.int .i64 sb) 24).alloc (.cells #[.int .i64 0, .int .u64 0, .int .i64 0] 24)
  rw [size_al] at B
  have R := v3_new ((w.alloc (.cells #[.int .i64 (dhi ca), .int .u64 (dlo ca), .int .i64 sa] 24)).alloc (.cells #[.int .i64 (dhi cb), .int .u64 (dlo cb), .int .i64 sb] 24)) (.int .i64 0) (.int .u64 0) (.int .i64 0) 24
  rw [size_al, size_al] at R
  have hW := bel_al (bel_al (bel_al (Below.refl _ w) (.cells #[.int .i64 (dhi ca), .int .u64 (dlo ca), .int .i64 sa] 24)) (.cells #[.int .i64 (dhi cb), .int .u64 (dlo cb), .int .i64 sb] 24)) (.cells #[.int .i64 0, .int .u64 0, .int .i64 0] 24)
  go_enter Try.func10, Try.ntmps10
  go_wp2_with fail
  refine (form_yes ca sa _ ia hsa).mono ?_
  rintro e W ⟨rfl, hb⟩
  replace A := A.step hb
  replace B := B.step hb
  replace R := R.step hb
  replace hW := hW.trans (hb.mono hW.size)
  clear hb
  obtain ⟨p, hp⟩ : ∃ p, p = w.heap.size := ⟨_, rfl⟩
  have HP : Hid (p = w.heap.size) := hp
  rw [← hp] at A B R
  rw [← hp]
  clear hp
  have b0 := B.c0
  have b1 := B.c1
  have b2 := B.c2
  go_wp2_with fail
  refine (form_yes cb sb _ ib hsb).mono ?_
  rintro e W2 ⟨rfl, hb⟩
  replace A := A.step hb
  replace B := B.step hb
  replace R := R.step hb
  replace hW := hW.trans (hb.mono hW.size)
  clear hb b0 b1 b2
  have a2 := A.c2
  have b0 := B.c0
  have b1 := B.c1
  have b2 := B.c2
  go_wp2_with fail
  clear a2 b0 b1 b2
  refine (at_eq cb sb _ Y _ ib (by omega) (by omega) HY.out).mono ?_
  rintro e W3 ⟨⟨rY, rfl, hrY⟩, hb⟩
  obtain ⟨ym, ya, yn, yk, rfl, hny, hay, hby⟩ := hrY.form
  replace A := (A.step hb).alloc (.cells #[.bool ym, .slice ya yn yk] 66)
  replace B := (B.step hb).alloc (.cells #[.bool ym, .slice ya yn yk] 66)
  have R0 := R.step hb
  replace R := R0.alloc (.cells #[.bool ym, .slice ya yn yk] 66)
  have lq0 : p + 1 + 1 < W3.heap.size := by have := R0.lt; omega
  have Q := v2_new W3 (.bool ym) (.slice ya yn yk) 66
  replace hrY := hrY.alloc (.cells #[.bool ym, .slice ya yn yk] 66)
  replace hW := bel_al (hW.trans (hb.mono hW.size)) (.cells #[.bool ym, .slice ya yn yk] 66)
  clear hb hny hay hby
  go_wp2_with fail
  generalize W3.alloc (.cells #[.bool ym, .slice ya yn yk] 66) = W4 at *
  obtain ⟨q, hq⟩ : ∃ q, q = W3.heap.size := ⟨_, rfl⟩
  rw [← hq] at Q lq0
  rw [← hq]
  clear hq
  refine (opp_in _ Y _ hrY).mono ?_
  rintro e W5 ⟨⟨rO, rfl, hrO⟩, hb⟩
  obtain ⟨om, oa, on', ok, rfl, hno, hao, hbo⟩ := hrO.form
  replace A := A.step hb
  replace B := B.step hb
  replace R := R.step hb
  replace Q := Q.step hb
  replace hW := hW.trans (hb.mono hW.size)
  clear hb hrY hno hao hbo
  have q0 := Q.c0
  have q1 := Q.c1
  have g0 := Q.free 0
  have g1 := Q.free 1
  go_wp2_with fail
  clear q0 q1 g0 g1
  have hrY := hrO.put Q (by decide) (.bool om) (.slice oa on' ok)
  replace A := A.keep q (by omega) (.bool om) (.slice oa on' ok)
  replace B := B.keep q (by omega) (.bool om) (.slice oa on' ok)
  replace R := R.keep q (by omega) (.bool om) (.slice oa on' ok)
  replace hW := bel_put hW (p := q) (by have := HP.out; omega) (.bool om) (.slice oa on' ok)
  replace Q := (Q.set0 (.bool om)).set1 (.slice oa on' ok)
  clear hrO
  generalize (W5.setCell ⟨q, 0, none⟩ (.bool om)).setCell ⟨q, 1, none⟩ (.slice oa on' ok) = W6 at *
  have lA := A.lt
  have lB := B.lt
  have lR := R.lt
  have lQ := Q.lt
  go_region_held3 (fun w' => w'.cell? ⟨p, 0, none⟩ = some (.int .i64 (dhi ca)) ∧ w'.cell? ⟨p, 1, none⟩ = some (.int .u64 (dlo ca)) ∧ w'.cell? ⟨p, 2, none⟩ = some (.int .i64 sa) ∧ w'.cell? ⟨q, 0, none⟩ = some (.bool om) ∧ w'.cell? ⟨q, 1, none⟩ = some (.slice oa on' ok))
    (first | exact ⟨A.c0, A.c1, A.c2, Q.c0, Q.c1⟩ | exact ⟨A.drew.c0, A.drew.c1, A.drew.c2, Q.drew.c0, Q.drew.c1⟩ | exact ⟨A5.c0, A5.c1, A5.c2, Q5.c0, Q5.c1⟩ | exact ⟨A6.c0, A6.c1, A6.c2, Q6.c0, Q6.c1⟩ | exact ⟨A7.c0, A7.c1, A7.c2, Q7.c0, Q7.c1⟩ | exact ⟨(cell_put3 (by omega)).trans A7.c0, (cell_put3 (by omega)).trans A7.c1, (cell_put3 (by omega)).trans A7.c2, (cell_put3 (by omega)).trans Q7.c0, (cell_put3 (by omega)).trans Q7.c1⟩)
    (first
      | (go_at_call 35; refine (at_eq ca sa _ X _ ia (by omega) (by omega) HX.out).mono ?_; rintro e w5 ⟨⟨r5, rfl, hr5⟩, hb5⟩; have A5 := A.drew.step hb5; have Q5 := Q.drew.step hb5; have R5 := R.drew.step hb5; have h5 := hrY.drew.step hb5; have hW5 := hW.trans ((bel_of_drew hb5).mono hW.size))
      | (go_at_call 38; refine (sum_in _ _ X (-Y) _ hr5 h5 MX.out MY.out).mono ?_; rintro e w6 ⟨⟨r6, rfl, hr6⟩, hb6⟩; have A6 := A5.step hb6; have Q6 := Q5.step hb6; have R6 := R5.step hb6; have hW6 := hW5.trans (hb6.mono hW5.size); rw [HV.out] at hr6)
      | (go_at_call 37; refine (decr_big _ Z0 _ _ hr6 (not_inr HR0.out)).mono ?_; rintro e w7 ⟨rfl, hb7⟩; have A7 := A6.step hb7; have Q7 := Q6.step hb7; have R7 := R6.step hb7; have hW7 := hW6.trans (hb7.mono hW6.size); have r0 := R7.c0; have r1 := R7.c1; have r2 := R7.c2; have f0 := R7.free 0; have f1 := R7.free 1; have f2 := R7.free 2))
  have V := ((R7.set0 (.int .i64 0)).set1 (.int .u64 0)).set2 (.int .i64 0)
  have hB := ((hW7.setCell (p := ⟨p + 1 + 1, 0, none⟩) (by have := HP.out; show _ ≤ p + 1 + 1; omega) (.int .i64 0)).setCell (p := ⟨p + 1 + 1, 1, none⟩) (by have := HP.out; show _ ≤ p + 1 + 1; omega) (.int .u64 0)).setCell (p := ⟨p + 1 + 1, 2, none⟩) (by have := HP.out; show _ ≤ p + 1 + 1; omega) (.int .i64 0)
  have HB := (show Hid _ from hB)
  clear hB A A5 A6 A7 B Q Q5 Q6 Q7 R R0 R5 R6 R7 r0 r1 r2 f0 f1 f2 hr5 hr6 h5 hrY hb5 hb6 hb7 hW hW5 hW6 hW7 lA lB lR lQ
  generalize ((w7.setCell ⟨p + 1 + 1, 0, none⟩ (.int .i64 0)).setCell ⟨p + 1 + 1, 1, none⟩ (.int .u64 0)).setCell ⟨p + 1 + 1, 2, none⟩ (.int .i64 0) = Z at *
  have c0 := V.c0
  have c1 := V.c1
  have c2 := V.c2
  clear V
  go_wp2_with fail
  refine bodyPost_ret (v := .tuple #[.agg #[.int .i64 0, .int .u64 0, .int .i64 0], .int .i64 4]) (by simp [results, Try.results10, go_sem, *]) rfl ⟨rfl, HB.out⟩

end Go.Proofs.Ytnbfbebfideigaa
