/- The document's decimals: the contract of DocRescale. -/
import Derived.Test.YtghdkchbaadddaaUu
namespace Go.Proofs.Ytghdkchbaadddaa
open Go.RowKit
set_option linter.unusedVariables false
attribute [local go_sem ↓] Go.wp_at_zero Go.wp_at_succ

set_option maxHeartbeats 1000000 in
set_option maxRecDepth 100000 in
theorem drescale_yes (c : Int) (s t mode : Nat) (w : World) (ic : InR c) (hs : (s : Int) ≤ 18) (ht : (t : Int) ≤ 18) (hm : (mode : Int) ≤ 6) (hr : InR (rv c s t mode)) :
    Calls Try.prog 26 #[.agg #[.int .i64 (dhi c), .int .u64 (dlo c), .int .i64 s], .int .i64 t, .int .i64 mode] w fun e w' => e = .returned (.tuple #[.agg #[.int .i64 (dhi (rv c s t mode)), .int .u64 (dlo (rv c s t mode)), .int .i64 t], .int .i64 0]) ∧ Below w.heap.size w w' := by
  obtain ⟨X, hX⟩ : ∃ X, X = c * 10 ^ t := ⟨_, rfl⟩
  obtain ⟨Z0, hZ0⟩ : ∃ Z, Z = rv c s t mode := ⟨_, rfl⟩
  have HV : Hid (sv (decide (X < 0)) (rnd (decide (X < 0)) X.natAbs (10 ^ s) mode) = Z0) := by rw [hX, hZ0]; exact rv_eq c s t mode
  have MX : Hid (Mi X) := by rw [hX]; exact up_mi ic _ (by omega)
  have HX := (show Hid _ from hX)
  have hm6 : mode ≤ 6 := by omega
  have hs40 : s ≤ 40 := by omega
  have ht38 : t ≤ 38 := by omega
  rw [← hZ0] at hr
  rw [← hZ0]
  have HR0 := (show Hid _ from hr)
  clear hX hZ0 hr
  have D := (v3_new w (.int .i64 (dhi c)) (.int .u64 (dlo c)) (.int .i64 s) 24).alloc (.cells #[.int .i64 0, .int .u64 0, .int .i64 0] 24)
  have R := v3_new (w.alloc (.cells #[.int .i64 (dhi c), .int .u64 (dlo c), .int .i64 s] 24)) (.int .i64 0) (.int .u64 0) (.int .i64 0) 24
  rw [size_al] at R
  have hW := bel_al (bel_al (Below.refl _ w) (.cells #[.int .i64 (dhi c), .int .u64 (dlo c), .int .i64 s] 24)) (.cells #[.int .i64 0, .int .u64 0, .int .i64 0] 24)
  go_enter Try.func26, Try.ntmps26
  go_wp2_with fail
  refine (way_yes t mode _ (by omega) ht hm).mono ?_
  rintro e w1 ⟨rfl, rfl⟩
  go_wp2_with fail
  refine (form_yes c s _ ic hs).mono ?_
  rintro e W ⟨rfl, hb⟩
  replace D := D.step hb
  replace R := R.step hb
  replace hW := hW.trans (hb.mono hW.size)
  clear hb
  obtain ⟨p, hp⟩ : ∃ p, p = w.heap.size := ⟨_, rfl⟩
  have HP : Hid (p = w.heap.size) := hp
  rw [← hp] at D R
  rw [← hp]
  clear hp
  have lD := D.lt
  have lR := R.lt
  go_wp2_with fail
  go_region_held3 (fun w' => w'.cell? ⟨p, 0, none⟩ = some (.int .i64 (dhi c)) ∧ w'.cell? ⟨p, 1, none⟩ = some (.int .u64 (dlo c)) ∧ w'.cell? ⟨p, 2, none⟩ = some (.int .i64 s))
    (first | exact ⟨D.c0, D.c1, D.c2⟩ | exact ⟨D.drew.c0, D.drew.c1, D.drew.c2⟩ | exact ⟨D7.c0, D7.c1, D7.c2⟩ | exact ⟨D6.c0, D6.c1, D6.c2⟩ | exact ⟨D5.c0, D5.c1, D5.c2⟩ | exact ⟨D4.c0, D4.c1, D4.c2⟩ | exact ⟨D3.c0, D3.c1, D3.c2⟩ | exact ⟨D2.c0, D2.c1, D2.c2⟩ | exact ⟨(cell_put3 (by omega)).trans D7.c0, (cell_put3 (by omega)).trans D7.c1, (cell_put3 (by omega)).trans D7.c2⟩)
    (first
      | (go_at_call 42; refine (coef_ok c s _ ic).mono ?_; rintro e w2 ⟨⟨r2, rfl, hr2⟩, hb2⟩; have D2 := D.drew.step hb2; have R2 := R.drew.step hb2; have hW2 := hW.trans ((bel_of_drew hb2).mono hW.size))
      | (go_at_call_of 48 (Value.int IntKind.i64 (t : Int)); refine (ten_ok t _ ht38).mono ?_; rintro e w3 ⟨⟨r3, rfl, hr3⟩, hb3⟩; obtain ⟨xa, xn, xc, rfl⟩ := hr3.form; have D3 := D2.step hb3; have R3 := R2.step hb3; have h3 := hr2.step hb3; have hW3 := hW2.trans (hb3.mono hW2.size))
      | (go_at_call 54; refine (prod_in _ _ c (10 ^ t) _ h3 (in_mk (by rw [ten_abs]; exact hr3) (fun _ => rfl) (fun h => by have := ten_pos t; omega)) (inr_mi ic) (ten_mi _ (by omega))).mono ?_; rintro e w4 ⟨⟨r4, rfl, hr4⟩, hb4⟩; have D4 := D3.step hb4; have R4 := R3.step hb4; have hW4 := hW3.trans (hb4.mono hW3.size); rw [← HX.out] at hr4)
      | (go_at_call_of 48 (Value.int IntKind.i64 (s : Int)); refine (ten_ok s _ (by omega)).mono ?_; rintro e w5 ⟨⟨r5, rfl, hr5⟩, hb5⟩; have D5 := D4.step hb5; have R5 := R4.step hb5; have h5 := hr4.step hb5; have hW5 := hW4.trans (hb5.mono hW4.size))
      | (go_at_call 53; refine (rounded_in _ _ X (10 ^ s) mode _ h5 hr5 MX.out (ten_md s hs40) (Nat.pow_pos (by decide)) hm6).mono ?_; rintro e w6 ⟨⟨r6, rfl, hr6⟩, hb6⟩; have D6 := D5.step hb6; have R6 := R5.step hb6; have hW6 := hW5.trans (hb6.mono hW5.size); rw [HV.out] at hr6)
      | (go_at_call 37; refine (decr_ok _ Z0 _ _ hr6 HR0.out).mono ?_; rintro e w7 ⟨rfl, hb7⟩; have D7 := D6.step hb7; have R7 := R6.step hb7; have hW7 := hW6.trans (hb7.mono hW6.size); have r0 := R7.c0; have r1 := R7.c1; have r2 := R7.c2; have f0 := R7.free 0; have f1 := R7.free 1; have f2 := R7.free 2))
  have V := ((R7.set0 (.int .i64 (dhi Z0))).set1 (.int .u64 (dlo Z0))).set2 (.int .i64 (t : Int))
  have hB := ((hW7.setCell (p := ⟨p + 1, 0, none⟩) (by have := HP.out; show _ ≤ p + 1; omega) (.int .i64 (dhi Z0))).setCell (p := ⟨p + 1, 1, none⟩) (by have := HP.out; show _ ≤ p + 1; omega) (.int .u64 (dlo Z0))).setCell (p := ⟨p + 1, 2, none⟩) (by have := HP.out; show _ ≤ p + 1; omega) (.int .i64 (t : Int))
  have HB := (show Hid _ from hB)
  clear hB D D2 D3 D4 D5 D6 D7 R R2 R3 R4 R5 R6 R7 r0 r1 r2 f0 f1 f2 hr2 hr3 h3 hr4 hr5 h5 hr6 hb2 hb3 hb4 hb5 hb6 hb7 hW hW2 hW3 hW4 hW5 hW6 hW7 lD lR
  generalize ((w7.setCell ⟨p + 1, 0, none⟩ (.int .i64 (dhi Z0))).setCell ⟨p + 1, 1, none⟩ (.int .u64 (dlo Z0))).setCell ⟨p + 1, 2, none⟩ (.int .i64 (t : Int)) = Z at *
  have c0 := V.c0
  have c1 := V.c1
  have c2 := V.c2
  clear V
  go_wp2_with fail
  refine bodyPost_ret (v := .tuple #[.agg #[.int .i64 (dhi Z0), .int .u64 (dlo Z0), .int .i64 (t : Int)], .int .i64 0]) (by simp [results, Try.results26, go_sem, *]) rfl ⟨rfl, HB.out⟩
set_option maxHeartbeats 1000000 in
set_option maxRecDepth 100000 in
theorem drescale_no (c : Int) (s t mode : Nat) (w : World) (ic : InR c) (hs : (s : Int) ≤ 18) (ht : (t : Int) ≤ 18) (hm : (mode : Int) ≤ 6) (hr : ¬ InR (rv c s t mode)) :
    Calls Try.prog 26 #[.agg #[.int .i64 (dhi c), .int .u64 (dlo c), .int .i64 s], .int .i64 t, .int .i64 mode] w fun e w' => e = .returned (.tuple #[.agg #[.int .i64 0, .int .u64 0, .int .i64 0], .int .i64 4]) ∧ Below w.heap.size w w' := by
  obtain ⟨X, hX⟩ : ∃ X, X = c * 10 ^ t := ⟨_, rfl⟩
  obtain ⟨Z0, hZ0⟩ : ∃ Z, Z = rv c s t mode := ⟨_, rfl⟩
  have HV : Hid (sv (decide (X < 0)) (rnd (decide (X < 0)) X.natAbs (10 ^ s) mode) = Z0) := by rw [hX, hZ0]; exact rv_eq c s t mode
  have MX : Hid (Mi X) := by rw [hX]; exact up_mi ic _ (by omega)
  have HX := (show Hid _ from hX)
  have hm6 : mode ≤ 6 := by omega
  have hs40 : s ≤ 40 := by omega
  have ht38 : t ≤ 38 := by omega
  rw [← hZ0] at hr
  skip
  have HR0 := (show Hid _ from hr)
  clear hX hZ0 hr
  have D := (v3_new w (.int .i64 (dhi c)) (.int .u64 (dlo c)) (.int .i64 s) 24).alloc (.cells #[.int .i64 0, .int .u64 0, .int .i64 0] 24)
  have R := v3_new (w.alloc (.cells #[.int .i64 (dhi c), .int .u64 (dlo c), .int .i64 s] 24)) (.int .i64 0) (.int .u64 0) (.int .i64 0) 24
  rw [size_al] at R
  have hW := bel_al (bel_al (Below.refl _ w) (.cells #[.int .i64 (dhi c), .int .u64 (dlo c), .int .i64 s] 24)) (.cells #[.int .i64 0, .int .u64 0, .int .i64 0] 24)
  go_enter Try.func26, Try.ntmps26
  go_wp2_with fail
  refine (way_yes t mode _ (by omega) ht hm).mono ?_
  rintro e w1 ⟨rfl, rfl⟩
  go_wp2_with fail
  refine (form_yes c s _ ic hs).mono ?_
  rintro e W ⟨rfl, hb⟩
  replace D := D.step hb
  replace R := R.step hb
  replace hW := hW.trans (hb.mono hW.size)
  clear hb
  obtain ⟨p, hp⟩ : ∃ p, p = w.heap.size := ⟨_, rfl⟩
  have HP : Hid (p = w.heap.size) := hp
  rw [← hp] at D R
  rw [← hp]
  clear hp
  have lD := D.lt
  have lR := R.lt
  go_wp2_with fail
  go_region_held3 (fun w' => w'.cell? ⟨p, 0, none⟩ = some (.int .i64 (dhi c)) ∧ w'.cell? ⟨p, 1, none⟩ = some (.int .u64 (dlo c)) ∧ w'.cell? ⟨p, 2, none⟩ = some (.int .i64 s))
    (first | exact ⟨D.c0, D.c1, D.c2⟩ | exact ⟨D.drew.c0, D.drew.c1, D.drew.c2⟩ | exact ⟨D7.c0, D7.c1, D7.c2⟩ | exact ⟨D6.c0, D6.c1, D6.c2⟩ | exact ⟨D5.c0, D5.c1, D5.c2⟩ | exact ⟨D4.c0, D4.c1, D4.c2⟩ | exact ⟨D3.c0, D3.c1, D3.c2⟩ | exact ⟨D2.c0, D2.c1, D2.c2⟩ | exact ⟨(cell_put3 (by omega)).trans D7.c0, (cell_put3 (by omega)).trans D7.c1, (cell_put3 (by omega)).trans D7.c2⟩)
    (first
      | (go_at_call 42; refine (coef_ok c s _ ic).mono ?_; rintro e w2 ⟨⟨r2, rfl, hr2⟩, hb2⟩; have D2 := D.drew.step hb2; have R2 := R.drew.step hb2; have hW2 := hW.trans ((bel_of_drew hb2).mono hW.size))
      | (go_at_call_of 48 (Value.int IntKind.i64 (t : Int)); refine (ten_ok t _ ht38).mono ?_; rintro e w3 ⟨⟨r3, rfl, hr3⟩, hb3⟩; obtain ⟨xa, xn, xc, rfl⟩ := hr3.form; have D3 := D2.step hb3; have R3 := R2.step hb3; have h3 := hr2.step hb3; have hW3 := hW2.trans (hb3.mono hW2.size))
      | (go_at_call 54; refine (prod_in _ _ c (10 ^ t) _ h3 (in_mk (by rw [ten_abs]; exact hr3) (fun _ => rfl) (fun h => by have := ten_pos t; omega)) (inr_mi ic) (ten_mi _ (by omega))).mono ?_; rintro e w4 ⟨⟨r4, rfl, hr4⟩, hb4⟩; have D4 := D3.step hb4; have R4 := R3.step hb4; have hW4 := hW3.trans (hb4.mono hW3.size); rw [← HX.out] at hr4)
      | (go_at_call_of 48 (Value.int IntKind.i64 (s : Int)); refine (ten_ok s _ (by omega)).mono ?_; rintro e w5 ⟨⟨r5, rfl, hr5⟩, hb5⟩; have D5 := D4.step hb5; have R5 := R4.step hb5; have h5 := hr4.step hb5; have hW5 := hW4.trans (hb5.mono hW4.size))
      | (go_at_call 53; refine (rounded_in _ _ X (10 ^ s) mode _ h5 hr5 MX.out (ten_md s hs40) (Nat.pow_pos (by decide)) hm6).mono ?_; rintro e w6 ⟨⟨r6, rfl, hr6⟩, hb6⟩; have D6 := D5.step hb6; have R6 := R5.step hb6; have hW6 := hW5.trans (hb6.mono hW5.size); rw [HV.out] at hr6)
      | (go_at_call 37; refine (decr_big _ Z0 _ _ hr6 (not_inr HR0.out)).mono ?_; rintro e w7 ⟨rfl, hb7⟩; have D7 := D6.step hb7; have R7 := R6.step hb7; have hW7 := hW6.trans (hb7.mono hW6.size); have r0 := R7.c0; have r1 := R7.c1; have r2 := R7.c2; have f0 := R7.free 0; have f1 := R7.free 1; have f2 := R7.free 2))
  have V := ((R7.set0 (.int .i64 0)).set1 (.int .u64 0)).set2 (.int .i64 0)
  have hB := ((hW7.setCell (p := ⟨p + 1, 0, none⟩) (by have := HP.out; show _ ≤ p + 1; omega) (.int .i64 0)).setCell (p := ⟨p + 1, 1, none⟩) (by have := HP.out; show _ ≤ p + 1; omega) (.int .u64 0)).setCell (p := ⟨p + 1, 2, none⟩) (by have := HP.out; show _ ≤ p + 1; omega) (.int .i64 0)
  have HB := (show Hid _ from hB)
  clear hB D D2 D3 D4 D5 D6 D7 R R2 R3 R4 R5 R6 R7 r0 r1 r2 f0 f1 f2 hr2 hr3 h3 hr4 hr5 h5 hr6 hb2 hb3 hb4 hb5 hb6 hb7 hW hW2 hW3 hW4 hW5 hW6 hW7 lD lR
  generalize ((w7.setCell ⟨p + 1, 0, none⟩ (.int .i64 0)).setCell ⟨p + 1, 1, none⟩ (.int .u64 0)).setCell ⟨p + 1, 2, none⟩ (.int .i64 0) = Z at *
  have c0 := V.c0
  have c1 := V.c1
  have c2 := V.c2
  clear V
  go_wp2_with fail
  refine bodyPost_ret (v := .tuple #[.agg #[.int .i64 0, .int .u64 0, .int .i64 0], .int .i64 4]) (by simp [results, Try.results26, go_sem, *]) rfl ⟨rfl, HB.out⟩
set_option maxHeartbeats 1000000 in
set_option maxRecDepth 100000 in
theorem drescale_form (h l s t : Int) (mode : Nat) (w : World) (ht0 : 0 ≤ t) (ht : t ≤ 18) (hm : (mode : Int) ≤ 6) (hbad : Bad h l s) :
    Calls Try.prog 26 #[.agg #[.int .i64 h, .int .u64 l, .int .i64 s], .int .i64 t, .int .i64 mode] w fun e w' => e = .returned (.tuple #[.agg #[.int .i64 0, .int .u64 0, .int .i64 0], .int .i64 3]) ∧ Below w.heap.size w w' := by
  have HB : Hid (Bad h l s) := hbad
  clear hbad
  have R := v3_new (w.alloc (.cells #[.int .i64 h, .int .u64 l, .int .i64 s] 24)) (.int .i64 0) (.int .u64 0) (.int .i64 0) 24
  rw [size_al] at R
  have hW := bel_al (bel_al (Below.refl _ w) (.cells #[.int .i64 h, .int .u64 l, .int .i64 s] 24)) (.cells #[.int .i64 0, .int .u64 0, .int .i64 0] 24)
  go_enter Try.func26, Try.ntmps26
  go_wp2_with fail
  refine (way_yes t mode _ ht0 ht hm).mono ?_
  rintro e w1 ⟨rfl, rfl⟩
  go_wp2_with fail
  refine (form_no h l s _ HB.out).mono ?_
  rintro e W ⟨rfl, hb⟩
  replace R := R.step hb
  replace hW := hW.trans (hb.mono hW.size)
  clear hb
  have r0 := R.c0
  have r1 := R.c1
  have r2 := R.c2
  have f0 := R.free 0
  have f1 := R.free 1
  have f2 := R.free 2
  have HR := (show Hid _ from R)
  have HW := (show Hid _ from hW)
  clear R hW
  go_wp2_with fail
  have V := ((HR.out.set0 (.int .i64 0)).set1 (.int .u64 0)).set2 (.int .i64 0)
  have hB := ((HW.out.setCell (p := ⟨w.heap.size + 1, 0, none⟩) (by show _ ≤ w.heap.size + 1; omega) (.int .i64 0)).setCell (p := ⟨w.heap.size + 1, 1, none⟩) (by show _ ≤ w.heap.size + 1; omega) (.int .u64 0)).setCell (p := ⟨w.heap.size + 1, 2, none⟩) (by show _ ≤ w.heap.size + 1; omega) (.int .i64 0)
  have c0 := V.c0
  have c1 := V.c1
  have c2 := V.c2
  refine bodyPost_ret (v := .tuple #[.agg #[.int .i64 0, .int .u64 0, .int .i64 0], .int .i64 3]) (by simp [results, Try.results26, go_sem, *]) rfl ⟨rfl, hB⟩
set_option maxHeartbeats 1000000 in
set_option maxRecDepth 100000 in
theorem drescale_arg (h l s t mode : Int) (w : World) (hbad : (t < 0 ∨ 18 < t) ∨ mode < 0 ∨ 6 < mode) :
    Calls Try.prog 26 #[.agg #[.int .i64 h, .int .u64 l, .int .i64 s], .int .i64 t, .int .i64 mode] w fun e w' => e = .returned (.tuple #[.agg #[.int .i64 0, .int .u64 0, .int .i64 0], .int .i64 1]) ∧ Below w.heap.size w w' := by
  have HB := (show Hid _ from hbad)
  clear hbad
  go_enter Try.func26, Try.ntmps26
  go_wp2_with fail
  refine (way_no t mode _ HB.out).mono ?_
  rintro e w1 ⟨rfl, rfl⟩
  go_wp2_with fail
  refine bodyPost_ret (v := .tuple #[.agg #[.int .i64 0, .int .u64 0, .int .i64 0], .int .i64 1]) (by simp [results, Try.results26, go_sem]) rfl ⟨rfl, bel_al (bel_al (Below.refl _ _) _) _⟩

end Go.Proofs.Ytghdkchbaadddaa
