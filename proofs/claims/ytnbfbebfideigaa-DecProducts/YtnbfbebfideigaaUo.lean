/- The document's decimals: the contracts of DocNeg, DocCmp; decimals out of form. -/
import Derived.Test.YtnbfbebfideigaaUn
namespace Go.Proofs.Ytnbfbebfideigaa
open Go.RowKit
set_option linter.unusedVariables false
attribute [local go_sem ↓] Go.wp_at_zero Go.wp_at_succ

theorem cell_put3 {w : World} {p q o : Nat} {c d f : Value} (h : q ≠ p) : (((w.setCell ⟨p, 0, none⟩ c).setCell ⟨p, 1, none⟩ d).setCell ⟨p, 2, none⟩ f).cell? ⟨q, o, none⟩ = w.cell? ⟨q, o, none⟩ := by
  have h3 : (((w.setCell ⟨p, 0, none⟩ c).setCell ⟨p, 1, none⟩ d).setCell ⟨p, 2, none⟩ f).heap[q]? = ((w.setCell ⟨p, 0, none⟩ c).setCell ⟨p, 1, none⟩ d).heap[q]? := Below.heap_setCell _ _ _ _ h
  exact (World.cell?_of_block (w := (w.setCell ⟨p, 0, none⟩ c).setCell ⟨p, 1, none⟩ d) (a := ⟨q, o, none⟩) h3).trans (cell_put h)
set_option maxHeartbeats 1000000 in
set_option maxRecDepth 100000 in
theorem dneg_ok (c : Int) (s : Nat) (w : World) (ic : InR c) (hs : (s : Int) ≤ 18) :
    Calls Try.prog 16 #[.agg #[.int .i64 (dhi c), .int .u64 (dlo c), .int .i64 s]] w fun e w' => e = .returned (.tuple #[.agg #[.int .i64 (dhi (-c)), .int .u64 (dlo (-c)), .int .i64 s], .int .i64 0]) ∧ Below w.heap.size w w' := by
  have D := (v3_new w (.int .i64 (dhi c)) (.int .u64 (dlo c)) (.int .i64 s) 24).alloc (.cells #[.int .i64 0, .int .u64 0, .int .i64 0] 24)
  have R := v3_new (w.alloc (.cells #[.int .i64 (dhi c), .int .u64 (dlo c), .int .i64 s] 24)) (.int .i64 0) (.int .u64 0) (.int .i64 0) 24
  rw [size_al] at R
  have hW := bel_al (bel_al (Below.refl _ w) (.cells #[.int .i64 (dhi c), .int .u64 (dlo c), .int .i64 s] 24)) (.cells #[.int .i64 0, .int .u64 0, .int .i64 0] 24)
  go_enter Try.func16, Try.ntmps16
  go_wp2_with fail
  refine (form_yes c s _ ic hs).mono ?_
  rintro e W ⟨rfl, hb⟩
  replace D := D.step hb
  replace R := R.step hb
  replace hW := hW.trans (hb.mono hW.size)
  clear hb
  obtain ⟨p, hp⟩ : ∃ p, p = w.heap.size := ⟨_, rfl⟩
  have HP : Hid (p = w.heap.size) := hp
  rw [← hp] at D R
  rw [← hp]
  clear hp
  have lD := D.lt
  have lR := R.lt
  go_wp2_with fail
  go_region_held3 (fun w' => w'.cell? ⟨p, 0, none⟩ = some (.int .i64 (dhi c)) ∧ w'.cell? ⟨p, 1, none⟩ = some (.int .u64 (dlo c)) ∧ w'.cell? ⟨p, 2, none⟩ = some (.int .i64 s))
    (first | exact ⟨D.c0, D.c1, D.c2⟩ | exact ⟨D.drew.c0, D.drew.c1, D.drew.c2⟩ | exact ⟨D4.c0, D4.c1, D4.c2⟩ | exact ⟨D3.c0, D3.c1, D3.c2⟩ | exact ⟨D2.c0, D2.c1, D2.c2⟩ | exact ⟨(cell_put3 (by omega)).trans D4.c0, (cell_put3 (by omega)).trans D4.c1, (cell_put3 (by omega)).trans D4.c2⟩)
    (first
      | (go_at_call 42; refine (coef_ok c s _ ic).mono ?_; rintro e w2 ⟨⟨r, rfl, hr⟩, hb⟩; have D2 := D.drew.step hb; have R2 := R.drew.step hb; have hW2 := hW.trans ((bel_of_drew hb).mono hW.size))
      | (go_at_call 36; refine (opp_in _ c _ hr).mono ?_; rintro e w3 ⟨⟨r3, rfl, hr3⟩, hb3⟩; have D3 := D2.step hb3; have R3 := R2.step hb3; have hW3 := hW2.trans (hb3.mono hW2.size))
      | (go_at_call 37; refine (decr_ok _ (-c) s _ hr3 ic.neg).mono ?_; rintro e w4 ⟨rfl, hb4⟩; have D4 := D3.step hb4; have R4 := R3.step hb4; have hW4 := hW3.trans (hb4.mono hW3.size); have r0 := R4.c0; have r1 := R4.c1; have r2 := R4.c2; have f0 := R4.free 0; have f1 := R4.free 1; have f2 := R4.free 2))
  have V := ((R4.set0 (.int .i64 (dhi (-c)))).set1 (.int .u64 (dlo (-c)))).set2 (.int .i64 (s : Int))
  have hB := ((hW4.setCell (p := ⟨p + 1, 0, none⟩) (by have := HP.out; show _ ≤ p + 1; omega) (.int .i64 (dhi (-c)))).setCell (p := ⟨p + 1, 1, none⟩) (by have := HP.out; show _ ≤ p + 1; omega) (.int .u64 (dlo (-c)))).setCell (p := ⟨p + 1, 2, none⟩) (by have := HP.out; show _ ≤ p + 1; omega) (.int .i64 (s : Int))
  have HB := (show Hid _ from hB)
  clear hB D D2 D3 D4 R R2 R3 R4 r0 r1 r2 f0 f1 f2 hr hr3 hW hW2 hW3 hW4 hb hb3 hb4 lD lR
  generalize ((w4.setCell ⟨p + 1, 0, none⟩ (.int .i64 (dhi (-c)))).setCell ⟨p + 1, 1, none⟩ (.int .u64 (dlo (-c)))).setCell ⟨p + 1, 2, none⟩ (.int .i64 (s : Int)) = Z at *
  have c0 := V.c0
  have c1 := V.c1
  have c2 := V.c2
  clear V
  go_wp2_with fail
  refine bodyPost_ret (v := .tuple #[.agg #[.int .i64 (dhi (-c)), .int .u64 (dlo (-c)), .int .i64 (s : Int)], .int .i64 0]) (by simp [results, Try.results16, go_sem, *]) rfl ⟨rfl, HB.out⟩
set_option maxHeartbeats 1000000 in
set_option maxRecDepth 100000 in
theorem dneg_bad (h l s : Int) (w : World) (hbad : Bad h l s) :
    Calls Try.prog 16 #[.agg #[.int .i64 h, .int .u64 l, .int .i64 s]] w fun e w' => e = .returned (.tuple #[.agg #[.int .i64 0, .int .u64 0, .int .i64 0], .int .i64 3]) ∧ Below w.heap.size w w' := by
  have HB : Hid (Bad h l s) := hbad
  clear hbad
  have R := v3_new (w.alloc (.cells #[.int .i64 h, .int .u64 l, .int .i64 s] 24)) (.int .i64 0) (.int .u64 0) (.int .i64 0) 24
  rw [size_al] at R
  have hW := bel_al (bel_al (Below.refl _ w) (.cells #[.int .i64 h, .int .u64 l, .int .i64 s] 24)) (.cells #[.int .i64 0, .int .u64 0, .int .i64 0] 24)
  go_enter Try.func16, Try.ntmps16
  go_wp2_with fail
  refine (form_no h l s _ HB.out).mono ?_
  rintro e W ⟨rfl, hb⟩
  replace R := R.step hb
  replace hW := hW.trans (hb.mono hW.size)
  clear hb
  obtain ⟨p, hp⟩ : ∃ p, p = w.heap.size := ⟨_, rfl⟩
  have HP : Hid (p = w.heap.size) := hp
  rw [← hp] at R
  rw [← hp]
  clear hp
  have r0 := R.c0
  have r1 := R.c1
  have r2 := R.c2
  have f0 := R.free 0
  have f1 := R.free 1
  have f2 := R.free 2
  have HR := (show Hid _ from R)
  have HW := (show Hid _ from hW)
  clear R hW
  go_wp2_with fail
  have V := ((HR.out.set0 (.int .i64 0)).set1 (.int .u64 0)).set2 (.int .i64 0)
  have hB := ((HW.out.setCell (p := ⟨p + 1, 0, none⟩) (by have := HP.out; show _ ≤ p + 1; omega) (.int .i64 0)).setCell (p := ⟨p + 1, 1, none⟩) (by have := HP.out; show _ ≤ p + 1; omega) (.int .u64 0)).setCell (p := ⟨p + 1, 2, none⟩) (by have := HP.out; show _ ≤ p + 1; omega) (.int .i64 0)
  have c0 := V.c0
  have c1 := V.c1
  have c2 := V.c2
  refine bodyPost_ret (v := .tuple #[.agg #[.int .i64 0, .int .u64 0, .int .i64 0], .int .i64 3]) (by simp [results, Try.results16, go_sem, *]) rfl ⟨rfl, hB⟩
set_option maxHeartbeats 1000000 in
set_option maxRecDepth 100000 in
theorem dcmp_bad1 (ha la sa hb lb sb : Int) (w : World) (hbad : Bad ha la sa) :
    Calls Try.prog 13 #[.agg #[.int .i64 ha, .int .u64 la, .int .i64 sa], .agg #[.int .i64 hb, .int .u64 lb, .int .i64 sb]] w fun e w' => e = .returned (.tuple #[.int .i64 0, .int .i64 3]) ∧ Below w.heap.size w w' := by
  have HB : Hid (Bad _ _ _) := hbad
  clear hbad
  have hW := bel_al (bel_al (Below.refl _ w) (.cells #[.int .i64 ha, .int .u64 la, .int .i64 sa] 24)) (.cells #[.int .i64 hb, .int .u64 lb, .int .i64 sb] 24)
  have B := (v3_new (w.alloc (.cells #[.int .i64 ha, .int .u64 la, .int .i64 sa] 24)) (.int .i64 hb) (.int .u64 lb) (.int .i64 sb) 24)
  rw [size_al] at B
  have HBB := (show Hid _ from B)
  have HW := (show Hid _ from hW)
  clear B hW
  go_enter Try.func13, Try.ntmps13
  go_wp2_with fail
  refine (form_no ha la sa _ HB.out).mono ?_
  rintro e w1 ⟨rfl, hb1⟩
  have hW := HW.out.trans (hb1.mono HW.out.size)
  have B := HBB.out.step hb1
  clear hb1 HW HBB 
  have b0 := B.c0
  have b1 := B.c1
  have b2 := B.c2
  go_wp2_with fail
  refine bodyPost_ret (v := .tuple #[.int .i64 0, .int .i64 3]) (by simp [results, Try.results13, go_sem]) rfl ⟨rfl, hW⟩
set_option maxHeartbeats 1000000 in
set_option maxRecDepth 100000 in
theorem dcmp_bad2 (ha la sa hb lb sb : Int) (w : World) (ca : Int) (na : Nat) (ia : InR ca) (hna : (na : Int) ≤ 18) (e0 : ha = dhi ca) (e1 : la = dlo ca) (e2 : sa = na) (hbad : Bad hb lb sb) :
    Calls Try.prog 13 #[.agg #[.int .i64 ha, .int .u64 la, .int .i64 sa], .agg #[.int .i64 hb, .int .u64 lb, .int .i64 sb]] w fun e w' => e = .returned (.tuple #[.int .i64 0, .int .i64 3]) ∧ Below w.heap.size w w' := by
  have HB : Hid (Bad _ _ _) := hbad
  clear hbad
  subst e0 e1 e2
  have hW := bel_al (bel_al (Below.refl _ w) (.cells #[.int .i64 (dhi ca), .int .u64 (dlo ca), .int .i64 (na : Int)] 24)) (.cells #[.int .i64 hb, .int .u64 lb, .int .i64 sb] 24)
  have B := (v3_new (w.alloc (.cells #[.int .i64 (dhi ca), .int .u64 (dlo ca), .int .i64 (na : Int)] 24)) (.int .i64 hb) (.int .u64 lb) (.int .i64 sb) 24)
  rw [size_al] at B
  have HBB := (show Hid _ from B)
  have HW := (show Hid _ from hW)
  clear B hW
  go_enter Try.func13, Try.ntmps13
  go_wp2_with fail
  refine (form_yes ca na _ ia hna).mono ?_
  rintro e w1 ⟨rfl, hb1⟩
  have hW := HW.out.trans (hb1.mono HW.out.size)
  have B := HBB.out.step hb1
  clear hb1 HW HBB 
  have b0 := B.c0
  have b1 := B.c1
  have b2 := B.c2
  go_wp2_with fail
  refine (form_no hb lb sb _ HB.out).mono ?_
  rintro e w2 ⟨rfl, hb1⟩
  replace hW := hW.trans (hb1.mono hW.size)
  clear hb1 b0 b1 b2 B
  go_wp2_with fail
  refine bodyPost_ret (v := .tuple #[.int .i64 0, .int .i64 3]) (by simp [results, Try.results13, go_sem]) rfl ⟨rfl, hW⟩

set_option maxHeartbeats 1000000 in
set_option maxRecDepth 100000 in
theorem dadd_bad1 (ha la sa hb lb sb : Int) (sub : Bool) (w : World) (hbad : Bad ha la sa) :
    Calls Try.prog 10 #[.agg #[.int .i64 ha, .int .u64 la, .int .i64 sa], .agg #[.int .i64 hb, .int .u64 lb, .int .i64 sb], .bool sub] w fun e w' => e = .returned (.tuple #[.agg #[.int .i64 0, .int .u64 0, .int .i64 0], .int .i64 3]) ∧ Below w.heap.size w w' := by
  have HB : Hid (Bad _ _ _) := hbad
  clear hbad
  have hW := bel_al (bel_al (bel_al (Below.refl _ w) (.cells #[.int .i64 ha, .int .u64 la, .int .i64 sa] 24)) (.cells #[.int .i64 hb, .int .u64 lb, .int .i64 sb] 24)) (.cells #[.int .i64 0, .int .u64 0, .int .i64 0] 24)
  have B := (v3_new (w.alloc (.cells #[.int .i64 ha, .int .u64 la, .int .i64 sa] 24)) (.int .i64 hb) (.int .u64 lb) (.int .i64 sb) 24).alloc (.cells #[.int .i64 0, .int .u64 0, .int .i64 0] 24)
  rw [size_al] at B
  have R := v3_new ((w.alloc (.cells #[.int .i64 ha, .int .u64 la, .int .i64 sa] 24)).alloc (.cells #[.int .i64 hb, .int .u64 lb, .int .i64 sb] 24)) (.int .i64 0) (.int .u64 0) (.int .i64 0) 24
  rw [size_al, size_al] at R
  have HBB := (show Hid _ from B)
  have HW := (show Hid _ from hW)
  clear B hW
  have HR := (show Hid _ from R)
  clear R
  go_enter Try.func10, Try.ntmps10
  go_wp2_with fail
  refine (form_no ha la sa _ HB.out).mono ?_
  rintro e w1 ⟨rfl, hb1⟩
  have hW := HW.out.trans (hb1.mono HW.out.size)
  have B := HBB.out.step hb1
  have R := HR.out.step hb1
  clear hb1 HW HBB HR
  have b0 := B.c0
  have b1 := B.c1
  have b2 := B.c2
  have r0 := R.c0
  have r1 := R.c1
  have r2 := R.c2
  have f0 := R.free 0
  have f1 := R.free 1
  have f2 := R.free 2
  have V := ((R.set0 (.int .i64 0)).set1 (.int .u64 0)).set2 (.int .i64 0)
  have hB := ((hW.setCell (p := ⟨w.heap.size + 1 + 1, 0, none⟩) (by show _ ≤ w.heap.size + 1 + 1; omega) (.int .i64 0)).setCell (p := ⟨w.heap.size + 1 + 1, 1, none⟩) (by show _ ≤ w.heap.size + 1 + 1; omega) (.int .u64 0)).setCell (p := ⟨w.heap.size + 1 + 1, 2, none⟩) (by show _ ≤ w.heap.size + 1 + 1; omega) (.int .i64 0)
  have HB := (show Hid _ from hB)
  have HV := (show Hid _ from V)
  clear V hB R
  go_wp2_with fail
  have c0 := HV.out.c0
  have c1 := HV.out.c1
  have c2 := HV.out.c2
  refine bodyPost_ret (v := .tuple #[.agg #[.int .i64 0, .int .u64 0, .int .i64 0], .int .i64 3]) (by simp [results, Try.results10, go_sem, *]) rfl ⟨rfl, HB.out⟩
set_option maxHeartbeats 1000000 in
set_option maxRecDepth 100000 in
theorem dadd_bad2 (ha la sa hb lb sb : Int) (sub : Bool) (w : World) (ca : Int) (na : Nat) (ia : InR ca) (hna : (na : Int) ≤ 18) (e0 : ha = dhi ca) (e1 : la = dlo ca) (e2 : sa = na) (hbad : Bad hb lb sb) :
    Calls Try.prog 10 #[.agg #[.int .i64 ha, .int .u64 la, .int .i64 sa], .agg #[.int .i64 hb, .int .u64 lb, .int .i64 sb], .bool sub] w fun e w' => e = .returned (.tuple #[.agg #[.int .i64 0, .int .u64 0, .int .i64 0], .int .i64 3]) ∧ Below w.heap.size w w' := by
  have HB : Hid (Bad _ _ _) := hbad
  clear hbad
  subst e0 e1 e2
  have hW := bel_al (bel_al (bel_al (Below.refl _ w) (.cells #[.int .i64 (dhi ca), .int .u64 (dlo ca), .int .i64 (na : Int)] 24)) (.cells #[.int .i64 hb, .int .u64 lb, .int .i64 sb] 24)) (.cells #[.int .i64 0, .int .u64 0, .int .i64 0] 24)
  have B := (v3_new (w.alloc (.cells #[.int .i64 (dhi ca), .int .u64 (dlo ca), .int .i64 (na : Int)] 24)) (.int .i64 hb) (.int .u64 lb) (.int .i64 sb) 24).alloc (.cells #[.int .i64 0, .int .u64 0, .int .i64 0] 24)
  rw [size_al] at B
  have R := v3_new ((w.alloc (.cells #[.int .i64 (dhi ca), .int .u64 (dlo ca), .int .i64 (na : Int)] 24)).alloc (.cells #[.int .i64 hb, .int .u64 lb, .int .i64 sb] 24)) (.int .i64 0) (.int .u64 0) (.int .i64 0) 24
  rw [size_al, size_al] at R
  have HBB := (show Hid _ from B)
  have HW := (show Hid _ from hW)
  clear B hW
  have HR := (show Hid _ from R)
  clear R
  go_enter Try.func10, Try.ntmps10
  go_wp2_with fail
  refine (form_yes ca na _ ia hna).mono ?_
  rintro e w1 ⟨rfl, hb1⟩
  have hW := HW.out.trans (hb1.mono HW.out.size)
  have B := HBB.out.step hb1
  have R := HR.out.step hb1
  clear hb1 HW HBB HR
  have b0 := B.c0
  have b1 := B.c1
  have b2 := B.c2
  go_wp2_with fail
  refine (form_no hb lb sb _ HB.out).mono ?_
  rintro e w2 ⟨rfl, hb1⟩
  replace hW := hW.trans (hb1.mono hW.size)
  replace R := R.step hb1
  clear hb1 b0 b1 b2 B
  have r0 := R.c0
  have r1 := R.c1
  have r2 := R.c2
  have f0 := R.free 0
  have f1 := R.free 1
  have f2 := R.free 2
  have V := ((R.set0 (.int .i64 0)).set1 (.int .u64 0)).set2 (.int .i64 0)
  have hB := ((hW.setCell (p := ⟨w.heap.size + 1 + 1, 0, none⟩) (by show _ ≤ w.heap.size + 1 + 1; omega) (.int .i64 0)).setCell (p := ⟨w.heap.size + 1 + 1, 1, none⟩) (by show _ ≤ w.heap.size + 1 + 1; omega) (.int .u64 0)).setCell (p := ⟨w.heap.size + 1 + 1, 2, none⟩) (by show _ ≤ w.heap.size + 1 + 1; omega) (.int .i64 0)
  have HB := (show Hid _ from hB)
  have HV := (show Hid _ from V)
  clear V hB R
  go_wp2_with fail
  have c0 := HV.out.c0
  have c1 := HV.out.c1
  have c2 := HV.out.c2
  refine bodyPost_ret (v := .tuple #[.agg #[.int .i64 0, .int .u64 0, .int .i64 0], .int .i64 3]) (by simp [results, Try.results10, go_sem, *]) rfl ⟨rfl, HB.out⟩

end Go.Proofs.Ytnbfbebfideigaa
