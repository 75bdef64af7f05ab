/- The law DecProducts, of all arguments. -/
import Derived.Test.YtnbfbebfideigaaUw
import Derived.Test.YtnbfbebfideigaaUwn
import Derived.Test.YtnbfbebfideigaaQa
namespace Go.Proofs.Ytnbfbebfideigaa
open Go.RowKit
set_option linter.unusedVariables false
section
attribute [local go_sem] ext_cell ext_frozen ext_drew ext_of_drew ext_of_drewN ext_setCell ext_lt ext_lt1 ext_lt2 ext_lt3 lt_n2 lt_n3 lt_n4 lt_n5 lt_n6
set_option maxHeartbeats 4000000 in
set_option maxRecDepth 100000 in
theorem products_law (ha la sa hb lb sb t mode x0' x1' x2' e1 : Int) (w : World) (S1 : Hid (∀ w, Calls Try.prog 27 #[.agg #[.int .i64 ha, .int .u64 la, .int .i64 sa], .agg #[.int .i64 hb, .int .u64 lb, .int .i64 sb], .int .i64 t, .int .i64 mode] w fun e w' => e = .returned (.tuple #[.agg #[.int .i64 x0', .int .u64 x1', .int .i64 x2'], .int .i64 e1]) ∧ Below w.heap.size w w')) (S2 : Hid (∀ w, Calls Try.prog 28 #[.agg #[.int .i64 ha, .int .u64 la, .int .i64 sa], .agg #[.int .i64 hb, .int .u64 lb, .int .i64 sb], .int .i64 t, .int .i64 mode] w fun e w' => e = .returned (.tuple #[.agg #[.int .i64 x0', .int .u64 x1', .int .i64 x2'], .int .i64 e1]) ∧ Below w.heap.size w w')) :
    Calls Try.prog 6 #[.agg #[.int .i64 ha, .int .u64 la, .int .i64 sa], .agg #[.int .i64 hb, .int .u64 lb, .int .i64 sb], .int .i64 t, .int .i64 mode] w fun e w' => e = .returned (.bool true) ∧ Below w.heap.size w w' := by
  go_enter Try.func6, Try.ntmps6
  go_wp2_with fail
  refine (S1.out _).mono ?_
  rintro e w1 ⟨rfl, bb⟩
  have Aa := ((at3_new w (.int .i64 ha) (.int .u64 la) (.int .i64 sa) 24).alloc (.cells #[.int .i64 hb, .int .u64 lb, .int .i64 sb] 24)).step bb
  have Ab := (at3_new (w.alloc (.cells #[.int .i64 ha, .int .u64 la, .int .i64 sa] 24)) (.int .i64 hb) (.int .u64 lb) (.int .i64 sb) 24).step bb
  have G : Below w.heap.size w w1 := (bel_alloc (bel_alloc (Below.refl _ _) _) _).trans (bb.mono (by simp <;> omega))
  clear bb
  rw [show (w.alloc (.cells #[.int .i64 ha, .int .u64 la, .int .i64 sa] 24)).heap.size = w.heap.size + 1 by simp] at Ab
  obtain ⟨a0, a1, a2, a3⟩ := Aa
  obtain ⟨b0, b1, b2, b3⟩ := Ab
  go_wp2_with fail
  refine (S2.out _).mono ?_
  rintro e w2 ⟨rfl, bb⟩
  clear a0 a1 a2 a3 b0 b1 b2 b3
  have Ap := (at3_new w1 _ _ _ _).step bb
  have G := G.trans ((below_over bb).mono G.size)
  clear bb
  generalize w1.heap.size = pp at *
  obtain ⟨p0, p1, p2, p3⟩ := Ap
  go_wp2_with fail
  refine (awake_any _).mono ?_
  rintro e w3 ⟨rfl, bb⟩
  have Ap := ((At3.mk p0 p1 p2 p3).alloc _).step bb
  clear p0 p1 p2 p3
  have Aq := (at3_new w2 _ _ _ _).step bb
  have G := G.trans ((below_over bb).mono G.size)
  clear bb
  generalize w2.heap.size = pq at *
  obtain ⟨p0, p1, p2, p3⟩ := Ap
  obtain ⟨q0, q1, q2, q3⟩ := Aq
  go_wp2_with fail
  go_ret
  exact ⟨rfl, G⟩

end
section
attribute [local go_sem ↓] Go.wp_at_zero Go.wp_at_succ
set_option maxHeartbeats 1000000 in
set_option maxRecDepth 100000 in
theorem dmul_form1 (ha la sa hb lb sb : Int) (t : Int) (mode : Nat) (ht0 : 0 ≤ t) (ht : t ≤ 18) (hm : (mode : Int) ≤ 6) (w : World) (hbad : Bad ha la sa) :
    Calls Try.prog 28 #[.agg #[.int .i64 ha, .int .u64 la, .int .i64 sa], .agg #[.int .i64 hb, .int .u64 lb, .int .i64 sb], .int .i64 t, .int .i64 mode] w fun e w' => e = .returned (.tuple #[.agg #[.int .i64 0, .int .u64 0, .int .i64 0], .int .i64 3]) ∧ Below w.heap.size w w' := by
  have HB : Hid (Bad _ _ _) := hbad
  clear hbad
  have hW := bel_al (bel_al (bel_al (Below.refl _ w) (.cells #[.int .i64 ha, .int .u64 la, .int .i64 sa] 24)) (.cells #[.int .i64 hb, .int .u64 lb, .int .i64 sb] 24)) (.cells #[.int .i64 0, .int .u64 0, .int .i64 0] 24)
  have B := (v3_new (w.alloc (.cells #[.int .i64 ha, .int .u64 la, .int .i64 sa] 24)) (.int .i64 hb) (.int .u64 lb) (.int .i64 sb) 24).alloc (.cells #[.int .i64 0, .int .u64 0, .int .i64 0] 24)
  rw [size_al] at B
  have R := v3_new ((w.alloc (.cells #[.int .i64 ha, .int .u64 la, .int .i64 sa] 24)).alloc (.cells #[.int .i64 hb, .int .u64 lb, .int .i64 sb] 24)) (.int .i64 0) (.int .u64 0) (.int .i64 0) 24
  rw [size_al, size_al] at R
  have HBB := (show Hid _ from B)
  have HW := (show Hid _ from hW)
  clear B hW
  have HR := (show Hid _ from R)
  clear R
  go_enter Try.func28, Try.ntmps28
  go_wp2_with fail
  refine (way_yes t mode _ ht0 ht hm).mono ?_
  rintro e w0 ⟨rfl, rfl⟩
  go_wp2_with fail
  refine (form_no ha la sa _ HB.out).mono ?_
  rintro e w1 ⟨rfl, hb1⟩
  have hW := HW.out.trans (hb1.mono HW.out.size)
  have B := HBB.out.step hb1
  have R := HR.out.step hb1
  clear hb1 HW HBB HR
  have b0 := B.c0
  have b1 := B.c1
  have b2 := B.c2
  have r0 := R.c0
  have r1 := R.c1
  have r2 := R.c2
  have f0 := R.free 0
  have f1 := R.free 1
  have f2 := R.free 2
  have V := ((R.set0 (.int .i64 0)).set1 (.int .u64 0)).set2 (.int .i64 0)
  have hB := ((hW.setCell (p := ⟨w.heap.size + 1 + 1, 0, none⟩) (by show _ ≤ w.heap.size + 1 + 1; omega) (.int .i64 0)).setCell (p := ⟨w.heap.size + 1 + 1, 1, none⟩) (by show _ ≤ w.heap.size + 1 + 1; omega) (.int .u64 0)).setCell (p := ⟨w.heap.size + 1 + 1, 2, none⟩) (by show _ ≤ w.heap.size + 1 + 1; omega) (.int .i64 0)
  have HB := (show Hid _ from hB)
  have HV := (show Hid _ from V)
  clear V hB R
  go_wp2_with fail
  have c0 := HV.out.c0
  have c1 := HV.out.c1
  have c2 := HV.out.c2
  refine bodyPost_ret (v := .tuple #[.agg #[.int .i64 0, .int .u64 0, .int .i64 0], .int .i64 3]) (by simp [results, Try.results28, go_sem, *]) rfl ⟨rfl, HB.out⟩
set_option maxHeartbeats 1000000 in
set_option maxRecDepth 100000 in
theorem dmul_form2 (ha la sa hb lb sb : Int) (t : Int) (mode : Nat) (ht0 : 0 ≤ t) (ht : t ≤ 18) (hm : (mode : Int) ≤ 6) (w : World) (ca : Int) (na : Nat) (ia : InR ca) (hna : (na : Int) ≤ 18) (e0 : ha = dhi ca) (e1 : la = dlo ca) (e2 : sa = na) (hbad : Bad hb lb sb) :
    Calls Try.prog 28 #[.agg #[.int .i64 ha, .int .u64 la, .int .i64 sa], .agg #[.int .i64 hb, .int .u64 lb, .int .i64 sb], .int .i64 t, .int .i64 mode] w fun e w' => e = .returned (.tuple #[.agg #[.int .i64 0, .int .u64 0, .int .i64 0], .int .i64 3]) ∧ Below w.heap.size w w' := by
  have HB : Hid (Bad _ _ _) := hbad
  clear hbad
  subst e0 e1 e2
  have hW := bel_al (bel_al (bel_al (Below.refl _ w) (.cells #[.int .i64 (dhi ca), .int .u64 (dlo ca), .int .i64 (na : Int)] 24)) (.cells #[.int .i64 hb, .int .u64 lb, .int .i64 sb] 24)) (.cells #[.int .i64 0, .int .u64 0, .int .i64 0] 24)
  have B := (v3_new (w.alloc (.cells #[.int .i64 (dhi ca), .int .u64 (dlo ca), .int .i64 (na : Int)] 24)) (.int .i64 hb) (.int .u64 lb) (.int .i64 sb) 24).alloc (.cells #[.int .i64 0, .int .u64 0, .int .i64 0] 24)
  rw [size_al] at B
  have R := v3_new ((w.alloc (.cells #[.int .i64 (dhi ca), .int .u64 (dlo ca), .int .i64 (na : Int)] 24)).alloc (.cells #[.int .i64 hb, .int .u64 lb, .int .i64 sb] 24)) (.int .i64 0) (.int .u64 0) (.int .i64 0) 24
  rw [size_al, size_al] at R
  have HBB := (show Hid _ from B)
  have HW := (show Hid _ from hW)
  clear B hW
  have HR := (show Hid _ from R)
  clear R
  go_enter Try.func28, Try.ntmps28
  go_wp2_with fail
  refine (way_yes t mode _ ht0 ht hm).mono ?_
  rintro e w0 ⟨rfl, rfl⟩
  go_wp2_with fail
  refine (form_yes ca na _ ia hna).mono ?_
  rintro e w1 ⟨rfl, hb1⟩
  have hW := HW.out.trans (hb1.mono HW.out.size)
  have B := HBB.out.step hb1
  have R := HR.out.step hb1
  clear hb1 HW HBB HR
  have b0 := B.c0
  have b1 := B.c1
  have b2 := B.c2
  go_wp2_with fail
  refine (form_no hb lb sb _ HB.out).mono ?_
  rintro e w2 ⟨rfl, hb1⟩
  replace hW := hW.trans (hb1.mono hW.size)
  replace R := R.step hb1
  clear hb1 b0 b1 b2 B
  have r0 := R.c0
  have r1 := R.c1
  have r2 := R.c2
  have f0 := R.free 0
  have f1 := R.free 1
  have f2 := R.free 2
  have V := ((R.set0 (.int .i64 0)).set1 (.int .u64 0)).set2 (.int .i64 0)
  have hB := ((hW.setCell (p := ⟨w.heap.size + 1 + 1, 0, none⟩) (by show _ ≤ w.heap.size + 1 + 1; omega) (.int .i64 0)).setCell (p := ⟨w.heap.size + 1 + 1, 1, none⟩) (by show _ ≤ w.heap.size + 1 + 1; omega) (.int .u64 0)).setCell (p := ⟨w.heap.size + 1 + 1, 2, none⟩) (by show _ ≤ w.heap.size + 1 + 1; omega) (.int .i64 0)
  have HB := (show Hid _ from hB)
  have HV := (show Hid _ from V)
  clear V hB R
  go_wp2_with fail
  have c0 := HV.out.c0
  have c1 := HV.out.c1
  have c2 := HV.out.c2
  refine bodyPost_ret (v := .tuple #[.agg #[.int .i64 0, .int .u64 0, .int .i64 0], .int .i64 3]) (by simp [results, Try.results28, go_sem, *]) rfl ⟨rfl, HB.out⟩
set_option maxHeartbeats 1000000 in
set_option maxRecDepth 100000 in
theorem dmul_arg (ha la sa hb lb sb t mode : Int) (w : World) (hbad : (t < 0 ∨ 18 < t) ∨ mode < 0 ∨ 6 < mode) :
    Calls Try.prog 28 #[.agg #[.int .i64 ha, .int .u64 la, .int .i64 sa], .agg #[.int .i64 hb, .int .u64 lb, .int .i64 sb], .int .i64 t, .int .i64 mode] w fun e w' => e = .returned (.tuple #[.agg #[.int .i64 0, .int .u64 0, .int .i64 0], .int .i64 1]) ∧ Below w.heap.size w w' := by
  have HB := (show Hid _ from hbad)
  clear hbad
  go_enter Try.func28, Try.ntmps28
  go_wp2_with fail
  refine (way_no t mode _ HB.out).mono ?_
  rintro e w1 ⟨rfl, rfl⟩
  go_wp2_with fail
  refine bodyPost_ret (v := .tuple #[.agg #[.int .i64 0, .int .u64 0, .int .i64 0], .int .i64 1]) (by simp [results, Try.results28, go_sem]) rfl ⟨rfl, bel_al (bel_al (bel_al (Below.refl _ _) _) _) _⟩

end

theorem products_walk (ha la sa hb lb sb t mode : Int) (wha : (Lit.int .i64 ha).wf = true) (wla : (Lit.int .u64 la).wf = true) (whb : (Lit.int .i64 hb).wf = true) (wlb : (Lit.int .u64 lb).wf = true) (w : World) :
    Calls Try.prog 6 #[.agg #[.int .i64 ha, .int .u64 la, .int .i64 sa], .agg #[.int .i64 hb, .int .u64 lb, .int .i64 sb], .int .i64 t, .int .i64 mode] w fun e w' => e = .returned (.bool true) ∧ Below w.heap.size w w' := by
  by_cases hbd : (t < 0 ∨ 18 < t) ∨ mode < 0 ∨ 6 < mode
  · exact products_law ha la sa hb lb sb t mode _ _ _ _ w (fun w => mul_arg ha la sa hb lb sb t mode w hbd) (fun w => dmul_arg ha la sa hb lb sb t mode w hbd)
  · obtain ⟨k, rfl⟩ := Int.eq_ofNat_of_zero_le (show 0 ≤ t by omega)
    obtain ⟨m, rfl⟩ := Int.eq_ofNat_of_zero_le (show 0 ≤ mode by omega)
    rcases form_cases ha la sa wha wla with hbad | ⟨ca, na, rfl, rfl, rfl, ia, hna⟩
    · exact products_law ha la sa hb lb sb k m _ _ _ _ w (fun w => mul_form ha la sa hb lb sb k m w (by omega) (by omega) (by omega) fun w => both_bad1 ha la sa hb lb sb w hbad) (fun w => dmul_form1 ha la sa hb lb sb k m (by omega) (by omega) (by omega) w hbad)
    · rcases form_cases hb lb sb whb wlb with hbad | ⟨cb, nb, rfl, rfl, rfl, ib, hnb⟩
      · exact products_law _ _ _ hb lb sb k m _ _ _ _ w (fun w => mul_form _ _ _ hb lb sb k m w (by omega) (by omega) (by omega) fun w => both_bad2 ca _ _ hb lb sb na w (IsD.self _) ia hna hbad) (fun w => dmul_form2 _ _ _ hb lb sb k m (by omega) (by omega) (by omega) w ca na ia hna rfl rfl rfl hbad)
      · by_cases hr : InR (mv ca na cb nb k m)
        · exact products_law _ _ _ _ _ _ k m _ _ _ _ w (fun w => mul_yes ca cb na nb k m w ia ib hna hnb (by omega) (by omega) hr) (fun w => dmul_yes ca cb na nb k m w ia ib hna hnb (by omega) (by omega) hr)
        · exact products_law _ _ _ _ _ _ k m _ _ _ _ w (fun w => mul_no ca cb na nb k m w ia ib hna hnb (by omega) (by omega) hr) (fun w => dmul_no ca cb na nb k m w ia ib hna hnb (by omega) (by omega) hr)
end Go.Proofs.Ytnbfbebfideigaa
