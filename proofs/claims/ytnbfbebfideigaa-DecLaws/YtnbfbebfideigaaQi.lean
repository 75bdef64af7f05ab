/- The law DecLaws: its arithmetic and its walk. -/
import Derived.Test.YtnbfbebfideigaaPh
namespace Go.Proofs.Ytnbfbebfideigaa
open Go.RowKit
set_option linter.unusedVariables false
attribute [local go_sem] ext_cell ext_frozen ext_drew ext_of_drew ext_of_drewN ext_setCell ext_lt ext_lt1 ext_lt2 ext_lt3 lt_n2 lt_n3 lt_n4 lt_n5 lt_n6

set_option maxHeartbeats 4000000 in
set_option maxRecDepth 100000 in
theorem laws_bad (ha la sa hb lb sb hc lc sc e0 : Int) (w : World) (he : e0 ≠ 0) (S1 : Hid (∀ w, Calls Try.prog 9 #[.agg #[.int .i64 ha, .int .u64 la, .int .i64 sa], .agg #[.int .i64 hb, .int .u64 lb, .int .i64 sb]] w fun e w' => e = .returned (.tuple #[.agg #[.int .i64 0, .int .u64 0, .int .i64 0], .int .i64 e0]) ∧ Below w.heap.size w w')) (S2 : Hid (∀ w, Calls Try.prog 9 #[.agg #[.int .i64 hb, .int .u64 lb, .int .i64 sb], .agg #[.int .i64 ha, .int .u64 la, .int .i64 sa]] w fun e w' => e = .returned (.tuple #[.agg #[.int .i64 0, .int .u64 0, .int .i64 0], .int .i64 e0]) ∧ Below w.heap.size w w')) :
    Calls Try.prog 8 #[.agg #[.int .i64 ha, .int .u64 la, .int .i64 sa], .agg #[.int .i64 hb, .int .u64 lb, .int .i64 sb], .agg #[.int .i64 hc, .int .u64 lc, .int .i64 sc]] w fun e w' => e = .returned (.bool true) ∧ Below w.heap.size w w' := by
  go_enter Try.func8, Try.ntmps8
  go_wp2_with fail
  refine (awake_any _).mono ?_
  rintro e w1 ⟨rfl, bb⟩
  have Aa := (((at3_new w (.int .i64 ha) (.int .u64 la) (.int .i64 sa) 24).alloc (.cells #[.int .i64 hb, .int .u64 lb, .int .i64 sb] 24)).alloc (.cells #[.int .i64 hc, .int .u64 lc, .int .i64 sc] 24)).step bb
  have Ab := ((at3_new (w.alloc (.cells #[.int .i64 ha, .int .u64 la, .int .i64 sa] 24)) (.int .i64 hb) (.int .u64 lb) (.int .i64 sb) 24).alloc (.cells #[.int .i64 hc, .int .u64 lc, .int .i64 sc] 24)).step bb
  have Ac := (at3_new ((w.alloc (.cells #[.int .i64 ha, .int .u64 la, .int .i64 sa] 24)).alloc (.cells #[.int .i64 hb, .int .u64 lb, .int .i64 sb] 24)) (.int .i64 hc) (.int .u64 lc) (.int .i64 sc) 24).step bb
  have G : Below w.heap.size w w1 := (bel_alloc (bel_alloc (bel_alloc (Below.refl _ _) _) _) _).trans (bb.mono (by simp <;> omega))
  clear bb
  rw [show (w.alloc (.cells #[.int .i64 ha, .int .u64 la, .int .i64 sa] 24)).heap.size = w.heap.size + 1 by simp] at Ab
  rw [show ((w.alloc (.cells #[.int .i64 ha, .int .u64 la, .int .i64 sa] 24)).alloc (.cells #[.int .i64 hb, .int .u64 lb, .int .i64 sb] 24)).heap.size = w.heap.size + 1 + 1 by simp] at Ac
  obtain ⟨a0, a1, a2, a3⟩ := Aa
  obtain ⟨b0, b1, b2, b3⟩ := Ab
  obtain ⟨c0, c1, c2, c3⟩ := Ac
  go_wp2_with fail
  refine (S1.out _).mono ?_
  rintro e w2 ⟨rfl, bb⟩
  have Aa := ((At3.mk a0 a1 a2 a3)).step bb
  have Ab := ((At3.mk b0 b1 b2 b3)).step bb
  have Ac := ((At3.mk c0 c1 c2 c3)).step bb
  clear a0 a1 a2 a3 b0 b1 b2 b3 c0 c1 c2 c3
  have G := G.trans (bb.mono G.size)
  clear bb
  obtain ⟨a0, a1, a2, a3⟩ := Aa
  obtain ⟨b0, b1, b2, b3⟩ := Ab
  obtain ⟨c0, c1, c2, c3⟩ := Ac
  go_wp2_with fail
  refine (S2.out _).mono ?_
  rintro e w3 ⟨rfl, bb⟩
  have Aa := ((At3.mk a0 a1 a2 a3).alloc _).step bb
  have Ab := ((At3.mk b0 b1 b2 b3).alloc _).step bb
  have Ac := ((At3.mk c0 c1 c2 c3).alloc _).step bb
  clear a0 a1 a2 a3 b0 b1 b2 b3 c0 c1 c2 c3
  have As := (at3_new w2 _ _ _ _).step bb
  have G := G.trans ((below_over bb).mono G.size)
  clear bb
  generalize w2.heap.size = ps at *
  obtain ⟨a0, a1, a2, a3⟩ := Aa
  obtain ⟨b0, b1, b2, b3⟩ := Ab
  obtain ⟨c0, c1, c2, c3⟩ := Ac
  obtain ⟨s0, s1, s2, s3⟩ := As
  go_wp2_with fail
  refine bodyPost_ret (v := .bool true) (by simp [results, Try.results8, go_sem]) rfl ⟨rfl, ?_⟩
  exact bel_alloc G _
set_option maxHeartbeats 4000000 in
set_option maxRecDepth 100000 in
theorem laws_n1 (ha la sa hb lb sb hc lc sc s0' s1' s2' k0' k1' k2' x0' x1' x2' y0' y1' y2' g h i : Int) (w : World) (hg : g ≠ 0) (S1 : Hid (∀ w, Calls Try.prog 9 #[.agg #[.int .i64 ha, .int .u64 la, .int .i64 sa], .agg #[.int .i64 hb, .int .u64 lb, .int .i64 sb]] w fun e w' => e = .returned (.tuple #[.agg #[.int .i64 s0', .int .u64 s1', .int .i64 s2'], .int .i64 0]) ∧ Below w.heap.size w w')) (S2 : Hid (∀ w, Calls Try.prog 9 #[.agg #[.int .i64 hb, .int .u64 lb, .int .i64 sb], .agg #[.int .i64 ha, .int .u64 la, .int .i64 sa]] w fun e w' => e = .returned (.tuple #[.agg #[.int .i64 s0', .int .u64 s1', .int .i64 s2'], .int .i64 0]) ∧ Below w.heap.size w w')) (B : Hid (∀ w, Calls Try.prog 11 #[.agg #[.int .i64 s0', .int .u64 s1', .int .i64 s2'], .agg #[.int .i64 hb, .int .u64 lb, .int .i64 sb]] w fun e w' => e = .returned (.tuple #[.agg #[.int .i64 k0', .int .u64 k1', .int .i64 k2'], .int .i64 g]) ∧ Below w.heap.size w w')) (X : Hid (∀ w, Calls Try.prog 9 #[.agg #[.int .i64 s0', .int .u64 s1', .int .i64 s2'], .agg #[.int .i64 hc, .int .u64 lc, .int .i64 sc]] w fun e w' => e = .returned (.tuple #[.agg #[.int .i64 x0', .int .u64 x1', .int .i64 x2'], .int .i64 h]) ∧ Below w.heap.size w w')) (Y : Hid (∀ w, Calls Try.prog 9 #[.agg #[.int .i64 hb, .int .u64 lb, .int .i64 sb], .agg #[.int .i64 hc, .int .u64 lc, .int .i64 sc]] w fun e w' => e = .returned (.tuple #[.agg #[.int .i64 y0', .int .u64 y1', .int .i64 y2'], .int .i64 i]) ∧ Below w.heap.size w w')) (hh : h ≠ 0) :
    Calls Try.prog 8 #[.agg #[.int .i64 ha, .int .u64 la, .int .i64 sa], .agg #[.int .i64 hb, .int .u64 lb, .int .i64 sb], .agg #[.int .i64 hc, .int .u64 lc, .int .i64 sc]] w fun e w' => e = .returned (.bool true) ∧ Below w.heap.size w w' := by
  go_enter Try.func8, Try.ntmps8
  go_wp2_with fail
  refine (awake_any _).mono ?_
  rintro e w1 ⟨rfl, bb⟩
  have Aa := (((at3_new w (.int .i64 ha) (.int .u64 la) (.int .i64 sa) 24).alloc (.cells #[.int .i64 hb, .int .u64 lb, .int .i64 sb] 24)).alloc (.cells #[.int .i64 hc, .int .u64 lc, .int .i64 sc] 24)).step bb
  have Ab := ((at3_new (w.alloc (.cells #[.int .i64 ha, .int .u64 la, .int .i64 sa] 24)) (.int .i64 hb) (.int .u64 lb) (.int .i64 sb) 24).alloc (.cells #[.int .i64 hc, .int .u64 lc, .int .i64 sc] 24)).step bb
  have Ac := (at3_new ((w.alloc (.cells #[.int .i64 ha, .int .u64 la, .int .i64 sa] 24)).alloc (.cells #[.int .i64 hb, .int .u64 lb, .int .i64 sb] 24)) (.int .i64 hc) (.int .u64 lc) (.int .i64 sc) 24).step bb
  have G : Below w.heap.size w w1 := (bel_alloc (bel_alloc (bel_alloc (Below.refl _ _) _) _) _).trans (bb.mono (by simp <;> omega))
  clear bb
  rw [show (w.alloc (.cells #[.int .i64 ha, .int .u64 la, .int .i64 sa] 24)).heap.size = w.heap.size + 1 by simp] at Ab
  rw [show ((w.alloc (.cells #[.int .i64 ha, .int .u64 la, .int .i64 sa] 24)).alloc (.cells #[.int .i64 hb, .int .u64 lb, .int .i64 sb] 24)).heap.size = w.heap.size + 1 + 1 by simp] at Ac
  obtain ⟨a0, a1, a2, a3⟩ := Aa
  obtain ⟨b0, b1, b2, b3⟩ := Ab
  obtain ⟨c0, c1, c2, c3⟩ := Ac
  go_wp2_with fail
  refine (S1.out _).mono ?_
  rintro e w2 ⟨rfl, bb⟩
  have Aa := ((At3.mk a0 a1 a2 a3)).step bb
  have Ab := ((At3.mk b0 b1 b2 b3)).step bb
  have Ac := ((At3.mk c0 c1 c2 c3)).step bb
  clear a0 a1 a2 a3 b0 b1 b2 b3 c0 c1 c2 c3
  have G := G.trans (bb.mono G.size)
  clear bb
  obtain ⟨a0, a1, a2, a3⟩ := Aa
  obtain ⟨b0, b1, b2, b3⟩ := Ab
  obtain ⟨c0, c1, c2, c3⟩ := Ac
  go_wp2_with fail
  refine (S2.out _).mono ?_
  rintro e w3 ⟨rfl, bb⟩
  have Aa := ((At3.mk a0 a1 a2 a3).alloc _).step bb
  have Ab := ((At3.mk b0 b1 b2 b3).alloc _).step bb
  have Ac := ((At3.mk c0 c1 c2 c3).alloc _).step bb
  clear a0 a1 a2 a3 b0 b1 b2 b3 c0 c1 c2 c3
  have As := (at3_new w2 _ _ _ _).step bb
  have G := G.trans ((below_over bb).mono G.size)
  clear bb
  generalize w2.heap.size = ps at *
  obtain ⟨a0, a1, a2, a3⟩ := Aa
  obtain ⟨b0, b1, b2, b3⟩ := Ab
  obtain ⟨c0, c1, c2, c3⟩ := Ac
  obtain ⟨s0, s1, s2, s3⟩ := As
  go_wp2_with fail
  refine (B.out _).mono ?_
  rintro e w4 ⟨rfl, bb⟩
  have Aa := ((At3.mk a0 a1 a2 a3).alloc _).step bb
  have Ab := ((At3.mk b0 b1 b2 b3).alloc _).step bb
  have Ac := ((At3.mk c0 c1 c2 c3).alloc _).step bb
  have As := ((At3.mk s0 s1 s2 s3).alloc _).step bb
  clear a0 a1 a2 a3 b0 b1 b2 b3 c0 c1 c2 c3 s0 s1 s2 s3
  have G := G.trans ((below_over bb).mono G.size)
  clear bb
  generalize w3.heap.size = pt at *
  obtain ⟨a0, a1, a2, a3⟩ := Aa
  obtain ⟨b0, b1, b2, b3⟩ := Ab
  obtain ⟨c0, c1, c2, c3⟩ := Ac
  obtain ⟨s0, s1, s2, s3⟩ := As
  go_wp2_with fail
  refine (X.out _).mono ?_
  rintro e w5 ⟨rfl, bb⟩
  have Aa := ((At3.mk a0 a1 a2 a3).alloc _).step bb
  have Ab := ((At3.mk b0 b1 b2 b3).alloc _).step bb
  have Ac := ((At3.mk c0 c1 c2 c3).alloc _).step bb
  have As := ((At3.mk s0 s1 s2 s3).alloc _).step bb
  clear a0 a1 a2 a3 b0 b1 b2 b3 c0 c1 c2 c3 s0 s1 s2 s3
  have G := G.trans ((below_over bb).mono G.size)
  clear bb
  generalize w4.heap.size = pk at *
  obtain ⟨a0, a1, a2, a3⟩ := Aa
  obtain ⟨b0, b1, b2, b3⟩ := Ab
  obtain ⟨c0, c1, c2, c3⟩ := Ac
  obtain ⟨s0, s1, s2, s3⟩ := As
  go_wp2_with fail
  refine (Y.out _).mono ?_
  rintro e w6 ⟨rfl, bb⟩
  have Aa := ((At3.mk a0 a1 a2 a3).alloc _).step bb
  have Ab := ((At3.mk b0 b1 b2 b3).alloc _).step bb
  have Ac := ((At3.mk c0 c1 c2 c3).alloc _).step bb
  clear a0 a1 a2 a3 b0 b1 b2 b3 c0 c1 c2 c3 s0 s1 s2 s3
  have Ax := (at3_new w5 _ _ _ _).step bb
  have G := G.trans ((below_over bb).mono G.size)
  clear bb
  generalize w5.heap.size = px at *
  obtain ⟨a0, a1, a2, a3⟩ := Aa
  obtain ⟨b0, b1, b2, b3⟩ := Ab
  obtain ⟨c0, c1, c2, c3⟩ := Ac
  obtain ⟨x0, x1, x2, x3⟩ := Ax
  go_wp2_with fail
  refine bodyPost_ret (v := .bool true) (by simp [results, Try.results8, go_sem]) rfl ⟨rfl, ?_⟩
  exact bel_alloc G _
set_option maxHeartbeats 4000000 in
set_option maxRecDepth 100000 in
theorem laws_n2 (ha la sa hb lb sb hc lc sc s0' s1' s2' k0' k1' k2' x0' x1' x2' y0' y1' y2' g i : Int) (w : World) (hg : g ≠ 0) (S1 : Hid (∀ w, Calls Try.prog 9 #[.agg #[.int .i64 ha, .int .u64 la, .int .i64 sa], .agg #[.int .i64 hb, .int .u64 lb, .int .i64 sb]] w fun e w' => e = .returned (.tuple #[.agg #[.int .i64 s0', .int .u64 s1', .int .i64 s2'], .int .i64 0]) ∧ Below w.heap.size w w')) (S2 : Hid (∀ w, Calls Try.prog 9 #[.agg #[.int .i64 hb, .int .u64 lb, .int .i64 sb], .agg #[.int .i64 ha, .int .u64 la, .int .i64 sa]] w fun e w' => e = .returned (.tuple #[.agg #[.int .i64 s0', .int .u64 s1', .int .i64 s2'], .int .i64 0]) ∧ Below w.heap.size w w')) (B : Hid (∀ w, Calls Try.prog 11 #[.agg #[.int .i64 s0', .int .u64 s1', .int .i64 s2'], .agg #[.int .i64 hb, .int .u64 lb, .int .i64 sb]] w fun e w' => e = .returned (.tuple #[.agg #[.int .i64 k0', .int .u64 k1', .int .i64 k2'], .int .i64 g]) ∧ Below w.heap.size w w')) (X : Hid (∀ w, Calls Try.prog 9 #[.agg #[.int .i64 s0', .int .u64 s1', .int .i64 s2'], .agg #[.int .i64 hc, .int .u64 lc, .int .i64 sc]] w fun e w' => e = .returned (.tuple #[.agg #[.int .i64 x0', .int .u64 x1', .int .i64 x2'], .int .i64 0]) ∧ Below w.heap.size w w')) (Y : Hid (∀ w, Calls Try.prog 9 #[.agg #[.int .i64 hb, .int .u64 lb, .int .i64 sb], .agg #[.int .i64 hc, .int .u64 lc, .int .i64 sc]] w fun e w' => e = .returned (.tuple #[.agg #[.int .i64 y0', .int .u64 y1', .int .i64 y2'], .int .i64 i]) ∧ Below w.heap.size w w')) (hi : i ≠ 0) :
    Calls Try.prog 8 #[.agg #[.int .i64 ha, .int .u64 la, .int .i64 sa], .agg #[.int .i64 hb, .int .u64 lb, .int .i64 sb], .agg #[.int .i64 hc, .int .u64 lc, .int .i64 sc]] w fun e w' => e = .returned (.bool true) ∧ Below w.heap.size w w' := by
  go_enter Try.func8, Try.ntmps8
  go_wp2_with fail
  refine (awake_any _).mono ?_
  rintro e w1 ⟨rfl, bb⟩
  have Aa := (((at3_new w (.int .i64 ha) (.int .u64 la) (.int .i64 sa) 24).alloc (.cells #[.int .i64 hb, .int .u64 lb, .int .i64 sb] 24)).alloc (.cells #[.int .i64 hc, .int .u64 lc, .int .i64 sc] 24)).step bb
  have Ab := ((at3_new (w.alloc (.cells #[.int .i64 ha, .int .u64 la, .int .i64 sa] 24)) (.int .i64 hb) (.int .u64 lb) (.int .i64 sb) 24).alloc (.cells #[.int .i64 hc, .int .u64 lc, .int .i64 sc] 24)).step bb
  have Ac := (at3_new ((w.alloc (.cells #[.int .i64 ha, .int .u64 la, .int .i64 sa] 24)).alloc (.cells #[.int .i64 hb, .int .u64 lb, .int .i64 sb] 24)) (.int .i64 hc) (.int .u64 lc) (.int .i64 sc) 24).step bb
  have G : Below w.heap.size w w1 := (bel_alloc (bel_alloc (bel_alloc (Below.refl _ _) _) _) _).trans (bb.mono (by simp <;> omega))
  clear bb
  rw [show (w.alloc (.cells #[.int .i64 ha, .int .u64 la, .int .i64 sa] 24)).heap.size = w.heap.size + 1 by simp] at Ab
  rw [show ((w.alloc (.cells #[.int .i64 ha, .int .u64 la, .int .i64 sa] 24)).alloc (.cells #[.int .i64 hb, .int .u64 lb, .int .i64 sb] 24)).heap.size = w.heap.size + 1 + 1 by simp] at Ac
  obtain ⟨a0, a1, a2, a3⟩ := Aa
  obtain ⟨b0, b1, b2, b3⟩ := Ab
  obtain ⟨c0, c1, c2, c3⟩ := Ac
  go_wp2_with fail
  refine (S1.out _).mono ?_
  rintro e w2 ⟨rfl, bb⟩
  have Aa := ((At3.mk a0 a1 a2 a3)).step bb
  have Ab := ((At3.mk b0 b1 b2 b3)).step bb
  have Ac := ((At3.mk c0 c1 c2 c3)).step bb
  clear a0 a1 a2 a3 b0 b1 b2 b3 c0 c1 c2 c3
  have G := G.trans (bb.mono G.size)
  clear bb
  obtain ⟨a0, a1, a2, a3⟩ := Aa
  obtain ⟨b0, b1, b2, b3⟩ := Ab
  obtain ⟨c0, c1, c2, c3⟩ := Ac
  go_wp2_with fail
  refine (S2.out _).mono ?_
  rintro e w3 ⟨rfl, bb⟩
  have Aa := ((At3.mk a0 a1 a2 a3).alloc _).step bb
  have Ab := ((At3.mk b0 b1 b2 b3).alloc _).step bb
  have Ac := ((At3.mk c0 c1 c2 c3).alloc _).step bb
  clear a0 a1 a2 a3 b0 b1 b2 b3 c0 c1 c2 c3
  have As := (at3_new w2 _ _ _ _).step bb
  have G := G.trans ((below_over bb).mono G.size)
  clear bb
  generalize w2.heap.size = ps at *
  obtain ⟨a0, a1, a2, a3⟩ := Aa
  obtain ⟨b0, b1, b2, b3⟩ := Ab
  obtain ⟨c0, c1, c2, c3⟩ := Ac
  obtain ⟨s0, s1, s2, s3⟩ := As
  go_wp2_with fail
  refine (B.out _).mono ?_
  rintro e w4 ⟨rfl, bb⟩
  have Aa := ((At3.mk a0 a1 a2 a3).alloc _).step bb
  have Ab := ((At3.mk b0 b1 b2 b3).alloc _).step bb
  have Ac := ((At3.mk c0 c1 c2 c3).alloc _).step bb
  have As := ((At3.mk s0 s1 s2 s3).alloc _).step bb
  clear a0 a1 a2 a3 b0 b1 b2 b3 c0 c1 c2 c3 s0 s1 s2 s3
  have G := G.trans ((below_over bb).mono G.size)
  clear bb
  generalize w3.heap.size = pt at *
  obtain ⟨a0, a1, a2, a3⟩ := Aa
  obtain ⟨b0, b1, b2, b3⟩ := Ab
  obtain ⟨c0, c1, c2, c3⟩ := Ac
  obtain ⟨s0, s1, s2, s3⟩ := As
  go_wp2_with fail
  refine (X.out _).mono ?_
  rintro e w5 ⟨rfl, bb⟩
  have Aa := ((At3.mk a0 a1 a2 a3).alloc _).step bb
  have Ab := ((At3.mk b0 b1 b2 b3).alloc _).step bb
  have Ac := ((At3.mk c0 c1 c2 c3).alloc _).step bb
  have As := ((At3.mk s0 s1 s2 s3).alloc _).step bb
  clear a0 a1 a2 a3 b0 b1 b2 b3 c0 c1 c2 c3 s0 s1 s2 s3
  have G := G.trans ((below_over bb).mono G.size)
  clear bb
  generalize w4.heap.size = pk at *
  obtain ⟨a0, a1, a2, a3⟩ := Aa
  obtain ⟨b0, b1, b2, b3⟩ := Ab
  obtain ⟨c0, c1, c2, c3⟩ := Ac
  obtain ⟨s0, s1, s2, s3⟩ := As
  go_wp2_with fail
  refine (Y.out _).mono ?_
  rintro e w6 ⟨rfl, bb⟩
  have Aa := ((At3.mk a0 a1 a2 a3).alloc _).step bb
  have Ab := ((At3.mk b0 b1 b2 b3).alloc _).step bb
  have Ac := ((At3.mk c0 c1 c2 c3).alloc _).step bb
  clear a0 a1 a2 a3 b0 b1 b2 b3 c0 c1 c2 c3 s0 s1 s2 s3
  have Ax := (at3_new w5 _ _ _ _).step bb
  have G := G.trans ((below_over bb).mono G.size)
  clear bb
  generalize w5.heap.size = px at *
  obtain ⟨a0, a1, a2, a3⟩ := Aa
  obtain ⟨b0, b1, b2, b3⟩ := Ab
  obtain ⟨c0, c1, c2, c3⟩ := Ac
  obtain ⟨x0, x1, x2, x3⟩ := Ax
  go_wp2_with fail
  refine bodyPost_ret (v := .bool true) (by simp [results, Try.results8, go_sem]) rfl ⟨rfl, ?_⟩
  exact bel_alloc G _
set_option maxHeartbeats 4000000 in
set_option maxRecDepth 100000 in
theorem laws_n3 (ha la sa hb lb sb hc lc sc s0' s1' s2' k0' k1' k2' x0' x1' x2' y0' y1' y2' g : Int) (w : World) (hg : g ≠ 0) (S1 : Hid (∀ w, Calls Try.prog 9 #[.agg #[.int .i64 ha, .int .u64 la, .int .i64 sa], .agg #[.int .i64 hb, .int .u64 lb, .int .i64 sb]] w fun e w' => e = .returned (.tuple #[.agg #[.int .i64 s0', .int .u64 s1', .int .i64 s2'], .int .i64 0]) ∧ Below w.heap.size w w')) (S2 : Hid (∀ w, Calls Try.prog 9 #[.agg #[.int .i64 hb, .int .u64 lb, .int .i64 sb], .agg #[.int .i64 ha, .int .u64 la, .int .i64 sa]] w fun e w' => e = .returned (.tuple #[.agg #[.int .i64 s0', .int .u64 s1', .int .i64 s2'], .int .i64 0]) ∧ Below w.heap.size w w')) (B : Hid (∀ w, Calls Try.prog 11 #[.agg #[.int .i64 s0', .int .u64 s1', .int .i64 s2'], .agg #[.int .i64 hb, .int .u64 lb, .int .i64 sb]] w fun e w' => e = .returned (.tuple #[.agg #[.int .i64 k0', .int .u64 k1', .int .i64 k2'], .int .i64 g]) ∧ Below w.heap.size w w')) (X : Hid (∀ w, Calls Try.prog 9 #[.agg #[.int .i64 s0', .int .u64 s1', .int .i64 s2'], .agg #[.int .i64 hc, .int .u64 lc, .int .i64 sc]] w fun e w' => e = .returned (.tuple #[.agg #[.int .i64 x0', .int .u64 x1', .int .i64 x2'], .int .i64 0]) ∧ Below w.heap.size w w')) (Y : Hid (∀ w, Calls Try.prog 9 #[.agg #[.int .i64 hb, .int .u64 lb, .int .i64 sb], .agg #[.int .i64 hc, .int .u64 lc, .int .i64 sc]] w fun e w' => e = .returned (.tuple #[.agg #[.int .i64 y0', .int .u64 y1', .int .i64 y2'], .int .i64 0]) ∧ Below w.heap.size w w')) (Z : Hid (∀ w, Calls Try.prog 9 #[.agg #[.int .i64 ha, .int .u64 la, .int .i64 sa], .agg #[.int .i64 y0', .int .u64 y1', .int .i64 y2']] w fun e w' => e = .returned (.tuple #[.agg #[.int .i64 x0', .int .u64 x1', .int .i64 x2'], .int .i64 0]) ∧ Below w.heap.size w w')) :
    Calls Try.prog 8 #[.agg #[.int .i64 ha, .int .u64 la, .int .i64 sa], .agg #[.int .i64 hb, .int .u64 lb, .int .i64 sb], .agg #[.int .i64 hc, .int .u64 lc, .int .i64 sc]] w fun e w' => e = .returned (.bool true) ∧ Below w.heap.size w w' := by
  go_enter Try.func8, Try.ntmps8
  go_wp2_with fail
  refine (awake_any _).mono ?_
  rintro e w1 ⟨rfl, bb⟩
  have Aa := (((at3_new w (.int .i64 ha) (.int .u64 la) (.int .i64 sa) 24).alloc (.cells #[.int .i64 hb, .int .u64 lb, .int .i64 sb] 24)).alloc (.cells #[.int .i64 hc, .int .u64 lc, .int .i64 sc] 24)).step bb
  have Ab := ((at3_new (w.alloc (.cells #[.int .i64 ha, .int .u64 la, .int .i64 sa] 24)) (.int .i64 hb) (.int .u64 lb) (.int .i64 sb) 24).alloc (.cells #[.int .i64 hc, .int .u64 lc, .int .i64 sc] 24)).step bb
  have Ac := (at3_new ((w.alloc (.cells #[.int .i64 ha, .int .u64 la, .int .i64 sa] 24)).alloc (.cells #[.int .i64 hb, .int .u64 lb, .int .i64 sb] 24)) (.int .i64 hc) (.int .u64 lc) (.int .i64 sc) 24).step bb
  have G : Below w.heap.size w w1 := (bel_alloc (bel_alloc (bel_alloc (Below.refl _ _) _) _) _).trans (bb.mono (by simp <;> omega))
  clear bb
  rw [show (w.alloc (.cells #[.int .i64 ha, .int .u64 la, .int .i64 sa] 24)).heap.size = w.heap.size + 1 by simp] at Ab
  rw [show ((w.alloc (.cells #[.int .i64 ha, .int .u64 la, .int .i64 sa] 24)).alloc (.cells #[.int .i64 hb, .int .u64 lb, .int .i64 sb] 24)).heap.size = w.heap.size + 1 + 1 by simp] at Ac
  obtain ⟨a0, a1, a2, a3⟩ := Aa
  obtain ⟨b0, b1, b2, b3⟩ := Ab
  obtain ⟨c0, c1, c2, c3⟩ := Ac
  go_wp2_with fail
  refine (S1.out _).mono ?_
  rintro e w2 ⟨rfl, bb⟩
  have Aa := ((At3.mk a0 a1 a2 a3)).step bb
  have Ab := ((At3.mk b0 b1 b2 b3)).step bb
  have Ac := ((At3.mk c0 c1 c2 c3)).step bb
  clear a0 a1 a2 a3 b0 b1 b2 b3 c0 c1 c2 c3
  have G := G.trans (bb.mono G.size)
  clear bb
  obtain ⟨a0, a1, a2, a3⟩ := Aa
  obtain ⟨b0, b1, b2, b3⟩ := Ab
  obtain ⟨c0, c1, c2, c3⟩ := Ac
  go_wp2_with fail
  refine (S2.out _).mono ?_
  rintro e w3 ⟨rfl, bb⟩
  have Aa := ((At3.mk a0 a1 a2 a3).alloc _).step bb
  have Ab := ((At3.mk b0 b1 b2 b3).alloc _).step bb
  have Ac := ((At3.mk c0 c1 c2 c3).alloc _).step bb
  clear a0 a1 a2 a3 b0 b1 b2 b3 c0 c1 c2 c3
  have As := (at3_new w2 _ _ _ _).step bb
  have G := G.trans ((below_over bb).mono G.size)
  clear bb
  generalize w2.heap.size = ps at *
  obtain ⟨a0, a1, a2, a3⟩ := Aa
  obtain ⟨b0, b1, b2, b3⟩ := Ab
  obtain ⟨c0, c1, c2, c3⟩ := Ac
  obtain ⟨s0, s1, s2, s3⟩ := As
  go_wp2_with fail
  refine (B.out _).mono ?_
  rintro e w4 ⟨rfl, bb⟩
  have Aa := ((At3.mk a0 a1 a2 a3).alloc _).step bb
  have Ab := ((At3.mk b0 b1 b2 b3).alloc _).step bb
  have Ac := ((At3.mk c0 c1 c2 c3).alloc _).step bb
  have As := ((At3.mk s0 s1 s2 s3).alloc _).step bb
  clear a0 a1 a2 a3 b0 b1 b2 b3 c0 c1 c2 c3 s0 s1 s2 s3
  have G := G.trans ((below_over bb).mono G.size)
  clear bb
  generalize w3.heap.size = pt at *
  obtain ⟨a0, a1, a2, a3⟩ := Aa
  obtain ⟨b0, b1, b2, b3⟩ := Ab
  obtain ⟨c0, c1, c2, c3⟩ := Ac
  obtain ⟨s0, s1, s2, s3⟩ := As
  go_wp2_with fail
  refine (X.out _).mono ?_
  rintro e w5 ⟨rfl, bb⟩
  have Aa := ((At3.mk a0 a1 a2 a3).alloc _).step bb
  have Ab := ((At3.mk b0 b1 b2 b3).alloc _).step bb
  have Ac := ((At3.mk c0 c1 c2 c3).alloc _).step bb
  have As := ((At3.mk s0 s1 s2 s3).alloc _).step bb
  clear a0 a1 a2 a3 b0 b1 b2 b3 c0 c1 c2 c3 s0 s1 s2 s3
  have G := G.trans ((below_over bb).mono G.size)
  clear bb
  generalize w4.heap.size = pk at *
  obtain ⟨a0, a1, a2, a3⟩ := Aa
  obtain ⟨b0, b1, b2, b3⟩ := Ab
  obtain ⟨c0, c1, c2, c3⟩ := Ac
  obtain ⟨s0, s1, s2, s3⟩ := As
  go_wp2_with fail
  refine (Y.out _).mono ?_
  rintro e w6 ⟨rfl, bb⟩
  have Aa := ((At3.mk a0 a1 a2 a3).alloc _).step bb
  have Ab := ((At3.mk b0 b1 b2 b3).alloc _).step bb
  have Ac := ((At3.mk c0 c1 c2 c3).alloc _).step bb
  clear a0 a1 a2 a3 b0 b1 b2 b3 c0 c1 c2 c3 s0 s1 s2 s3
  have Ax := (at3_new w5 _ _ _ _).step bb
  have G := G.trans ((below_over bb).mono G.size)
  clear bb
  generalize w5.heap.size = px at *
  obtain ⟨a0, a1, a2, a3⟩ := Aa
  obtain ⟨b0, b1, b2, b3⟩ := Ab
  obtain ⟨c0, c1, c2, c3⟩ := Ac
  obtain ⟨x0, x1, x2, x3⟩ := Ax
  go_wp2_with fail
  refine (Z.out _).mono ?_
  rintro e w7 ⟨rfl, bb⟩
  have Aa := ((At3.mk a0 a1 a2 a3).alloc _).step bb
  have Ab := ((At3.mk b0 b1 b2 b3).alloc _).step bb
  have Ac := ((At3.mk c0 c1 c2 c3).alloc _).step bb
  have Ax := ((At3.mk x0 x1 x2 x3).alloc _).step bb
  clear a0 a1 a2 a3 b0 b1 b2 b3 c0 c1 c2 c3 x0 x1 x2 x3
  have Ay := (at3_new w6 _ _ _ _).step bb
  have G := G.trans ((below_over bb).mono G.size)
  clear bb
  generalize w6.heap.size = py at *
  obtain ⟨a0, a1, a2, a3⟩ := Aa
  obtain ⟨b0, b1, b2, b3⟩ := Ab
  obtain ⟨c0, c1, c2, c3⟩ := Ac
  obtain ⟨x0, x1, x2, x3⟩ := Ax
  obtain ⟨y0, y1, y2, y3⟩ := Ay
  go_wp2_with fail
  refine bodyPost_ret (v := .bool true) (by simp [results, Try.results8, go_sem]) rfl ⟨rfl, ?_⟩
  exact bel_alloc G _
set_option maxHeartbeats 4000000 in
set_option maxRecDepth 100000 in
theorem laws_e1 (ha la sa hb lb sb hc lc sc s0' s1' s2' k0' k1' k2' x0' x1' x2' y0' y1' y2' h i : Int) (w : World) (S1 : Hid (∀ w, Calls Try.prog 9 #[.agg #[.int .i64 ha, .int .u64 la, .int .i64 sa], .agg #[.int .i64 hb, .int .u64 lb, .int .i64 sb]] w fun e w' => e = .returned (.tuple #[.agg #[.int .i64 s0', .int .u64 s1', .int .i64 s2'], .int .i64 0]) ∧ Below w.heap.size w w')) (S2 : Hid (∀ w, Calls Try.prog 9 #[.agg #[.int .i64 hb, .int .u64 lb, .int .i64 sb], .agg #[.int .i64 ha, .int .u64 la, .int .i64 sa]] w fun e w' => e = .returned (.tuple #[.agg #[.int .i64 s0', .int .u64 s1', .int .i64 s2'], .int .i64 0]) ∧ Below w.heap.size w w')) (B : Hid (∀ w, Calls Try.prog 11 #[.agg #[.int .i64 s0', .int .u64 s1', .int .i64 s2'], .agg #[.int .i64 hb, .int .u64 lb, .int .i64 sb]] w fun e w' => e = .returned (.tuple #[.agg #[.int .i64 k0', .int .u64 k1', .int .i64 k2'], .int .i64 0]) ∧ Below w.heap.size w w')) (E : Hid (∀ w, Calls Try.prog 31 #[.agg #[.int .i64 k0', .int .u64 k1', .int .i64 k2'], .agg #[.int .i64 ha, .int .u64 la, .int .i64 sa]] w fun e w' => e = .returned (.bool true) ∧ Below w.heap.size w w')) (X : Hid (∀ w, Calls Try.prog 9 #[.agg #[.int .i64 s0', .int .u64 s1', .int .i64 s2'], .agg #[.int .i64 hc, .int .u64 lc, .int .i64 sc]] w fun e w' => e = .returned (.tuple #[.agg #[.int .i64 x0', .int .u64 x1', .int .i64 x2'], .int .i64 h]) ∧ Below w.heap.size w w')) (Y : Hid (∀ w, Calls Try.prog 9 #[.agg #[.int .i64 hb, .int .u64 lb, .int .i64 sb], .agg #[.int .i64 hc, .int .u64 lc, .int .i64 sc]] w fun e w' => e = .returned (.tuple #[.agg #[.int .i64 y0', .int .u64 y1', .int .i64 y2'], .int .i64 i]) ∧ Below w.heap.size w w')) (hh : h ≠ 0) :
    Calls Try.prog 8 #[.agg #[.int .i64 ha, .int .u64 la, .int .i64 sa], .agg #[.int .i64 hb, .int .u64 lb, .int .i64 sb], .agg #[.int .i64 hc, .int .u64 lc, .int .i64 sc]] w fun e w' => e = .returned (.bool true) ∧ Below w.heap.size w w' := by
  go_enter Try.func8, Try.ntmps8
  go_wp2_with fail
  refine (awake_any _).mono ?_
  rintro e w1 ⟨rfl, bb⟩
  have Aa := (((at3_new w (.int .i64 ha) (.int .u64 la) (.int .i64 sa) 24).alloc (.cells #[.int .i64 hb, .int .u64 lb, .int .i64 sb] 24)).alloc (.cells #[.int .i64 hc, .int .u64 lc, .int .i64 sc] 24)).step bb
  have Ab := ((at3_new (w.alloc (.cells #[.int .i64 ha, .int .u64 la, .int .i64 sa] 24)) (.int .i64 hb) (.int .u64 lb) (.int .i64 sb) 24).alloc (.cells #[.int .i64 hc, .int .u64 lc, .int .i64 sc] 24)).step bb
  have Ac := (at3_new ((w.alloc (.cells #[.int .i64 ha, .int .u64 la, .int .i64 sa] 24)).alloc (.cells #[.int .i64 hb, .int .u64 lb, .int .i64 sb] 24)) (.int .i64 hc) (.int .u64 lc) (.int .i64 sc) 24).step bb
  have G : Below w.heap.size w w1 := (bel_alloc (bel_alloc (bel_alloc (Below.refl _ _) _) _) _).trans (bb.mono (by simp <;> omega))
  clear bb
  rw [show (w.alloc (.cells #[.int .i64 ha, .int .u64 la, .int .i64 sa] 24)).heap.size = w.heap.size + 1 by simp] at Ab
  rw [show ((w.alloc (.cells #[.int .i64 ha, .int .u64 la, .int .i64 sa] 24)).alloc (.cells #[.int .i64 hb, .int .u64 lb, .int .i64 sb] 24)).heap.size = w.heap.size + 1 + 1 by simp] at Ac
  obtain ⟨a0, a1, a2, a3⟩ := Aa
  obtain ⟨b0, b1, b2, b3⟩ := Ab
  obtain ⟨c0, c1, c2, c3⟩ := Ac
  go_wp2_with fail
  refine (S1.out _).mono ?_
  rintro e w2 ⟨rfl, bb⟩
  have Aa := ((At3.mk a0 a1 a2 a3)).step bb
  have Ab := ((At3.mk b0 b1 b2 b3)).step bb
  have Ac := ((At3.mk c0 c1 c2 c3)).step bb
  clear a0 a1 a2 a3 b0 b1 b2 b3 c0 c1 c2 c3
  have G := G.trans (bb.mono G.size)
  clear bb
  obtain ⟨a0, a1, a2, a3⟩ := Aa
  obtain ⟨b0, b1, b2, b3⟩ := Ab
  obtain ⟨c0, c1, c2, c3⟩ := Ac
  go_wp2_with fail
  refine (S2.out _).mono ?_
  rintro e w3 ⟨rfl, bb⟩
  have Aa := ((At3.mk a0 a1 a2 a3).alloc _).step bb
  have Ab := ((At3.mk b0 b1 b2 b3).alloc _).step bb
  have Ac := ((At3.mk c0 c1 c2 c3).alloc _).step bb
  clear a0 a1 a2 a3 b0 b1 b2 b3 c0 c1 c2 c3
  have As := (at3_new w2 _ _ _ _).step bb
  have G := G.trans ((below_over bb).mono G.size)
  clear bb
  generalize w2.heap.size = ps at *
  obtain ⟨a0, a1, a2, a3⟩ := Aa
  obtain ⟨b0, b1, b2, b3⟩ := Ab
  obtain ⟨c0, c1, c2, c3⟩ := Ac
  obtain ⟨s0, s1, s2, s3⟩ := As
  go_wp2_with fail
  refine (B.out _).mono ?_
  rintro e w4 ⟨rfl, bb⟩
  have Aa := ((At3.mk a0 a1 a2 a3).alloc _).step bb
  have Ab := ((At3.mk b0 b1 b2 b3).alloc _).step bb
  have Ac := ((At3.mk c0 c1 c2 c3).alloc _).step bb
  have As := ((At3.mk s0 s1 s2 s3).alloc _).step bb
  clear a0 a1 a2 a3 b0 b1 b2 b3 c0 c1 c2 c3 s0 s1 s2 s3
  have G := G.trans ((below_over bb).mono G.size)
  clear bb
  generalize w3.heap.size = pt at *
  obtain ⟨a0, a1, a2, a3⟩ := Aa
  obtain ⟨b0, b1, b2, b3⟩ := Ab
  obtain ⟨c0, c1, c2, c3⟩ := Ac
  obtain ⟨s0, s1, s2, s3⟩ := As
  go_wp2_with fail
  refine (E.out _).mono ?_
  rintro e w5 ⟨rfl, bb⟩
  have Aa := ((At3.mk a0 a1 a2 a3).alloc _).step bb
  have Ab := ((At3.mk b0 b1 b2 b3).alloc _).step bb
  have Ac := ((At3.mk c0 c1 c2 c3).alloc _).step bb
  have As := ((At3.mk s0 s1 s2 s3).alloc _).step bb
  clear a0 a1 a2 a3 b0 b1 b2 b3 c0 c1 c2 c3 s0 s1 s2 s3
  have Ak := (at3_new w4 _ _ _ _).step bb
  have G := G.trans ((below_over bb).mono G.size)
  clear bb
  generalize w4.heap.size = pk at *
  obtain ⟨a0, a1, a2, a3⟩ := Aa
  obtain ⟨b0, b1, b2, b3⟩ := Ab
  obtain ⟨c0, c1, c2, c3⟩ := Ac
  obtain ⟨s0, s1, s2, s3⟩ := As
  obtain ⟨k0, k1, k2, k3⟩ := Ak
  go_wp2_with fail
  refine (X.out _).mono ?_
  rintro e w6 ⟨rfl, bb⟩
  have Aa := ((At3.mk a0 a1 a2 a3)).step bb
  have Ab := ((At3.mk b0 b1 b2 b3)).step bb
  have Ac := ((At3.mk c0 c1 c2 c3)).step bb
  have As := ((At3.mk s0 s1 s2 s3)).step bb
  clear a0 a1 a2 a3 b0 b1 b2 b3 c0 c1 c2 c3 s0 s1 s2 s3 k0 k1 k2 k3
  have G := G.trans (bb.mono G.size)
  clear bb
  obtain ⟨a0, a1, a2, a3⟩ := Aa
  obtain ⟨b0, b1, b2, b3⟩ := Ab
  obtain ⟨c0, c1, c2, c3⟩ := Ac
  obtain ⟨s0, s1, s2, s3⟩ := As
  go_wp2_with fail
  refine (Y.out _).mono ?_
  rintro e w7 ⟨rfl, bb⟩
  have Aa := ((At3.mk a0 a1 a2 a3).alloc _).step bb
  have Ab := ((At3.mk b0 b1 b2 b3).alloc _).step bb
  have Ac := ((At3.mk c0 c1 c2 c3).alloc _).step bb
  clear a0 a1 a2 a3 b0 b1 b2 b3 c0 c1 c2 c3 s0 s1 s2 s3
  have Ax := (at3_new w6 _ _ _ _).step bb
  have G := G.trans ((below_over bb).mono G.size)
  clear bb
  generalize w6.heap.size = px at *
  obtain ⟨a0, a1, a2, a3⟩ := Aa
  obtain ⟨b0, b1, b2, b3⟩ := Ab
  obtain ⟨c0, c1, c2, c3⟩ := Ac
  obtain ⟨x0, x1, x2, x3⟩ := Ax
  go_wp2_with fail
  refine bodyPost_ret (v := .bool true) (by simp [results, Try.results8, go_sem]) rfl ⟨rfl, ?_⟩
  exact bel_alloc G _
set_option maxHeartbeats 4000000 in
set_option maxRecDepth 100000 in
theorem laws_e2 (ha la sa hb lb sb hc lc sc s0' s1' s2' k0' k1' k2' x0' x1' x2' y0' y1' y2' i : Int) (w : World) (S1 : Hid (∀ w, Calls Try.prog 9 #[.agg #[.int .i64 ha, .int .u64 la, .int .i64 sa], .agg #[.int .i64 hb, .int .u64 lb, .int .i64 sb]] w fun e w' => e = .returned (.tuple #[.agg #[.int .i64 s0', .int .u64 s1', .int .i64 s2'], .int .i64 0]) ∧ Below w.heap.size w w')) (S2 : Hid (∀ w, Calls Try.prog 9 #[.agg #[.int .i64 hb, .int .u64 lb, .int .i64 sb], .agg #[.int .i64 ha, .int .u64 la, .int .i64 sa]] w fun e w' => e = .returned (.tuple #[.agg #[.int .i64 s0', .int .u64 s1', .int .i64 s2'], .int .i64 0]) ∧ Below w.heap.size w w')) (B : Hid (∀ w, Calls Try.prog 11 #[.agg #[.int .i64 s0', .int .u64 s1', .int .i64 s2'], .agg #[.int .i64 hb, .int .u64 lb, .int .i64 sb]] w fun e w' => e = .returned (.tuple #[.agg #[.int .i64 k0', .int .u64 k1', .int .i64 k2'], .int .i64 0]) ∧ Below w.heap.size w w')) (E : Hid (∀ w, Calls Try.prog 31 #[.agg #[.int .i64 k0', .int .u64 k1', .int .i64 k2'], .agg #[.int .i64 ha, .int .u64 la, .int .i64 sa]] w fun e w' => e = .returned (.bool true) ∧ Below w.heap.size w w')) (X : Hid (∀ w, Calls Try.prog 9 #[.agg #[.int .i64 s0', .int .u64 s1', .int .i64 s2'], .agg #[.int .i64 hc, .int .u64 lc, .int .i64 sc]] w fun e w' => e = .returned (.tuple #[.agg #[.int .i64 x0', .int .u64 x1', .int .i64 x2'], .int .i64 0]) ∧ Below w.heap.size w w')) (Y : Hid (∀ w, Calls Try.prog 9 #[.agg #[.int .i64 hb, .int .u64 lb, .int .i64 sb], .agg #[.int .i64 hc, .int .u64 lc, .int .i64 sc]] w fun e w' => e = .returned (.tuple #[.agg #[.int .i64 y0', .int .u64 y1', .int .i64 y2'], .int .i64 i]) ∧ Below w.heap.size w w')) (hi : i ≠ 0) :
    Calls Try.prog 8 #[.agg #[.int .i64 ha, .int .u64 la, .int .i64 sa], .agg #[.int .i64 hb, .int .u64 lb, .int .i64 sb], .agg #[.int .i64 hc, .int .u64 lc, .int .i64 sc]] w fun e w' => e = .returned (.bool true) ∧ Below w.heap.size w w' := by
  go_enter Try.func8, Try.ntmps8
  go_wp2_with fail
  refine (awake_any _).mono ?_
  rintro e w1 ⟨rfl, bb⟩
  have Aa := (((at3_new w (.int .i64 ha) (.int .u64 la) (.int .i64 sa) 24).alloc (.cells #[.int .i64 hb, .int .u64 lb, .int .i64 sb] 24)).alloc (.cells #[.int .i64 hc, .int .u64 lc, .int .i64 sc] 24)).step bb
  have Ab := ((at3_new (w.alloc (.cells #[.int .i64 ha, .int .u64 la, .int .i64 sa] 24)) (.int .i64 hb) (.int .u64 lb) (.int .i64 sb) 24).alloc (.cells #[.int .i64 hc, .int .u64 lc, .int .i64 sc] 24)).step bb
  have Ac := (at3_new ((w.alloc (.cells #[.int .i64 ha, .int .u64 la, .int .i64 sa] 24)).alloc (.cells #[.int .i64 hb, .int .u64 lb, .int .i64 sb] 24)) (.int .i64 hc) (.int .u64 lc) (.int .i64 sc) 24).step bb
  have G : Below w.heap.size w w1 := (bel_alloc (bel_alloc (bel_alloc (Below.refl _ _) _) _) _).trans (bb.mono (by simp <;> omega))
  clear bb
  rw [show (w.alloc (.cells #[.int .i64 ha, .int .u64 la, .int .i64 sa] 24)).heap.size = w.heap.size + 1 by simp] at Ab
  rw [show ((w.alloc (.cells #[.int .i64 ha, .int .u64 la, .int .i64 sa] 24)).alloc (.cells #[.int .i64 hb, .int .u64 lb, .int .i64 sb] 24)).heap.size = w.heap.size + 1 + 1 by simp] at Ac
  obtain ⟨a0, a1, a2, a3⟩ := Aa
  obtain ⟨b0, b1, b2, b3⟩ := Ab
  obtain ⟨c0, c1, c2, c3⟩ := Ac
  go_wp2_with fail
  refine (S1.out _).mono ?_
  rintro e w2 ⟨rfl, bb⟩
  have Aa := ((At3.mk a0 a1 a2 a3)).step bb
  have Ab := ((At3.mk b0 b1 b2 b3)).step bb
  have Ac := ((At3.mk c0 c1 c2 c3)).step bb
  clear a0 a1 a2 a3 b0 b1 b2 b3 c0 c1 c2 c3
  have G := G.trans (bb.mono G.size)
  clear bb
  obtain ⟨a0, a1, a2, a3⟩ := Aa
  obtain ⟨b0, b1, b2, b3⟩ := Ab
  obtain ⟨c0, c1, c2, c3⟩ := Ac
  go_wp2_with fail
  refine (S2.out _).mono ?_
  rintro e w3 ⟨rfl, bb⟩
  have Aa := ((At3.mk a0 a1 a2 a3).alloc _).step bb
  have Ab := ((At3.mk b0 b1 b2 b3).alloc _).step bb
  have Ac := ((At3.mk c0 c1 c2 c3).alloc _).step bb
  clear a0 a1 a2 a3 b0 b1 b2 b3 c0 c1 c2 c3
  have As := (at3_new w2 _ _ _ _).step bb
  have G := G.trans ((below_over bb).mono G.size)
  clear bb
  generalize w2.heap.size = ps at *
  obtain ⟨a0, a1, a2, a3⟩ := Aa
  obtain ⟨b0, b1, b2, b3⟩ := Ab
  obtain ⟨c0, c1, c2, c3⟩ := Ac
  obtain ⟨s0, s1, s2, s3⟩ := As
  go_wp2_with fail
  refine (B.out _).mono ?_
  rintro e w4 ⟨rfl, bb⟩
  have Aa := ((At3.mk a0 a1 a2 a3).alloc _).step bb
  have Ab := ((At3.mk b0 b1 b2 b3).alloc _).step bb
  have Ac := ((At3.mk c0 c1 c2 c3).alloc _).step bb
  have As := ((At3.mk s0 s1 s2 s3).alloc _).step bb
  clear a0 a1 a2 a3 b0 b1 b2 b3 c0 c1 c2 c3 s0 s1 s2 s3
  have G := G.trans ((below_over bb).mono G.size)
  clear bb
  generalize w3.heap.size = pt at *
  obtain ⟨a0, a1, a2, a3⟩ := Aa
  obtain ⟨b0, b1, b2, b3⟩ := Ab
  obtain ⟨c0, c1, c2, c3⟩ := Ac
  obtain ⟨s0, s1, s2, s3⟩ := As
  go_wp2_with fail
  refine (E.out _).mono ?_
  rintro e w5 ⟨rfl, bb⟩
  have Aa := ((At3.mk a0 a1 a2 a3).alloc _).step bb
  have Ab := ((At3.mk b0 b1 b2 b3).alloc _).step bb
  have Ac := ((At3.mk c0 c1 c2 c3).alloc _).step bb
  have As := ((At3.mk s0 s1 s2 s3).alloc _).step bb
  clear a0 a1 a2 a3 b0 b1 b2 b3 c0 c1 c2 c3 s0 s1 s2 s3
  have Ak := (at3_new w4 _ _ _ _).step bb
  have G := G.trans ((below_over bb).mono G.size)
  clear bb
  generalize w4.heap.size = pk at *
  obtain ⟨a0, a1, a2, a3⟩ := Aa
  obtain ⟨b0, b1, b2, b3⟩ := Ab
  obtain ⟨c0, c1, c2, c3⟩ := Ac
  obtain ⟨s0, s1, s2, s3⟩ := As
  obtain ⟨k0, k1, k2, k3⟩ := Ak
  go_wp2_with fail
  refine (X.out _).mono ?_
  rintro e w6 ⟨rfl, bb⟩
  have Aa := ((At3.mk a0 a1 a2 a3)).step bb
  have Ab := ((At3.mk b0 b1 b2 b3)).step bb
  have Ac := ((At3.mk c0 c1 c2 c3)).step bb
  have As := ((At3.mk s0 s1 s2 s3)).step bb
  clear a0 a1 a2 a3 b0 b1 b2 b3 c0 c1 c2 c3 s0 s1 s2 s3 k0 k1 k2 k3
  have G := G.trans (bb.mono G.size)
  clear bb
  obtain ⟨a0, a1, a2, a3⟩ := Aa
  obtain ⟨b0, b1, b2, b3⟩ := Ab
  obtain ⟨c0, c1, c2, c3⟩ := Ac
  obtain ⟨s0, s1, s2, s3⟩ := As
  go_wp2_with fail
  refine (Y.out _).mono ?_
  rintro e w7 ⟨rfl, bb⟩
  have Aa := ((At3.mk a0 a1 a2 a3).alloc _).step bb
  have Ab := ((At3.mk b0 b1 b2 b3).alloc _).step bb
  have Ac := ((At3.mk c0 c1 c2 c3).alloc _).step bb
  clear a0 a1 a2 a3 b0 b1 b2 b3 c0 c1 c2 c3 s0 s1 s2 s3
  have Ax := (at3_new w6 _ _ _ _).step bb
  have G := G.trans ((below_over bb).mono G.size)
  clear bb
  generalize w6.heap.size = px at *
  obtain ⟨a0, a1, a2, a3⟩ := Aa
  obtain ⟨b0, b1, b2, b3⟩ := Ab
  obtain ⟨c0, c1, c2, c3⟩ := Ac
  obtain ⟨x0, x1, x2, x3⟩ := Ax
  go_wp2_with fail
  refine bodyPost_ret (v := .bool true) (by simp [results, Try.results8, go_sem]) rfl ⟨rfl, ?_⟩
  exact bel_alloc G _
set_option maxHeartbeats 4000000 in
set_option maxRecDepth 100000 in
theorem laws_e3 (ha la sa hb lb sb hc lc sc s0' s1' s2' k0' k1' k2' x0' x1' x2' y0' y1' y2' : Int) (w : World) (S1 : Hid (∀ w, Calls Try.prog 9 #[.agg #[.int .i64 ha, .int .u64 la, .int .i64 sa], .agg #[.int .i64 hb, .int .u64 lb, .int .i64 sb]] w fun e w' => e = .returned (.tuple #[.agg #[.int .i64 s0', .int .u64 s1', .int .i64 s2'], .int .i64 0]) ∧ Below w.heap.size w w')) (S2 : Hid (∀ w, Calls Try.prog 9 #[.agg #[.int .i64 hb, .int .u64 lb, .int .i64 sb], .agg #[.int .i64 ha, .int .u64 la, .int .i64 sa]] w fun e w' => e = .returned (.tuple #[.agg #[.int .i64 s0', .int .u64 s1', .int .i64 s2'], .int .i64 0]) ∧ Below w.heap.size w w')) (B : Hid (∀ w, Calls Try.prog 11 #[.agg #[.int .i64 s0', .int .u64 s1', .int .i64 s2'], .agg #[.int .i64 hb, .int .u64 lb, .int .i64 sb]] w fun e w' => e = .returned (.tuple #[.agg #[.int .i64 k0', .int .u64 k1', .int .i64 k2'], .int .i64 0]) ∧ Below w.heap.size w w')) (E : Hid (∀ w, Calls Try.prog 31 #[.agg #[.int .i64 k0', .int .u64 k1', .int .i64 k2'], .agg #[.int .i64 ha, .int .u64 la, .int .i64 sa]] w fun e w' => e = .returned (.bool true) ∧ Below w.heap.size w w')) (X : Hid (∀ w, Calls Try.prog 9 #[.agg #[.int .i64 s0', .int .u64 s1', .int .i64 s2'], .agg #[.int .i64 hc, .int .u64 lc, .int .i64 sc]] w fun e w' => e = .returned (.tuple #[.agg #[.int .i64 x0', .int .u64 x1', .int .i64 x2'], .int .i64 0]) ∧ Below w.heap.size w w')) (Y : Hid (∀ w, Calls Try.prog 9 #[.agg #[.int .i64 hb, .int .u64 lb, .int .i64 sb], .agg #[.int .i64 hc, .int .u64 lc, .int .i64 sc]] w fun e w' => e = .returned (.tuple #[.agg #[.int .i64 y0', .int .u64 y1', .int .i64 y2'], .int .i64 0]) ∧ Below w.heap.size w w')) (Z : Hid (∀ w, Calls Try.prog 9 #[.agg #[.int .i64 ha, .int .u64 la, .int .i64 sa], .agg #[.int .i64 y0', .int .u64 y1', .int .i64 y2']] w fun e w' => e = .returned (.tuple #[.agg #[.int .i64 x0', .int .u64 x1', .int .i64 x2'], .int .i64 0]) ∧ Below w.heap.size w w')) :
    Calls Try.prog 8 #[.agg #[.int .i64 ha, .int .u64 la, .int .i64 sa], .agg #[.int .i64 hb, .int .u64 lb, .int .i64 sb], .agg #[.int .i64 hc, .int .u64 lc, .int .i64 sc]] w fun e w' => e = .returned (.bool true) ∧ Below w.heap.size w w' := by
  go_enter Try.func8, Try.ntmps8
  go_wp2_with fail
  refine (awake_any _).mono ?_
  rintro e w1 ⟨rfl, bb⟩
  have Aa := (((at3_new w (.int .i64 ha) (.int .u64 la) (.int .i64 sa) 24).alloc (.cells #[.int .i64 hb, .int .u64 lb, .int .i64 sb] 24)).alloc (.cells #[.int .i64 hc, .int .u64 lc, .int .i64 sc] 24)).step bb
  have Ab := ((at3_new (w.alloc (.cells #[.int .i64 ha, .int .u64 la, .int .i64 sa] 24)) (.int .i64 hb) (.int .u64 lb) (.int .i64 sb) 24).alloc (.cells #[.int .i64 hc, .int .u64 lc, .int .i64 sc] 24)).step bb
  have Ac := (at3_new ((w.alloc (.cells #[.int .i64 ha, .int .u64 la, .int .i64 sa] 24)).alloc (.cells #[.int .i64 hb, .int .u64 lb, .int .i64 sb] 24)) (.int .i64 hc) (.int .u64 lc) (.int .i64 sc) 24).step bb
  have G : Below w.heap.size w w1 := (bel_alloc (bel_alloc (bel_alloc (Below.refl _ _) _) _) _).trans (bb.mono (by simp <;> omega))
  clear bb
  rw [show (w.alloc (.cells #[.int .i64 ha, .int .u64 la, .int .i64 sa] 24)).heap.size = w.heap.size + 1 by simp] at Ab
  rw [show ((w.alloc (.cells #[.int .i64 ha, .int .u64 la, .int .i64 sa] 24)).alloc (.cells #[.int .i64 hb, .int .u64 lb, .int .i64 sb] 24)).heap.size = w.heap.size + 1 + 1 by simp] at Ac
  obtain ⟨a0, a1, a2, a3⟩ := Aa
  obtain ⟨b0, b1, b2, b3⟩ := Ab
  obtain ⟨c0, c1, c2, c3⟩ := Ac
  go_wp2_with fail
  refine (S1.out _).mono ?_
  rintro e w2 ⟨rfl, bb⟩
  have Aa := ((At3.mk a0 a1 a2 a3)).step bb
  have Ab := ((At3.mk b0 b1 b2 b3)).step bb
  have Ac := ((At3.mk c0 c1 c2 c3)).step bb
  clear a0 a1 a2 a3 b0 b1 b2 b3 c0 c1 c2 c3
  have G := G.trans (bb.mono G.size)
  clear bb
  obtain ⟨a0, a1, a2, a3⟩ := Aa
  obtain ⟨b0, b1, b2, b3⟩ := Ab
  obtain ⟨c0, c1, c2, c3⟩ := Ac
  go_wp2_with fail
  refine (S2.out _).mono ?_
  rintro e w3 ⟨rfl, bb⟩
  have Aa := ((At3.mk a0 a1 a2 a3).alloc _).step bb
  have Ab := ((At3.mk b0 b1 b2 b3).alloc _).step bb
  have Ac := ((At3.mk c0 c1 c2 c3).alloc _).step bb
  clear a0 a1 a2 a3 b0 b1 b2 b3 c0 c1 c2 c3
  have As := (at3_new w2 _ _ _ _).step bb
  have G := G.trans ((below_over bb).mono G.size)
  clear bb
  generalize w2.heap.size = ps at *
  obtain ⟨a0, a1, a2, a3⟩ := Aa
  obtain ⟨b0, b1, b2, b3⟩ := Ab
  obtain ⟨c0, c1, c2, c3⟩ := Ac
  obtain ⟨s0, s1, s2, s3⟩ := As
  go_wp2_with fail
  refine (B.out _).mono ?_
  rintro e w4 ⟨rfl, bb⟩
  have Aa := ((At3.mk a0 a1 a2 a3).alloc _).step bb
  have Ab := ((At3.mk b0 b1 b2 b3).alloc _).step bb
  have Ac := ((At3.mk c0 c1 c2 c3).alloc _).step bb
  have As := ((At3.mk s0 s1 s2 s3).alloc _).step bb
  clear a0 a1 a2 a3 b0 b1 b2 b3 c0 c1 c2 c3 s0 s1 s2 s3
  have G := G.trans ((below_over bb).mono G.size)
  clear bb
  generalize w3.heap.size = pt at *
  obtain ⟨a0, a1, a2, a3⟩ := Aa
  obtain ⟨b0, b1, b2, b3⟩ := Ab
  obtain ⟨c0, c1, c2, c3⟩ := Ac
  obtain ⟨s0, s1, s2, s3⟩ := As
  go_wp2_with fail
  refine (E.out _).mono ?_
  rintro e w5 ⟨rfl, bb⟩
  have Aa := ((At3.mk a0 a1 a2 a3).alloc _).step bb
  have Ab := ((At3.mk b0 b1 b2 b3).alloc _).step bb
  have Ac := ((At3.mk c0 c1 c2 c3).alloc _).step bb
  have As := ((At3.mk s0 s1 s2 s3).alloc _).step bb
  clear a0 a1 a2 a3 b0 b1 b2 b3 c0 c1 c2 c3 s0 s1 s2 s3
  have Ak := (at3_new w4 _ _ _ _).step bb
  have G := G.trans ((below_over bb).mono G.size)
  clear bb
  generalize w4.heap.size = pk at *
  obtain ⟨a0, a1, a2, a3⟩ := Aa
  obtain ⟨b0, b1, b2, b3⟩ := Ab
  obtain ⟨c0, c1, c2, c3⟩ := Ac
  obtain ⟨s0, s1, s2, s3⟩ := As
  obtain ⟨k0, k1, k2, k3⟩ := Ak
  go_wp2_with fail
  refine (X.out _).mono ?_
  rintro e w6 ⟨rfl, bb⟩
  have Aa := ((At3.mk a0 a1 a2 a3)).step bb
  have Ab := ((At3.mk b0 b1 b2 b3)).step bb
  have Ac := ((At3.mk c0 c1 c2 c3)).step bb
  have As := ((At3.mk s0 s1 s2 s3)).step bb
  clear a0 a1 a2 a3 b0 b1 b2 b3 c0 c1 c2 c3 s0 s1 s2 s3 k0 k1 k2 k3
  have G := G.trans (bb.mono G.size)
  clear bb
  obtain ⟨a0, a1, a2, a3⟩ := Aa
  obtain ⟨b0, b1, b2, b3⟩ := Ab
  obtain ⟨c0, c1, c2, c3⟩ := Ac
  obtain ⟨s0, s1, s2, s3⟩ := As
  go_wp2_with fail
  refine (Y.out _).mono ?_
  rintro e w7 ⟨rfl, bb⟩
  have Aa := ((At3.mk a0 a1 a2 a3).alloc _).step bb
  have Ab := ((At3.mk b0 b1 b2 b3).alloc _).step bb
  have Ac := ((At3.mk c0 c1 c2 c3).alloc _).step bb
  clear a0 a1 a2 a3 b0 b1 b2 b3 c0 c1 c2 c3 s0 s1 s2 s3
  have Ax := (at3_new w6 _ _ _ _).step bb
  have G := G.trans ((below_over bb).mono G.size)
  clear bb
  generalize w6.heap.size = px at *
  obtain ⟨a0, a1, a2, a3⟩ := Aa
  obtain ⟨b0, b1, b2, b3⟩ := Ab
  obtain ⟨c0, c1, c2, c3⟩ := Ac
  obtain ⟨x0, x1, x2, x3⟩ := Ax
  go_wp2_with fail
  refine (Z.out _).mono ?_
  rintro e w8 ⟨rfl, bb⟩
  have Aa := ((At3.mk a0 a1 a2 a3).alloc _).step bb
  have Ab := ((At3.mk b0 b1 b2 b3).alloc _).step bb
  have Ac := ((At3.mk c0 c1 c2 c3).alloc _).step bb
  have Ax := ((At3.mk x0 x1 x2 x3).alloc _).step bb
  clear a0 a1 a2 a3 b0 b1 b2 b3 c0 c1 c2 c3 x0 x1 x2 x3
  have Ay := (at3_new w7 _ _ _ _).step bb
  have G := G.trans ((below_over bb).mono G.size)
  clear bb
  generalize w7.heap.size = py at *
  obtain ⟨a0, a1, a2, a3⟩ := Aa
  obtain ⟨b0, b1, b2, b3⟩ := Ab
  obtain ⟨c0, c1, c2, c3⟩ := Ac
  obtain ⟨x0, x1, x2, x3⟩ := Ax
  obtain ⟨y0, y1, y2, y3⟩ := Ay
  go_wp2_with fail
  refine bodyPost_ret (v := .bool true) (by simp [results, Try.results8, go_sem]) rfl ⟨rfl, ?_⟩
  exact bel_alloc G _

/-- what was added is taken away -/
theorem tv_back (ca : Int) (sa : Nat) (cb : Int) (sb : Nat) : tv (tv ca sa cb sb) (max sa sb) (-cb) sb = ca * (10 : Int) ^ (max sa sb - sa) ∧ max (max sa sb) sb = max sa sb := by
  have e : max (max sa sb) sb = max sa sb := by omega
  refine ⟨?_, e⟩
  show tv ca sa cb sb * (10 : Int) ^ (max (max sa sb) sb - max sa sb) + -cb * (10 : Int) ^ (max (max sa sb) sb - sb) = _
  rw [e, Nat.sub_self, Int.pow_zero, Int.mul_one]
  unfold tv
  rw [Int.neg_mul]; omega
theorem tv_assoc (ca : Int) (sa : Nat) (cb : Int) (sb : Nat) (cc : Int) (sc : Nat) : tv ca sa (tv cb sb cc sc) (max sb sc) = tv (tv ca sa cb sb) (max sa sb) cc sc ∧ max sa (max sb sc) = max (max sa sb) sc := by
  have e : max sa (max sb sc) = max (max sa sb) sc := by omega
  refine ⟨?_, e⟩
  show ca * (10 : Int) ^ (max sa (max sb sc) - sa) + tv cb sb cc sc * (10 : Int) ^ (max sa (max sb sc) - max sb sc) = tv ca sa cb sb * (10 : Int) ^ (max (max sa sb) sc - max sa sb) + cc * (10 : Int) ^ (max (max sa sb) sc - sc)
  rw [e, tv_up cb sb cc sc _ (by omega), tv_up ca sa cb sb _ (by omega)]
  omega
theorem equal_same (c : Int) (s t : Nat) (w : World) (h : s ≤ t) (ic : InR c) (ht : (t : Int) ≤ 18) (hr : InR (c * (10 : Int) ^ (t - s))) :
    Calls Try.prog 31 #[.agg #[.int .i64 (dhi (c * (10 : Int) ^ (t - s))), .int .u64 (dlo (c * (10 : Int) ^ (t - s))), .int .i64 t], .agg #[.int .i64 (dhi c), .int .u64 (dlo c), .int .i64 s]] w
      fun e w' => e = .returned (.bool true) ∧ Below w.heap.size w w' := by
  refine equal_yes _ _ _ _ _ _ w (fun w => ?_)
  have h := cmp_yes (c * (10 : Int) ^ (t - s)) c t s w hr ic ht (by omega)
  have e : tv (c * (10 : Int) ^ (t - s)) t (-c) s = 0 := by
    unfold tv
    rw [show max t s = t by omega, show t - t = 0 by omega, Int.pow_zero, Int.mul_one, Int.neg_mul]; omega
  rw [e, show sgn 0 = 0 from rfl] at h
  exact h
theorem laws_walk (ha la sa hb lb sb hc lc sc : Int) (wha : (Lit.int .i64 ha).wf = true) (wla : (Lit.int .u64 la).wf = true) (whb : (Lit.int .i64 hb).wf = true) (wlb : (Lit.int .u64 lb).wf = true) (whc : (Lit.int .i64 hc).wf = true) (wlc : (Lit.int .u64 lc).wf = true) (w : World) :
    Calls Try.prog 8 #[.agg #[.int .i64 ha, .int .u64 la, .int .i64 sa], .agg #[.int .i64 hb, .int .u64 lb, .int .i64 sb], .agg #[.int .i64 hc, .int .u64 lc, .int .i64 sc]] w fun e w' => e = .returned (.bool true) ∧ Below w.heap.size w w' := by
  rcases form_cases ha la sa wha wla with ba | ⟨ca, na, rfl, rfl, rfl, ia, hna⟩
  · refine laws_bad _ _ _ _ _ _ _ _ _ 3 w (by omega) (fun w => add_bad _ _ _ _ _ _ w (fun w => both_bad1 _ _ _ _ _ _ w ba)) (fun w => add_bad _ _ _ _ _ _ w (fun w => ?_))
    rcases form_cases hb lb sb whb wlb with bb | ⟨cb, nb, rfl, rfl, rfl, ib, hnb⟩
    · exact both_bad1 _ _ _ _ _ _ w bb
    · exact both_bad2 cb _ _ _ _ _ nb w (IsD.self _) ib hnb ba
  rcases form_cases hb lb sb whb wlb with bb | ⟨cb, nb, rfl, rfl, rfl, ib, hnb⟩
  · exact laws_bad _ _ _ _ _ _ _ _ _ 3 w (by omega) (fun w => add_bad _ _ _ _ _ _ w (fun w => both_bad2 ca _ _ _ _ _ na w (IsD.self _) ia hna bb)) (fun w => add_bad _ _ _ _ _ _ w (fun w => both_bad1 _ _ _ _ _ _ w bb))
  by_cases hs' : ¬ InR (tv ca na cb nb)
  · exact laws_bad _ _ _ _ _ _ _ _ _ 4 w (by omega) (fun w => add_not ca cb na nb w ia ib hna hnb hs') (fun w => add_not cb ca nb na w ib ia hnb hna (by rw [tv_comm]; exact hs'))
  have hs := Classical.not_not.1 hs'
  have S1 := fun w => add_yes ca cb na nb w ia ib hna hnb hs
  have S2 := fun w => add_yes cb ca nb na w ib ia hnb hna (by rw [tv_comm]; exact hs)
  rw [tv_comm cb nb, Nat.max_comm nb na] at S2
  have hM : ((max na nb : Nat) : Int) ≤ 18 := by omega
  obtain ⟨e1, e2⟩ := tv_back ca na cb nb
  -- the sums with the third
  have K : ∃ k0 k1 k2 g : Int, (∀ w, Calls Try.prog 11 #[.agg #[.int .i64 (dhi (tv ca na cb nb)), .int .u64 (dlo (tv ca na cb nb)), .int .i64 ((max na nb : Nat) : Int)], .agg #[.int .i64 (dhi cb), .int .u64 (dlo cb), .int .i64 nb]] w
        fun e w' => e = .returned (.tuple #[.agg #[.int .i64 k0, .int .u64 k1, .int .i64 k2], .int .i64 g]) ∧ Below w.heap.size w w')
      ∧ (g ≠ 0 ∨ (g = 0 ∧ ∀ w, Calls Try.prog 31 #[.agg #[.int .i64 k0, .int .u64 k1, .int .i64 k2], .agg #[.int .i64 (dhi ca), .int .u64 (dlo ca), .int .i64 na]] w fun e w' => e = .returned (.bool true) ∧ Below w.heap.size w w')) := by
    by_cases hk : InR (ca * (10 : Int) ^ (max na nb - na))
    · have B := fun w => sub_yes (tv ca na cb nb) cb (max na nb) nb w hs ib hM hnb (by rw [e1]; exact hk)
      rw [e1, e2] at B
      exact ⟨_, _, _, 0, B, Or.inr ⟨rfl, fun w => equal_same ca na (max na nb) w (by omega) ia hM hk⟩⟩
    · exact ⟨_, _, _, 4, fun w => sub_not (tv ca na cb nb) cb (max na nb) nb w hs ib hM hnb (by rw [e1]; exact hk), Or.inl (by omega)⟩
  obtain ⟨k0, k1, k2, g, B, hg⟩ := K
  rcases form_cases hc lc sc whc wlc with bc | ⟨cc, nc, rfl, rfl, rfl, ic, hnc⟩
  · have X := fun w => add_bad (dhi (tv ca na cb nb)) (dlo (tv ca na cb nb)) ((max na nb : Nat) : Int) hc lc sc w (fun w => both_bad2 _ _ _ _ _ _ (max na nb) w (IsD.self _) hs hM bc)
    obtain ⟨y0, y1, y2, i, Y⟩ := add_some cb nb hc lc sc ib hnb whc wlc
    rcases hg with hg | ⟨rfl, E⟩
    · exact laws_n1 _ _ _ _ _ _ _ _ _ _ _ _ _ _ _ _ _ _ _ _ _ _ _ _ w hg S1 S2 B X Y (by omega)
    · exact laws_e1 _ _ _ _ _ _ _ _ _ _ _ _ _ _ _ _ _ _ _ _ _ _ _ w S1 S2 B E X Y (by omega)
  by_cases hx' : ¬ InR (tv (tv ca na cb nb) (max na nb) cc nc)
  · have X := fun w => add_not (tv ca na cb nb) cc (max na nb) nc w hs ic hM hnc hx'
    obtain ⟨y0, y1, y2, i, Y⟩ := add_some cb nb (dhi cc) (dlo cc) nc ib hnb whc wlc
    rcases hg with hg | ⟨rfl, E⟩
    · exact laws_n1 _ _ _ _ _ _ _ _ _ _ _ _ _ _ _ _ _ _ _ _ _ _ _ _ w hg S1 S2 B X Y (by omega)
    · exact laws_e1 _ _ _ _ _ _ _ _ _ _ _ _ _ _ _ _ _ _ _ _ _ _ _ w S1 S2 B E X Y (by omega)
  have hx := Classical.not_not.1 hx'
  have X := fun w => add_yes (tv ca na cb nb) cc (max na nb) nc w hs ic hM hnc hx
  by_cases hy' : ¬ InR (tv cb nb cc nc)
  · have Y := fun w => add_not cb cc nb nc w ib ic hnb hnc hy'
    rcases hg with hg | ⟨rfl, E⟩
    · exact laws_n2 _ _ _ _ _ _ _ _ _ _ _ _ _ _ _ _ _ _ _ _ _ _ _ w hg S1 S2 B X Y (by omega)
    · exact laws_e2 _ _ _ _ _ _ _ _ _ _ _ _ _ _ _ _ _ _ _ _ _ _ w S1 S2 B E X Y (by omega)
  have hy := Classical.not_not.1 hy'
  have Y := fun w => add_yes cb cc nb nc w ib ic hnb hnc hy
  obtain ⟨f1, f2⟩ := tv_assoc ca na cb nb cc nc
  have Z := fun w => add_yes ca (tv cb nb cc nc) na (max nb nc) w ia hy hna (by omega) (by rw [f1]; exact hx)
  rw [f1, f2] at Z
  rcases hg with hg | ⟨rfl, E⟩
  · exact laws_n3 _ _ _ _ _ _ _ _ _ _ _ _ _ _ _ _ _ _ _ _ _ _ w hg S1 S2 B X Y Z
  · exact laws_e3 _ _ _ _ _ _ _ _ _ _ _ _ _ _ _ _ _ _ _ _ _ w S1 S2 B E X Y Z
end Go.Proofs.Ytnbfbebfideigaa
