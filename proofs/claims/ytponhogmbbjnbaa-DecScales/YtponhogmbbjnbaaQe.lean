/- The law DecOrder: its arithmetic and its walk. -/
import Derived.Test.YtponhogmbbjnbaaPh
namespace Go.Proofs.Ytponhogmbbjnbaa
open Go.RowKit
set_option linter.unusedVariables false
attribute [local go_sem] ext_cell ext_frozen ext_drew ext_of_drew ext_of_drewN ext_setCell ext_lt ext_lt1 ext_lt2 ext_lt3 lt_n2 lt_n3 lt_n4 lt_n5 lt_n6

set_option maxHeartbeats 4000000 in
set_option maxRecDepth 100000 in
theorem order_bad (ha la sa hb lb sb hc lc sc : Int) (w : World) (C1 : Hid (∀ w, Calls Try.prog 11 #[.agg #[.int .i64 ha, .int .u64 la, .int .i64 sa], .agg #[.int .i64 hb, .int .u64 lb, .int .i64 sb]] w fun e w' => e = .returned (.tuple #[.int .i64 0, .int .i64 3]) ∧ Below w.heap.size w w')) (C2 : Hid (∀ w, Calls Try.prog 11 #[.agg #[.int .i64 hb, .int .u64 lb, .int .i64 sb], .agg #[.int .i64 ha, .int .u64 la, .int .i64 sa]] w fun e w' => e = .returned (.tuple #[.int .i64 0, .int .i64 3]) ∧ Below w.heap.size w w')) :
    Calls Try.prog 5 #[.agg #[.int .i64 ha, .int .u64 la, .int .i64 sa], .agg #[.int .i64 hb, .int .u64 lb, .int .i64 sb], .agg #[.int .i64 hc, .int .u64 lc, .int .i64 sc]] w fun e w' => e = .returned (.bool true) ∧ Below w.heap.size w w' := by
  go_enter Try.func5, Try.ntmps5
  go_wp2_with fail
  refine (awake_any _).mono ?_
  rintro e w1 ⟨rfl, bb⟩
  have Aa := (((at3_new w (.int .i64 ha) (.int .u64 la) (.int .i64 sa) 24).alloc (.cells #[.int .i64 hb, .int .u64 lb, .int .i64 sb] 24)).alloc (.cells #[.int .i64 hc, .int .u64 lc, .int .i64 sc] 24)).step bb
  have Ab := ((at3_new (w.alloc (.cells #[.int .i64 ha, .int .u64 la, .int .i64 sa] 24)) (.int .i64 hb) (.int .u64 lb) (.int .i64 sb) 24).alloc (.cells #[.int .i64 hc, .int .u64 lc, .int .i64 sc] 24)).step bb
  have Ac := (at3_new ((w.alloc (.cells #[.int .i64 ha, .int .u64 la, .int .i64 sa] 24)).alloc (.cells #[.int .i64 hb, .int .u64 lb, .int .i64 sb] 24)) (.int .i64 hc) (.int .u64 lc) (.int .i64 sc) 24).step bb
  have G : Below w.heap.size w w1 := (bel_alloc (bel_alloc (bel_alloc (Below.refl _ _) _) _) _).trans (bb.mono (by simp <;> omega))
  clear bb
  rw [show (w.alloc (.cells #[.int .i64 ha, .int .u64 la, .int .i64 sa] 24)).heap.size = w.heap.size + 1 by simp] at Ab
  rw [show ((w.alloc (.cells #[.int .i64 ha, .int .u64 la, .int .i64 sa] 24)).alloc (.cells #[.int .i64 hb, .int .u64 lb, .int .i64 sb] 24)).heap.size = w.heap.size + 1 + 1 by simp] at Ac
  obtain ⟨a0, a1, a2, a3⟩ := Aa
  obtain ⟨b0, b1, b2, b3⟩ := Ab
  obtain ⟨c0, c1, c2, c3⟩ := Ac
  go_wp2_with fail
  refine (C1.out _).mono ?_
  rintro e w2 ⟨rfl, bb⟩
  have Aa := ((At3.mk a0 a1 a2 a3)).step bb
  have Ab := ((At3.mk b0 b1 b2 b3)).step bb
  have Ac := ((At3.mk c0 c1 c2 c3)).step bb
  clear a0 a1 a2 a3 b0 b1 b2 b3 c0 c1 c2 c3
  have G := G.trans (bb.mono G.size)
  clear bb
  obtain ⟨a0, a1, a2, a3⟩ := Aa
  obtain ⟨b0, b1, b2, b3⟩ := Ab
  obtain ⟨c0, c1, c2, c3⟩ := Ac
  go_wp2_with fail
  refine (C2.out _).mono ?_
  rintro e w3 ⟨rfl, bb⟩
  have Aa := ((At3.mk a0 a1 a2 a3)).step bb
  have Ab := ((At3.mk b0 b1 b2 b3)).step bb
  have Ac := ((At3.mk c0 c1 c2 c3)).step bb
  clear a0 a1 a2 a3 b0 b1 b2 b3 c0 c1 c2 c3
  have G := G.trans (bb.mono G.size)
  clear bb
  obtain ⟨a0, a1, a2, a3⟩ := Aa
  obtain ⟨b0, b1, b2, b3⟩ := Ab
  obtain ⟨c0, c1, c2, c3⟩ := Ac
  go_wp2_with fail
  refine bodyPost_ret (v := .bool true) (by simp [results, Try.results5, go_sem]) rfl ⟨rfl, ?_⟩
  exact G
set_option maxHeartbeats 4000000 in
set_option maxRecDepth 100000 in
theorem order_far (ha la sa hb lb sb hc lc sc m0' m1' m2' n0' n1' n2' x0' x1' x2' y0' y1' y2' K ex ey : Int) (w : World) (kb : -1 ≤ K ∧ K ≤ 1) (C1 : Hid (∀ w, Calls Try.prog 11 #[.agg #[.int .i64 ha, .int .u64 la, .int .i64 sa], .agg #[.int .i64 hb, .int .u64 lb, .int .i64 sb]] w fun e w' => e = .returned (.tuple #[.int .i64 K, .int .i64 0]) ∧ Below w.heap.size w w')) (C2 : Hid (∀ w, Calls Try.prog 11 #[.agg #[.int .i64 hb, .int .u64 lb, .int .i64 sb], .agg #[.int .i64 ha, .int .u64 la, .int .i64 sa]] w fun e w' => e = .returned (.tuple #[.int .i64 (-K), .int .i64 0]) ∧ Below w.heap.size w w')) (N1 : Hid (∀ w, Calls Try.prog 16 #[.agg #[.int .i64 ha, .int .u64 la, .int .i64 sa]] w fun e w' => e = .returned (.tuple #[.agg #[.int .i64 m0', .int .u64 m1', .int .i64 m2'], .int .i64 0]) ∧ Below w.heap.size w w')) (N2 : Hid (∀ w, Calls Try.prog 16 #[.agg #[.int .i64 hb, .int .u64 lb, .int .i64 sb]] w fun e w' => e = .returned (.tuple #[.agg #[.int .i64 n0', .int .u64 n1', .int .i64 n2'], .int .i64 0]) ∧ Below w.heap.size w w')) (C3 : Hid (∀ w, Calls Try.prog 11 #[.agg #[.int .i64 m0', .int .u64 m1', .int .i64 m2'], .agg #[.int .i64 n0', .int .u64 n1', .int .i64 n2']] w fun e w' => e = .returned (.tuple #[.int .i64 (-K), .int .i64 0]) ∧ Below w.heap.size w w')) (E : Hid (∀ w, Calls Try.prog 17 #[.agg #[.int .i64 ha, .int .u64 la, .int .i64 sa], .agg #[.int .i64 ha, .int .u64 la, .int .i64 sa]] w fun e w' => e = .returned (.bool true) ∧ Below w.heap.size w w')) (S1 : Hid (∀ w, Calls Try.prog 18 #[.agg #[.int .i64 ha, .int .u64 la, .int .i64 sa], .agg #[.int .i64 hc, .int .u64 lc, .int .i64 sc]] w fun e w' => e = .returned (.tuple #[.agg #[.int .i64 x0', .int .u64 x1', .int .i64 x2'], .int .i64 ex]) ∧ Below w.heap.size w w')) (S2 : Hid (∀ w, Calls Try.prog 18 #[.agg #[.int .i64 hb, .int .u64 lb, .int .i64 sb], .agg #[.int .i64 hc, .int .u64 lc, .int .i64 sc]] w fun e w' => e = .returned (.tuple #[.agg #[.int .i64 y0', .int .u64 y1', .int .i64 y2'], .int .i64 ey]) ∧ Below w.heap.size w w')) (hx : ex ≠ 0) :
    Calls Try.prog 5 #[.agg #[.int .i64 ha, .int .u64 la, .int .i64 sa], .agg #[.int .i64 hb, .int .u64 lb, .int .i64 sb], .agg #[.int .i64 hc, .int .u64 lc, .int .i64 sc]] w fun e w' => e = .returned (.bool true) ∧ Below w.heap.size w w' := by
  go_enter Try.func5, Try.ntmps5
  go_wp2_with fail
  refine (awake_any _).mono ?_
  rintro e w1 ⟨rfl, bb⟩
  have Aa := (((at3_new w (.int .i64 ha) (.int .u64 la) (.int .i64 sa) 24).alloc (.cells #[.int .i64 hb, .int .u64 lb, .int .i64 sb] 24)).alloc (.cells #[.int .i64 hc, .int .u64 lc, .int .i64 sc] 24)).step bb
  have Ab := ((at3_new (w.alloc (.cells #[.int .i64 ha, .int .u64 la, .int .i64 sa] 24)) (.int .i64 hb) (.int .u64 lb) (.int .i64 sb) 24).alloc (.cells #[.int .i64 hc, .int .u64 lc, .int .i64 sc] 24)).step bb
  have Ac := (at3_new ((w.alloc (.cells #[.int .i64 ha, .int .u64 la, .int .i64 sa] 24)).alloc (.cells #[.int .i64 hb, .int .u64 lb, .int .i64 sb] 24)) (.int .i64 hc) (.int .u64 lc) (.int .i64 sc) 24).step bb
  have G : Below w.heap.size w w1 := (bel_alloc (bel_alloc (bel_alloc (Below.refl _ _) _) _) _).trans (bb.mono (by simp <;> omega))
  clear bb
  rw [show (w.alloc (.cells #[.int .i64 ha, .int .u64 la, .int .i64 sa] 24)).heap.size = w.heap.size + 1 by simp] at Ab
  rw [show ((w.alloc (.cells #[.int .i64 ha, .int .u64 la, .int .i64 sa] 24)).alloc (.cells #[.int .i64 hb, .int .u64 lb, .int .i64 sb] 24)).heap.size = w.heap.size + 1 + 1 by simp] at Ac
  obtain ⟨a0, a1, a2, a3⟩ := Aa
  obtain ⟨b0, b1, b2, b3⟩ := Ab
  obtain ⟨c0, c1, c2, c3⟩ := Ac
  go_wp2_with fail
  refine (C1.out _).mono ?_
  rintro e w2 ⟨rfl, bb⟩
  have Aa := ((At3.mk a0 a1 a2 a3)).step bb
  have Ab := ((At3.mk b0 b1 b2 b3)).step bb
  have Ac := ((At3.mk c0 c1 c2 c3)).step bb
  clear a0 a1 a2 a3 b0 b1 b2 b3 c0 c1 c2 c3
  have G := G.trans (bb.mono G.size)
  clear bb
  obtain ⟨a0, a1, a2, a3⟩ := Aa
  obtain ⟨b0, b1, b2, b3⟩ := Ab
  obtain ⟨c0, c1, c2, c3⟩ := Ac
  go_wp2_with fail
  refine (C2.out _).mono ?_
  rintro e w3 ⟨rfl, bb⟩
  have Aa := ((At3.mk a0 a1 a2 a3)).step bb
  have Ab := ((At3.mk b0 b1 b2 b3)).step bb
  have Ac := ((At3.mk c0 c1 c2 c3)).step bb
  clear a0 a1 a2 a3 b0 b1 b2 b3 c0 c1 c2 c3
  have G := G.trans (bb.mono G.size)
  clear bb
  obtain ⟨a0, a1, a2, a3⟩ := Aa
  obtain ⟨b0, b1, b2, b3⟩ := Ab
  obtain ⟨c0, c1, c2, c3⟩ := Ac
  go_wp2_with fail
  refine (N1.out _).mono ?_
  rintro e w4 ⟨rfl, bb⟩
  have Aa := ((At3.mk a0 a1 a2 a3)).step bb
  have Ab := ((At3.mk b0 b1 b2 b3)).step bb
  have Ac := ((At3.mk c0 c1 c2 c3)).step bb
  clear a0 a1 a2 a3 b0 b1 b2 b3 c0 c1 c2 c3
  have G := G.trans (bb.mono G.size)
  clear bb
  obtain ⟨a0, a1, a2, a3⟩ := Aa
  obtain ⟨b0, b1, b2, b3⟩ := Ab
  obtain ⟨c0, c1, c2, c3⟩ := Ac
  go_wp2_with fail
  refine (N2.out _).mono ?_
  rintro e w5 ⟨rfl, bb⟩
  have Aa := ((At3.mk a0 a1 a2 a3).alloc _).step bb
  have Ab := ((At3.mk b0 b1 b2 b3).alloc _).step bb
  have Ac := ((At3.mk c0 c1 c2 c3).alloc _).step bb
  clear a0 a1 a2 a3 b0 b1 b2 b3 c0 c1 c2 c3
  have Am := (at3_new w4 _ _ _ _).step bb
  have G := G.trans ((below_over bb).mono G.size)
  clear bb
  generalize w4.heap.size = pm at *
  obtain ⟨a0, a1, a2, a3⟩ := Aa
  obtain ⟨b0, b1, b2, b3⟩ := Ab
  obtain ⟨c0, c1, c2, c3⟩ := Ac
  obtain ⟨m0, m1, m2, m3⟩ := Am
  go_wp2_with fail
  refine (C3.out _).mono ?_
  rintro e w6 ⟨rfl, bb⟩
  have Aa := ((At3.mk a0 a1 a2 a3).alloc _).step bb
  have Ab := ((At3.mk b0 b1 b2 b3).alloc _).step bb
  have Ac := ((At3.mk c0 c1 c2 c3).alloc _).step bb
  have Am := ((At3.mk m0 m1 m2 m3).alloc _).step bb
  clear a0 a1 a2 a3 b0 b1 b2 b3 c0 c1 c2 c3 m0 m1 m2 m3
  have An := (at3_new w5 _ _ _ _).step bb
  have G := G.trans ((below_over bb).mono G.size)
  clear bb
  generalize w5.heap.size = pn at *
  obtain ⟨a0, a1, a2, a3⟩ := Aa
  obtain ⟨b0, b1, b2, b3⟩ := Ab
  obtain ⟨c0, c1, c2, c3⟩ := Ac
  obtain ⟨m0, m1, m2, m3⟩ := Am
  obtain ⟨n0, n1, n2, n3⟩ := An
  go_wp2_with fail
  refine (E.out _).mono ?_
  rintro e w7 ⟨rfl, bb⟩
  have Aa := ((At3.mk a0 a1 a2 a3)).step bb
  have Ab := ((At3.mk b0 b1 b2 b3)).step bb
  have Ac := ((At3.mk c0 c1 c2 c3)).step bb
  have Am := ((At3.mk m0 m1 m2 m3)).step bb
  have An := ((At3.mk n0 n1 n2 n3)).step bb
  clear a0 a1 a2 a3 b0 b1 b2 b3 c0 c1 c2 c3 m0 m1 m2 m3 n0 n1 n2 n3
  have G := G.trans (bb.mono G.size)
  clear bb
  obtain ⟨a0, a1, a2, a3⟩ := Aa
  obtain ⟨b0, b1, b2, b3⟩ := Ab
  obtain ⟨c0, c1, c2, c3⟩ := Ac
  obtain ⟨m0, m1, m2, m3⟩ := Am
  obtain ⟨n0, n1, n2, n3⟩ := An
  go_wp2_with fail
  refine (S1.out _).mono ?_
  rintro e w8 ⟨rfl, bb⟩
  have Aa := ((At3.mk a0 a1 a2 a3)).step bb
  have Ab := ((At3.mk b0 b1 b2 b3)).step bb
  have Ac := ((At3.mk c0 c1 c2 c3)).step bb
  clear a0 a1 a2 a3 b0 b1 b2 b3 c0 c1 c2 c3 m0 m1 m2 m3 n0 n1 n2 n3
  have G := G.trans (bb.mono G.size)
  clear bb
  obtain ⟨a0, a1, a2, a3⟩ := Aa
  obtain ⟨b0, b1, b2, b3⟩ := Ab
  obtain ⟨c0, c1, c2, c3⟩ := Ac
  go_wp2_with fail
  refine (S2.out _).mono ?_
  rintro e w9 ⟨rfl, bb⟩
  have Aa := ((At3.mk a0 a1 a2 a3).alloc _).step bb
  have Ab := ((At3.mk b0 b1 b2 b3).alloc _).step bb
  have Ac := ((At3.mk c0 c1 c2 c3).alloc _).step bb
  clear a0 a1 a2 a3 b0 b1 b2 b3 c0 c1 c2 c3
  have Ax := (at3_new w8 _ _ _ _).step bb
  have G := G.trans ((below_over bb).mono G.size)
  clear bb
  generalize w8.heap.size = px at *
  obtain ⟨a0, a1, a2, a3⟩ := Aa
  obtain ⟨b0, b1, b2, b3⟩ := Ab
  obtain ⟨c0, c1, c2, c3⟩ := Ac
  obtain ⟨x0, x1, x2, x3⟩ := Ax
  go_wp2_with fail
  refine bodyPost_ret (v := .bool true) (by simp [results, Try.results5, go_sem]) rfl ⟨rfl, ?_⟩
  exact bel_alloc G _
set_option maxHeartbeats 4000000 in
set_option maxRecDepth 100000 in
theorem order_far2 (ha la sa hb lb sb hc lc sc m0' m1' m2' n0' n1' n2' x0' x1' x2' y0' y1' y2' K ey : Int) (w : World) (kb : -1 ≤ K ∧ K ≤ 1) (C1 : Hid (∀ w, Calls Try.prog 11 #[.agg #[.int .i64 ha, .int .u64 la, .int .i64 sa], .agg #[.int .i64 hb, .int .u64 lb, .int .i64 sb]] w fun e w' => e = .returned (.tuple #[.int .i64 K, .int .i64 0]) ∧ Below w.heap.size w w')) (C2 : Hid (∀ w, Calls Try.prog 11 #[.agg #[.int .i64 hb, .int .u64 lb, .int .i64 sb], .agg #[.int .i64 ha, .int .u64 la, .int .i64 sa]] w fun e w' => e = .returned (.tuple #[.int .i64 (-K), .int .i64 0]) ∧ Below w.heap.size w w')) (N1 : Hid (∀ w, Calls Try.prog 16 #[.agg #[.int .i64 ha, .int .u64 la, .int .i64 sa]] w fun e w' => e = .returned (.tuple #[.agg #[.int .i64 m0', .int .u64 m1', .int .i64 m2'], .int .i64 0]) ∧ Below w.heap.size w w')) (N2 : Hid (∀ w, Calls Try.prog 16 #[.agg #[.int .i64 hb, .int .u64 lb, .int .i64 sb]] w fun e w' => e = .returned (.tuple #[.agg #[.int .i64 n0', .int .u64 n1', .int .i64 n2'], .int .i64 0]) ∧ Below w.heap.size w w')) (C3 : Hid (∀ w, Calls Try.prog 11 #[.agg #[.int .i64 m0', .int .u64 m1', .int .i64 m2'], .agg #[.int .i64 n0', .int .u64 n1', .int .i64 n2']] w fun e w' => e = .returned (.tuple #[.int .i64 (-K), .int .i64 0]) ∧ Below w.heap.size w w')) (E : Hid (∀ w, Calls Try.prog 17 #[.agg #[.int .i64 ha, .int .u64 la, .int .i64 sa], .agg #[.int .i64 ha, .int .u64 la, .int .i64 sa]] w fun e w' => e = .returned (.bool true) ∧ Below w.heap.size w w')) (S1 : Hid (∀ w, Calls Try.prog 18 #[.agg #[.int .i64 ha, .int .u64 la, .int .i64 sa], .agg #[.int .i64 hc, .int .u64 lc, .int .i64 sc]] w fun e w' => e = .returned (.tuple #[.agg #[.int .i64 x0', .int .u64 x1', .int .i64 x2'], .int .i64 0]) ∧ Below w.heap.size w w')) (S2 : Hid (∀ w, Calls Try.prog 18 #[.agg #[.int .i64 hb, .int .u64 lb, .int .i64 sb], .agg #[.int .i64 hc, .int .u64 lc, .int .i64 sc]] w fun e w' => e = .returned (.tuple #[.agg #[.int .i64 y0', .int .u64 y1', .int .i64 y2'], .int .i64 ey]) ∧ Below w.heap.size w w')) (hy : ey ≠ 0) :
    Calls Try.prog 5 #[.agg #[.int .i64 ha, .int .u64 la, .int .i64 sa], .agg #[.int .i64 hb, .int .u64 lb, .int .i64 sb], .agg #[.int .i64 hc, .int .u64 lc, .int .i64 sc]] w fun e w' => e = .returned (.bool true) ∧ Below w.heap.size w w' := by
  go_enter Try.func5, Try.ntmps5
  go_wp2_with fail
  refine (awake_any _).mono ?_
  rintro e w1 ⟨rfl, bb⟩
  have Aa := (((at3_new w (.int .i64 ha) (.int .u64 la) (.int .i64 sa) 24).alloc (.cells #[.int .i64 hb, .int .u64 lb, .int .i64 sb] 24)).alloc (.cells #[.int .i64 hc, .int .u64 lc, .int .i64 sc] 24)).step bb
  have Ab := ((at3_new (w.alloc (.cells #[.int .i64 ha, .int .u64 la, .int .i64 sa] 24)) (.int .i64 hb) (.int .u64 lb) (.int .i64 sb) 24).alloc (.cells #[.int .i64 hc, .int .u64 lc, .int .i64 sc] 24)).step bb
  have Ac := (at3_new ((w.alloc (.cells #[.int .i64 ha, .int .u64 la, .int .i64 sa] 24)).alloc (.cells #[.int .i64 hb, .int .u64 lb, .int .i64 sb] 24)) (.int .i64 hc) (.int .u64 lc) (.int .i64 sc) 24).step bb
  have G : Below w.heap.size w w1 := (bel_alloc (bel_alloc (bel_alloc (Below.refl _ _) _) _) _).trans (bb.mono (by simp <;> omega))
  clear bb
  rw [show (w.alloc (.cells #[.int .i64 ha, .int .u64 la, .int .i64 sa] 24)).heap.size = w.heap.size + 1 by simp] at Ab
  rw [show ((w.alloc (.cells #[.int .i64 ha, .int .u64 la, .int .i64 sa] 24)).alloc (.cells #[.int .i64 hb, .int .u64 lb, .int .i64 sb] 24)).heap.size = w.heap.size + 1 + 1 by simp] at Ac
  obtain ⟨a0, a1, a2, a3⟩ := Aa
  obtain ⟨b0, b1, b2, b3⟩ := Ab
  obtain ⟨c0, c1, c2, c3⟩ := Ac
  go_wp2_with fail
  refine (C1.out _).mono ?_
  rintro e w2 ⟨rfl, bb⟩
  have Aa := ((At3.mk a0 a1 a2 a3)).step bb
  have Ab := ((At3.mk b0 b1 b2 b3)).step bb
  have Ac := ((At3.mk c0 c1 c2 c3)).step bb
  clear a0 a1 a2 a3 b0 b1 b2 b3 c0 c1 c2 c3
  have G := G.trans (bb.mono G.size)
  clear bb
  obtain ⟨a0, a1, a2, a3⟩ := Aa
  obtain ⟨b0, b1, b2, b3⟩ := Ab
  obtain ⟨c0, c1, c2, c3⟩ := Ac
  go_wp2_with fail
  refine (C2.out _).mono ?_
  rintro e w3 ⟨rfl, bb⟩
  have Aa := ((At3.mk a0 a1 a2 a3)).step bb
  have Ab := ((At3.mk b0 b1 b2 b3)).step bb
  have Ac := ((At3.mk c0 c1 c2 c3)).step bb
  clear a0 a1 a2 a3 b0 b1 b2 b3 c0 c1 c2 c3
  have G := G.trans (bb.mono G.size)
  clear bb
  obtain ⟨a0, a1, a2, a3⟩ := Aa
  obtain ⟨b0, b1, b2, b3⟩ := Ab
  obtain ⟨c0, c1, c2, c3⟩ := Ac
  go_wp2_with fail
  refine (N1.out _).mono ?_
  rintro e w4 ⟨rfl, bb⟩
  have Aa := ((At3.mk a0 a1 a2 a3)).step bb
  have Ab := ((At3.mk b0 b1 b2 b3)).step bb
  have Ac := ((At3.mk c0 c1 c2 c3)).step bb
  clear a0 a1 a2 a3 b0 b1 b2 b3 c0 c1 c2 c3
  have G := G.trans (bb.mono G.size)
  clear bb
  obtain ⟨a0, a1, a2, a3⟩ := Aa
  obtain ⟨b0, b1, b2, b3⟩ := Ab
  obtain ⟨c0, c1, c2, c3⟩ := Ac
  go_wp2_with fail
  refine (N2.out _).mono ?_
  rintro e w5 ⟨rfl, bb⟩
  have Aa := ((At3.mk a0 a1 a2 a3).alloc _).step bb
  have Ab := ((At3.mk b0 b1 b2 b3).alloc _).step bb
  have Ac := ((At3.mk c0 c1 c2 c3).alloc _).step bb
  clear a0 a1 a2 a3 b0 b1 b2 b3 c0 c1 c2 c3
  have Am := (at3_new w4 _ _ _ _).step bb
  have G := G.trans ((below_over bb).mono G.size)
  clear bb
  generalize w4.heap.size = pm at *
  obtain ⟨a0, a1, a2, a3⟩ := Aa
  obtain ⟨b0, b1, b2, b3⟩ := Ab
  obtain ⟨c0, c1, c2, c3⟩ := Ac
  obtain ⟨m0, m1, m2, m3⟩ := Am
  go_wp2_with fail
  refine (C3.out _).mono ?_
  rintro e w6 ⟨rfl, bb⟩
  have Aa := ((At3.mk a0 a1 a2 a3).alloc _).step bb
  have Ab := ((At3.mk b0 b1 b2 b3).alloc _).step bb
  have Ac := ((At3.mk c0 c1 c2 c3).alloc _).step bb
  have Am := ((At3.mk m0 m1 m2 m3).alloc _).step bb
  clear a0 a1 a2 a3 b0 b1 b2 b3 c0 c1 c2 c3 m0 m1 m2 m3
  have An := (at3_new w5 _ _ _ _).step bb
  have G := G.trans ((below_over bb).mono G.size)
  clear bb
  generalize w5.heap.size = pn at *
  obtain ⟨a0, a1, a2, a3⟩ := Aa
  obtain ⟨b0, b1, b2, b3⟩ := Ab
  obtain ⟨c0, c1, c2, c3⟩ := Ac
  obtain ⟨m0, m1, m2, m3⟩ := Am
  obtain ⟨n0, n1, n2, n3⟩ := An
  go_wp2_with fail
  refine (E.out _).mono ?_
  rintro e w7 ⟨rfl, bb⟩
  have Aa := ((At3.mk a0 a1 a2 a3)).step bb
  have Ab := ((At3.mk b0 b1 b2 b3)).step bb
  have Ac := ((At3.mk c0 c1 c2 c3)).step bb
  have Am := ((At3.mk m0 m1 m2 m3)).step bb
  have An := ((At3.mk n0 n1 n2 n3)).step bb
  clear a0 a1 a2 a3 b0 b1 b2 b3 c0 c1 c2 c3 m0 m1 m2 m3 n0 n1 n2 n3
  have G := G.trans (bb.mono G.size)
  clear bb
  obtain ⟨a0, a1, a2, a3⟩ := Aa
  obtain ⟨b0, b1, b2, b3⟩ := Ab
  obtain ⟨c0, c1, c2, c3⟩ := Ac
  obtain ⟨m0, m1, m2, m3⟩ := Am
  obtain ⟨n0, n1, n2, n3⟩ := An
  go_wp2_with fail
  refine (S1.out _).mono ?_
  rintro e w8 ⟨rfl, bb⟩
  have Aa := ((At3.mk a0 a1 a2 a3)).step bb
  have Ab := ((At3.mk b0 b1 b2 b3)).step bb
  have Ac := ((At3.mk c0 c1 c2 c3)).step bb
  clear a0 a1 a2 a3 b0 b1 b2 b3 c0 c1 c2 c3 m0 m1 m2 m3 n0 n1 n2 n3
  have G := G.trans (bb.mono G.size)
  clear bb
  obtain ⟨a0, a1, a2, a3⟩ := Aa
  obtain ⟨b0, b1, b2, b3⟩ := Ab
  obtain ⟨c0, c1, c2, c3⟩ := Ac
  go_wp2_with fail
  refine (S2.out _).mono ?_
  rintro e w9 ⟨rfl, bb⟩
  have Aa := ((At3.mk a0 a1 a2 a3).alloc _).step bb
  have Ab := ((At3.mk b0 b1 b2 b3).alloc _).step bb
  have Ac := ((At3.mk c0 c1 c2 c3).alloc _).step bb
  clear a0 a1 a2 a3 b0 b1 b2 b3 c0 c1 c2 c3
  have Ax := (at3_new w8 _ _ _ _).step bb
  have G := G.trans ((below_over bb).mono G.size)
  clear bb
  generalize w8.heap.size = px at *
  obtain ⟨a0, a1, a2, a3⟩ := Aa
  obtain ⟨b0, b1, b2, b3⟩ := Ab
  obtain ⟨c0, c1, c2, c3⟩ := Ac
  obtain ⟨x0, x1, x2, x3⟩ := Ax
  go_wp2_with fail
  refine bodyPost_ret (v := .bool true) (by simp [results, Try.results5, go_sem]) rfl ⟨rfl, ?_⟩
  exact bel_alloc G _
set_option maxHeartbeats 4000000 in
set_option maxRecDepth 100000 in
theorem order_near (ha la sa hb lb sb hc lc sc m0' m1' m2' n0' n1' n2' x0' x1' x2' y0' y1' y2' K : Int) (w : World) (kb : -1 ≤ K ∧ K ≤ 1) (C1 : Hid (∀ w, Calls Try.prog 11 #[.agg #[.int .i64 ha, .int .u64 la, .int .i64 sa], .agg #[.int .i64 hb, .int .u64 lb, .int .i64 sb]] w fun e w' => e = .returned (.tuple #[.int .i64 K, .int .i64 0]) ∧ Below w.heap.size w w')) (C2 : Hid (∀ w, Calls Try.prog 11 #[.agg #[.int .i64 hb, .int .u64 lb, .int .i64 sb], .agg #[.int .i64 ha, .int .u64 la, .int .i64 sa]] w fun e w' => e = .returned (.tuple #[.int .i64 (-K), .int .i64 0]) ∧ Below w.heap.size w w')) (N1 : Hid (∀ w, Calls Try.prog 16 #[.agg #[.int .i64 ha, .int .u64 la, .int .i64 sa]] w fun e w' => e = .returned (.tuple #[.agg #[.int .i64 m0', .int .u64 m1', .int .i64 m2'], .int .i64 0]) ∧ Below w.heap.size w w')) (N2 : Hid (∀ w, Calls Try.prog 16 #[.agg #[.int .i64 hb, .int .u64 lb, .int .i64 sb]] w fun e w' => e = .returned (.tuple #[.agg #[.int .i64 n0', .int .u64 n1', .int .i64 n2'], .int .i64 0]) ∧ Below w.heap.size w w')) (C3 : Hid (∀ w, Calls Try.prog 11 #[.agg #[.int .i64 m0', .int .u64 m1', .int .i64 m2'], .agg #[.int .i64 n0', .int .u64 n1', .int .i64 n2']] w fun e w' => e = .returned (.tuple #[.int .i64 (-K), .int .i64 0]) ∧ Below w.heap.size w w')) (E : Hid (∀ w, Calls Try.prog 17 #[.agg #[.int .i64 ha, .int .u64 la, .int .i64 sa], .agg #[.int .i64 ha, .int .u64 la, .int .i64 sa]] w fun e w' => e = .returned (.bool true) ∧ Below w.heap.size w w')) (S1 : Hid (∀ w, Calls Try.prog 18 #[.agg #[.int .i64 ha, .int .u64 la, .int .i64 sa], .agg #[.int .i64 hc, .int .u64 lc, .int .i64 sc]] w fun e w' => e = .returned (.tuple #[.agg #[.int .i64 x0', .int .u64 x1', .int .i64 x2'], .int .i64 0]) ∧ Below w.heap.size w w')) (S2 : Hid (∀ w, Calls Try.prog 18 #[.agg #[.int .i64 hb, .int .u64 lb, .int .i64 sb], .agg #[.int .i64 hc, .int .u64 lc, .int .i64 sc]] w fun e w' => e = .returned (.tuple #[.agg #[.int .i64 y0', .int .u64 y1', .int .i64 y2'], .int .i64 0]) ∧ Below w.heap.size w w')) (C4 : Hid (∀ w, Calls Try.prog 11 #[.agg #[.int .i64 x0', .int .u64 x1', .int .i64 x2'], .agg #[.int .i64 y0', .int .u64 y1', .int .i64 y2']] w fun e w' => e = .returned (.tuple #[.int .i64 K, .int .i64 0]) ∧ Below w.heap.size w w')) :
    Calls Try.prog 5 #[.agg #[.int .i64 ha, .int .u64 la, .int .i64 sa], .agg #[.int .i64 hb, .int .u64 lb, .int .i64 sb], .agg #[.int .i64 hc, .int .u64 lc, .int .i64 sc]] w fun e w' => e = .returned (.bool true) ∧ Below w.heap.size w w' := by
  go_enter Try.func5, Try.ntmps5
  go_wp2_with fail
  refine (awake_any _).mono ?_
  rintro e w1 ⟨rfl, bb⟩
  have Aa := (((at3_new w (.int .i64 ha) (.int .u64 la) (.int .i64 sa) 24).alloc (.cells #[.int .i64 hb, .int .u64 lb, .int .i64 sb] 24)).alloc (.cells #[.int .i64 hc, .int .u64 lc, .int .i64 sc] 24)).step bb
  have Ab := ((at3_new (w.alloc (.cells #[.int .i64 ha, .int .u64 la, .int .i64 sa] 24)) (.int .i64 hb) (.int .u64 lb) (.int .i64 sb) 24).alloc (.cells #[.int .i64 hc, .int .u64 lc, .int .i64 sc] 24)).step bb
  have Ac := (at3_new ((w.alloc (.cells #[.int .i64 ha, .int .u64 la, .int .i64 sa] 24)).alloc (.cells #[.int .i64 hb, .int .u64 lb, .int .i64 sb] 24)) (.int .i64 hc) (.int .u64 lc) (.int .i64 sc) 24).step bb
  have G : Below w.heap.size w w1 := (bel_alloc (bel_alloc (bel_alloc (Below.refl _ _) _) _) _).trans (bb.mono (by simp <;> omega))
  clear bb
  rw [show (w.alloc (.cells #[.int .i64 ha, .int .u64 la, .int .i64 sa] 24)).heap.size = w.heap.size + 1 by simp] at Ab
  rw [show ((w.alloc (.cells #[.int .i64 ha, .int .u64 la, .int .i64 sa] 24)).alloc (.cells #[.int .i64 hb, .int .u64 lb, .int .i64 sb] 24)).heap.size = w.heap.size + 1 + 1 by simp] at Ac
  obtain ⟨a0, a1, a2, a3⟩ := Aa
  obtain ⟨b0, b1, b2, b3⟩ := Ab
  obtain ⟨c0, c1, c2, c3⟩ := Ac
  go_wp2_with fail
  refine (C1.out _).mono ?_
  rintro e w2 ⟨rfl, bb⟩
  have Aa := ((At3.mk a0 a1 a2 a3)).step bb
  have Ab := ((At3.mk b0 b1 b2 b3)).step bb
  have Ac := ((At3.mk c0 c1 c2 c3)).step bb
  clear a0 a1 a2 a3 b0 b1 b2 b3 c0 c1 c2 c3
  have G := G.trans (bb.mono G.size)
  clear bb
  obtain ⟨a0, a1, a2, a3⟩ := Aa
  obtain ⟨b0, b1, b2, b3⟩ := Ab
  obtain ⟨c0, c1, c2, c3⟩ := Ac
  go_wp2_with fail
  refine (C2.out _).mono ?_
  rintro e w3 ⟨rfl, bb⟩
  have Aa := ((At3.mk a0 a1 a2 a3)).step bb
  have Ab := ((At3.mk b0 b1 b2 b3)).step bb
  have Ac := ((At3.mk c0 c1 c2 c3)).step bb
  clear a0 a1 a2 a3 b0 b1 b2 b3 c0 c1 c2 c3
  have G := G.trans (bb.mono G.size)
  clear bb
  obtain ⟨a0, a1, a2, a3⟩ := Aa
  obtain ⟨b0, b1, b2, b3⟩ := Ab
  obtain ⟨c0, c1, c2, c3⟩ := Ac
  go_wp2_with fail
  refine (N1.out _).mono ?_
  rintro e w4 ⟨rfl, bb⟩
  have Aa := ((At3.mk a0 a1 a2 a3)).step bb
  have Ab := ((At3.mk b0 b1 b2 b3)).step bb
  have Ac := ((At3.mk c0 c1 c2 c3)).step bb
  clear a0 a1 a2 a3 b0 b1 b2 b3 c0 c1 c2 c3
  have G := G.trans (bb.mono G.size)
  clear bb
  obtain ⟨a0, a1, a2, a3⟩ := Aa
  obtain ⟨b0, b1, b2, b3⟩ := Ab
  obtain ⟨c0, c1, c2, c3⟩ := Ac
  go_wp2_with fail
  refine (N2.out _).mono ?_
  rintro e w5 ⟨rfl, bb⟩
  have Aa := ((At3.mk a0 a1 a2 a3).alloc _).step bb
  have Ab := ((At3.mk b0 b1 b2 b3).alloc _).step bb
  have Ac := ((At3.mk c0 c1 c2 c3).alloc _).step bb
  clear a0 a1 a2 a3 b0 b1 b2 b3 c0 c1 c2 c3
  have Am := (at3_new w4 _ _ _ _).step bb
  have G := G.trans ((below_over bb).mono G.size)
  clear bb
  generalize w4.heap.size = pm at *
  obtain ⟨a0, a1, a2, a3⟩ := Aa
  obtain ⟨b0, b1, b2, b3⟩ := Ab
  obtain ⟨c0, c1, c2, c3⟩ := Ac
  obtain ⟨m0, m1, m2, m3⟩ := Am
  go_wp2_with fail
  refine (C3.out _).mono ?_
  rintro e w6 ⟨rfl, bb⟩
  have Aa := ((At3.mk a0 a1 a2 a3).alloc _).step bb
  have Ab := ((At3.mk b0 b1 b2 b3).alloc _).step bb
  have Ac := ((At3.mk c0 c1 c2 c3).alloc _).step bb
  have Am := ((At3.mk m0 m1 m2 m3).alloc _).step bb
  clear a0 a1 a2 a3 b0 b1 b2 b3 c0 c1 c2 c3 m0 m1 m2 m3
  have An := (at3_new w5 _ _ _ _).step bb
  have G := G.trans ((below_over bb).mono G.size)
  clear bb
  generalize w5.heap.size = pn at *
  obtain ⟨a0, a1, a2, a3⟩ := Aa
  obtain ⟨b0, b1, b2, b3⟩ := Ab
  obtain ⟨c0, c1, c2, c3⟩ := Ac
  obtain ⟨m0, m1, m2, m3⟩ := Am
  obtain ⟨n0, n1, n2, n3⟩ := An
  go_wp2_with fail
  refine (E.out _).mono ?_
  rintro e w7 ⟨rfl, bb⟩
  have Aa := ((At3.mk a0 a1 a2 a3)).step bb
  have Ab := ((At3.mk b0 b1 b2 b3)).step bb
  have Ac := ((At3.mk c0 c1 c2 c3)).step bb
  have Am := ((At3.mk m0 m1 m2 m3)).step bb
  have An := ((At3.mk n0 n1 n2 n3)).step bb
  clear a0 a1 a2 a3 b0 b1 b2 b3 c0 c1 c2 c3 m0 m1 m2 m3 n0 n1 n2 n3
  have G := G.trans (bb.mono G.size)
  clear bb
  obtain ⟨a0, a1, a2, a3⟩ := Aa
  obtain ⟨b0, b1, b2, b3⟩ := Ab
  obtain ⟨c0, c1, c2, c3⟩ := Ac
  obtain ⟨m0, m1, m2, m3⟩ := Am
  obtain ⟨n0, n1, n2, n3⟩ := An
  go_wp2_with fail
  refine (S1.out _).mono ?_
  rintro e w8 ⟨rfl, bb⟩
  have Aa := ((At3.mk a0 a1 a2 a3)).step bb
  have Ab := ((At3.mk b0 b1 b2 b3)).step bb
  have Ac := ((At3.mk c0 c1 c2 c3)).step bb
  clear a0 a1 a2 a3 b0 b1 b2 b3 c0 c1 c2 c3 m0 m1 m2 m3 n0 n1 n2 n3
  have G := G.trans (bb.mono G.size)
  clear bb
  obtain ⟨a0, a1, a2, a3⟩ := Aa
  obtain ⟨b0, b1, b2, b3⟩ := Ab
  obtain ⟨c0, c1, c2, c3⟩ := Ac
  go_wp2_with fail
  refine (S2.out _).mono ?_
  rintro e w9 ⟨rfl, bb⟩
  have Aa := ((At3.mk a0 a1 a2 a3).alloc _).step bb
  have Ab := ((At3.mk b0 b1 b2 b3).alloc _).step bb
  have Ac := ((At3.mk c0 c1 c2 c3).alloc _).step bb
  clear a0 a1 a2 a3 b0 b1 b2 b3 c0 c1 c2 c3
  have Ax := (at3_new w8 _ _ _ _).step bb
  have G := G.trans ((below_over bb).mono G.size)
  clear bb
  generalize w8.heap.size = px at *
  obtain ⟨a0, a1, a2, a3⟩ := Aa
  obtain ⟨b0, b1, b2, b3⟩ := Ab
  obtain ⟨c0, c1, c2, c3⟩ := Ac
  obtain ⟨x0, x1, x2, x3⟩ := Ax
  go_wp2_with fail
  refine (C4.out _).mono ?_
  rintro e w10 ⟨rfl, bb⟩
  have Aa := ((At3.mk a0 a1 a2 a3).alloc _).step bb
  have Ab := ((At3.mk b0 b1 b2 b3).alloc _).step bb
  have Ac := ((At3.mk c0 c1 c2 c3).alloc _).step bb
  have Ax := ((At3.mk x0 x1 x2 x3).alloc _).step bb
  clear a0 a1 a2 a3 b0 b1 b2 b3 c0 c1 c2 c3 x0 x1 x2 x3
  have Ay := (at3_new w9 _ _ _ _).step bb
  have G := G.trans ((below_over bb).mono G.size)
  clear bb
  generalize w9.heap.size = py at *
  obtain ⟨a0, a1, a2, a3⟩ := Aa
  obtain ⟨b0, b1, b2, b3⟩ := Ab
  obtain ⟨c0, c1, c2, c3⟩ := Ac
  obtain ⟨x0, x1, x2, x3⟩ := Ax
  obtain ⟨y0, y1, y2, y3⟩ := Ay
  go_wp2_with fail
  refine bodyPost_ret (v := .bool true) (by simp [results, Try.results5, go_sem]) rfl ⟨rfl, ?_⟩
  exact G

theorem order_walk (ha la sa hb lb sb hc lc sc : Int) (wha : (Lit.int .i64 ha).wf = true) (wla : (Lit.int .u64 la).wf = true) (whb : (Lit.int .i64 hb).wf = true) (wlb : (Lit.int .u64 lb).wf = true) (whc : (Lit.int .i64 hc).wf = true) (wlc : (Lit.int .u64 lc).wf = true) (w : World) :
    Calls Try.prog 5 #[.agg #[.int .i64 ha, .int .u64 la, .int .i64 sa], .agg #[.int .i64 hb, .int .u64 lb, .int .i64 sb], .agg #[.int .i64 hc, .int .u64 lc, .int .i64 sc]] w fun e w' => e = .returned (.bool true) ∧ Below w.heap.size w w' := by
  rcases form_cases ha la sa wha wla with ba | ⟨ca, na, rfl, rfl, rfl, ia, hna⟩
  · refine order_bad _ _ _ _ _ _ _ _ _ w (fun w => cmp_bad _ _ _ _ _ _ w (fun w => both_bad1 _ _ _ _ _ _ w ba)) (fun w => cmp_bad _ _ _ _ _ _ w (fun w => ?_))
    rcases form_cases hb lb sb whb wlb with bb | ⟨cb, nb, rfl, rfl, rfl, ib, hnb⟩
    · exact both_bad1 _ _ _ _ _ _ w bb
    · exact both_bad2 cb _ _ _ _ _ nb w (IsD.self _) ib hnb ba
  rcases form_cases hb lb sb whb wlb with bb | ⟨cb, nb, rfl, rfl, rfl, ib, hnb⟩
  · exact order_bad _ _ _ _ _ _ _ _ _ w (fun w => cmp_bad _ _ _ _ _ _ w (fun w => both_bad2 ca _ _ _ _ _ na w (IsD.self _) ia hna bb)) (fun w => cmp_bad _ _ _ _ _ _ w (fun w => both_bad1 _ _ _ _ _ _ w bb))
  have C1 := fun w => cmp_yes ca cb na nb w ia ib hna hnb
  have C2 := fun w => cmp_yes cb ca nb na w ib ia hnb hna
  rw [cmp_back] at C2
  have C3 := fun w => cmp_yes (-ca) (-cb) na nb w ia.neg ib.neg hna hnb
  rw [tv_neg, sgn_neg] at C3
  have N1 := fun w => neg_ok ca _ _ na w (IsD.self _) ia hna
  have N2 := fun w => neg_ok cb _ _ nb w (IsD.self _) ib hnb
  have E := fun w => equal_yes (dhi ca) (dlo ca) na (dhi ca) (dlo ca) na w (fun w => cmp_self ca na w ia hna)
  have kb := sgn_bd (tv ca na (-cb) nb)
  rcases form_cases hc lc sc whc wlc with bc | ⟨cc, nc, rfl, rfl, rfl, ic, hnc⟩
  · obtain ⟨y0, y1, y2, ey, S2⟩ := add_some cb nb hc lc sc ib hnb whc wlc
    exact order_far _ _ _ _ _ _ _ _ _ _ _ _ _ _ _ _ _ _ _ _ _ _ _ _ w kb C1 C2 N1 N2 C3 E (fun w => add_bad _ _ _ _ _ _ w (fun w => both_bad2 ca _ _ _ _ _ na w (IsD.self _) ia hna bc)) S2 (by omega)
  by_cases h1 : InR (tv ca na cc nc)
  · by_cases h2 : InR (tv cb nb cc nc)
    · have C4 := fun w => cmp_yes (tv ca na cc nc) (tv cb nb cc nc) (max na nc) (max nb nc) w h1 h2 (by omega) (by omega)
      rw [tv_cancel] at C4
      exact order_near _ _ _ _ _ _ _ _ _ _ _ _ _ _ _ _ _ _ _ _ _ _ w kb C1 C2 N1 N2 C3 E (fun w => add_yes ca cc na nc w ia ic hna hnc h1) (fun w => add_yes cb cc nb nc w ib ic hnb hnc h2) C4
    · exact order_far2 _ _ _ _ _ _ _ _ _ _ _ _ _ _ _ _ _ _ _ _ _ _ _ w kb C1 C2 N1 N2 C3 E (fun w => add_yes ca cc na nc w ia ic hna hnc h1) (fun w => add_not cb cc nb nc w ib ic hnb hnc h2) (by omega)
  · obtain ⟨y0, y1, y2, ey, S2⟩ := add_some cb nb (dhi cc) (dlo cc) nc ib hnb whc wlc
    exact order_far _ _ _ _ _ _ _ _ _ _ _ _ _ _ _ _ _ _ _ _ _ _ _ _ w kb C1 C2 N1 N2 C3 E (fun w => add_not ca cc na nc w ia ic hna hnc h1) S2 (by omega)
end Go.Proofs.Ytponhogmbbjnbaa
