/- The law DecSums: its walk. -/
import Derived.Test.YtghdkchbaadddaaUq
import Derived.Test.YtghdkchbaadddaaQa
namespace Go.Proofs.Ytghdkchbaadddaa
open Go.RowKit
set_option linter.unusedVariables false
attribute [local go_sem] ext_cell ext_frozen ext_drew ext_of_drew ext_of_drewN ext_setCell ext_lt ext_lt1 ext_lt2 ext_lt3 lt_n2 lt_n3 lt_n4 lt_n5 lt_n6

set_option maxHeartbeats 4000000 in
set_option maxRecDepth 100000 in
theorem sums_yes (ha la sa hb lb sb x0' x1' x2' y0' y1' y2' n0' n1' n2' q g e1 e2 e3 e4 e5 : Int) (w : World) (S1 : Hid (∀ w, Calls Try.prog 9 #[.agg #[.int .i64 ha, .int .u64 la, .int .i64 sa], .agg #[.int .i64 hb, .int .u64 lb, .int .i64 sb]] w fun e w' => e = .returned (.tuple #[.agg #[.int .i64 x0', .int .u64 x1', .int .i64 x2'], .int .i64 e1]) ∧ Below w.heap.size w w')) (S2 : Hid (∀ w, Calls Try.prog 10 #[.agg #[.int .i64 ha, .int .u64 la, .int .i64 sa], .agg #[.int .i64 hb, .int .u64 lb, .int .i64 sb], .bool false] w fun e w' => e = .returned (.tuple #[.agg #[.int .i64 x0', .int .u64 x1', .int .i64 x2'], .int .i64 e1]) ∧ Below w.heap.size w w')) (S3 : Hid (∀ w, Calls Try.prog 11 #[.agg #[.int .i64 ha, .int .u64 la, .int .i64 sa], .agg #[.int .i64 hb, .int .u64 lb, .int .i64 sb]] w fun e w' => e = .returned (.tuple #[.agg #[.int .i64 y0', .int .u64 y1', .int .i64 y2'], .int .i64 e2]) ∧ Below w.heap.size w w')) (S4 : Hid (∀ w, Calls Try.prog 10 #[.agg #[.int .i64 ha, .int .u64 la, .int .i64 sa], .agg #[.int .i64 hb, .int .u64 lb, .int .i64 sb], .bool true] w fun e w' => e = .returned (.tuple #[.agg #[.int .i64 y0', .int .u64 y1', .int .i64 y2'], .int .i64 e2]) ∧ Below w.heap.size w w')) (C1 : Hid (∀ w, Calls Try.prog 12 #[.agg #[.int .i64 ha, .int .u64 la, .int .i64 sa], .agg #[.int .i64 hb, .int .u64 lb, .int .i64 sb]] w fun e w' => e = .returned (.tuple #[.int .i64 q, .int .i64 e3]) ∧ Below w.heap.size w w')) (C2 : Hid (∀ w, Calls Try.prog 13 #[.agg #[.int .i64 ha, .int .u64 la, .int .i64 sa], .agg #[.int .i64 hb, .int .u64 lb, .int .i64 sb]] w fun e w' => e = .returned (.tuple #[.int .i64 q, .int .i64 e3]) ∧ Below w.heap.size w w')) (N1 : Hid (∀ w, Calls Try.prog 15 #[.agg #[.int .i64 ha, .int .u64 la, .int .i64 sa]] w fun e w' => e = .returned (.tuple #[.agg #[.int .i64 n0', .int .u64 n1', .int .i64 n2'], .int .i64 e4]) ∧ Below w.heap.size w w')) (N2 : Hid (∀ w, Calls Try.prog 16 #[.agg #[.int .i64 ha, .int .u64 la, .int .i64 sa]] w fun e w' => e = .returned (.tuple #[.agg #[.int .i64 n0', .int .u64 n1', .int .i64 n2'], .int .i64 e4]) ∧ Below w.heap.size w w')) (G1 : Hid (∀ w, Calls Try.prog 17 #[.agg #[.int .i64 ha, .int .u64 la, .int .i64 sa]] w fun e w' => e = .returned (.tuple #[.int .i64 g, .int .i64 e5]) ∧ Below w.heap.size w w')) (G2 : Hid (∀ w, Calls Try.prog 18 #[.agg #[.int .i64 ha, .int .u64 la, .int .i64 sa]] w fun e w' => e = .returned (.tuple #[.int .i64 g, .int .i64 e5]) ∧ Below w.heap.size w w')) (K1 : Hid (∀ w, Calls Try.prog 19 #[.agg #[.int .i64 ha, .int .u64 la, .int .i64 sa]] w fun e w' => e = .returned (.int .i64 0) ∧ Below w.heap.size w w')) (K2 : Hid (∀ w, Calls Try.prog 20 #[.agg #[.int .i64 ha, .int .u64 la, .int .i64 sa]] w fun e w' => e = .returned (.bool true) ∧ Below w.heap.size w w')) :
    Calls Try.prog 3 #[.agg #[.int .i64 ha, .int .u64 la, .int .i64 sa], .agg #[.int .i64 hb, .int .u64 lb, .int .i64 sb]] w fun e w' => e = .returned (.bool true) ∧ Below w.heap.size w w' := by
  go_enter Try.func3, Try.ntmps3
  go_wp2_with fail
  refine (S1.out _).mono ?_
  rintro e w1 ⟨rfl, bb⟩
  have Aa := ((at3_new w (.int .i64 ha) (.int .u64 la) (.int .i64 sa) 24).alloc (.cells #[.int .i64 hb, .int .u64 lb, .int .i64 sb] 24)).step bb
  have Ab := (at3_new (w.alloc (.cells #[.int .i64 ha, .int .u64 la, .int .i64 sa] 24)) (.int .i64 hb) (.int .u64 lb) (.int .i64 sb) 24).step bb
  have G : Below w.heap.size w w1 := (bel_alloc (bel_alloc (Below.refl _ _) _) _).trans (bb.mono (by simp <;> omega))
  clear bb
  rw [show (w.alloc (.cells #[.int .i64 ha, .int .u64 la, .int .i64 sa] 24)).heap.size = w.heap.size + 1 by simp] at Ab
  obtain ⟨a0, a1, a2, a3⟩ := Aa
  obtain ⟨b0, b1, b2, b3⟩ := Ab
  go_wp2_with fail
  refine (S2.out _).mono ?_
  rintro e w2 ⟨rfl, bb⟩
  have Aa := ((At3.mk a0 a1 a2 a3).alloc _).step bb
  have Ab := ((At3.mk b0 b1 b2 b3).alloc _).step bb
  clear a0 a1 a2 a3 b0 b1 b2 b3
  have As := (at3_new w1 _ _ _ _).step bb
  have G := G.trans ((below_over bb).mono G.size)
  clear bb
  generalize w1.heap.size = ps at *
  obtain ⟨a0, a1, a2, a3⟩ := Aa
  obtain ⟨b0, b1, b2, b3⟩ := Ab
  obtain ⟨s0, s1, s2, s3⟩ := As
  go_wp2_with fail
  refine (S3.out _).mono ?_
  rintro e w3 ⟨rfl, bb⟩
  have Aa := ((At3.mk a0 a1 a2 a3).alloc _).step bb
  have Ab := ((At3.mk b0 b1 b2 b3).alloc _).step bb
  have As := ((At3.mk s0 s1 s2 s3).alloc _).step bb
  clear a0 a1 a2 a3 b0 b1 b2 b3 s0 s1 s2 s3
  have At := (at3_new w2 _ _ _ _).step bb
  have G := G.trans ((below_over bb).mono G.size)
  clear bb
  generalize w2.heap.size = pt at *
  obtain ⟨a0, a1, a2, a3⟩ := Aa
  obtain ⟨b0, b1, b2, b3⟩ := Ab
  obtain ⟨s0, s1, s2, s3⟩ := As
  obtain ⟨t0, t1, t2, t3⟩ := At
  go_wp2_with fail
  refine (S4.out _).mono ?_
  rintro e w4 ⟨rfl, bb⟩
  have Aa := ((At3.mk a0 a1 a2 a3).alloc _).step bb
  have Ab := ((At3.mk b0 b1 b2 b3).alloc _).step bb
  have As := ((At3.mk s0 s1 s2 s3).alloc _).step bb
  have At := ((At3.mk t0 t1 t2 t3).alloc _).step bb
  clear a0 a1 a2 a3 b0 b1 b2 b3 s0 s1 s2 s3 t0 t1 t2 t3
  have Ad := (at3_new w3 _ _ _ _).step bb
  have G := G.trans ((below_over bb).mono G.size)
  clear bb
  generalize w3.heap.size = pd at *
  obtain ⟨a0, a1, a2, a3⟩ := Aa
  obtain ⟨b0, b1, b2, b3⟩ := Ab
  obtain ⟨s0, s1, s2, s3⟩ := As
  obtain ⟨t0, t1, t2, t3⟩ := At
  obtain ⟨d0, d1, d2, d3⟩ := Ad
  go_wp2_with fail
  refine (C1.out _).mono ?_
  rintro e w5 ⟨rfl, bb⟩
  have Aa := ((At3.mk a0 a1 a2 a3).alloc _).step bb
  have Ab := ((At3.mk b0 b1 b2 b3).alloc _).step bb
  have As := ((At3.mk s0 s1 s2 s3).alloc _).step bb
  have At := ((At3.mk t0 t1 t2 t3).alloc _).step bb
  have Ad := ((At3.mk d0 d1 d2 d3).alloc _).step bb
  clear a0 a1 a2 a3 b0 b1 b2 b3 s0 s1 s2 s3 t0 t1 t2 t3 d0 d1 d2 d3
  have Au := (at3_new w4 _ _ _ _).step bb
  have G := G.trans ((below_over bb).mono G.size)
  clear bb
  generalize w4.heap.size = pu at *
  obtain ⟨a0, a1, a2, a3⟩ := Aa
  obtain ⟨b0, b1, b2, b3⟩ := Ab
  obtain ⟨s0, s1, s2, s3⟩ := As
  obtain ⟨t0, t1, t2, t3⟩ := At
  obtain ⟨d0, d1, d2, d3⟩ := Ad
  obtain ⟨u0, u1, u2, u3⟩ := Au
  go_wp2_with fail
  refine (C2.out _).mono ?_
  rintro e w6 ⟨rfl, bb⟩
  have Aa := ((At3.mk a0 a1 a2 a3)).step bb
  have Ab := ((At3.mk b0 b1 b2 b3)).step bb
  have As := ((At3.mk s0 s1 s2 s3)).step bb
  have At := ((At3.mk t0 t1 t2 t3)).step bb
  have Ad := ((At3.mk d0 d1 d2 d3)).step bb
  have Au := ((At3.mk u0 u1 u2 u3)).step bb
  clear a0 a1 a2 a3 b0 b1 b2 b3 s0 s1 s2 s3 t0 t1 t2 t3 d0 d1 d2 d3 u0 u1 u2 u3
  have G := G.trans (bb.mono G.size)
  clear bb
  obtain ⟨a0, a1, a2, a3⟩ := Aa
  obtain ⟨b0, b1, b2, b3⟩ := Ab
  obtain ⟨s0, s1, s2, s3⟩ := As
  obtain ⟨t0, t1, t2, t3⟩ := At
  obtain ⟨d0, d1, d2, d3⟩ := Ad
  obtain ⟨u0, u1, u2, u3⟩ := Au
  go_wp2_with fail
  refine (awake_any _).mono ?_
  rintro e w7 ⟨rfl, bb⟩
  have Aa := ((At3.mk a0 a1 a2 a3)).step bb
  have Ab := ((At3.mk b0 b1 b2 b3)).step bb
  have As := ((At3.mk s0 s1 s2 s3)).step bb
  have At := ((At3.mk t0 t1 t2 t3)).step bb
  have Ad := ((At3.mk d0 d1 d2 d3)).step bb
  have Au := ((At3.mk u0 u1 u2 u3)).step bb
  clear a0 a1 a2 a3 b0 b1 b2 b3 s0 s1 s2 s3 t0 t1 t2 t3 d0 d1 d2 d3 u0 u1 u2 u3
  have G := G.trans (bb.mono G.size)
  clear bb
  obtain ⟨a0, a1, a2, a3⟩ := Aa
  obtain ⟨b0, b1, b2, b3⟩ := Ab
  obtain ⟨s0, s1, s2, s3⟩ := As
  obtain ⟨t0, t1, t2, t3⟩ := At
  obtain ⟨d0, d1, d2, d3⟩ := Ad
  obtain ⟨u0, u1, u2, u3⟩ := Au
  go_wp2_with fail
  refine (N1.out _).mono ?_
  rintro e w8 ⟨rfl, bb⟩
  have Aa := ((At3.mk a0 a1 a2 a3)).step bb
  clear a0 a1 a2 a3 b0 b1 b2 b3 s0 s1 s2 s3 t0 t1 t2 t3 d0 d1 d2 d3 u0 u1 u2 u3
  have G := G.trans (bb.mono G.size)
  clear bb
  obtain ⟨a0, a1, a2, a3⟩ := Aa
  go_wp2_with fail
  refine (N2.out _).mono ?_
  rintro e w9 ⟨rfl, bb⟩
  have Aa := ((At3.mk a0 a1 a2 a3).alloc _).step bb
  clear a0 a1 a2 a3
  have An := (at3_new w8 _ _ _ _).step bb
  have G := G.trans ((below_over bb).mono G.size)
  clear bb
  generalize w8.heap.size = pn at *
  obtain ⟨a0, a1, a2, a3⟩ := Aa
  obtain ⟨n0, n1, n2, n3⟩ := An
  go_wp2_with fail
  refine (G1.out _).mono ?_
  rintro e w10 ⟨rfl, bb⟩
  have Aa := ((At3.mk a0 a1 a2 a3).alloc _).step bb
  have An := ((At3.mk n0 n1 n2 n3).alloc _).step bb
  clear a0 a1 a2 a3 n0 n1 n2 n3
  have Am := (at3_new w9 _ _ _ _).step bb
  have G := G.trans ((below_over bb).mono G.size)
  clear bb
  generalize w9.heap.size = pm at *
  obtain ⟨a0, a1, a2, a3⟩ := Aa
  obtain ⟨n0, n1, n2, n3⟩ := An
  obtain ⟨m0, m1, m2, m3⟩ := Am
  go_wp2_with fail
  refine (G2.out _).mono ?_
  rintro e w11 ⟨rfl, bb⟩
  have Aa := ((At3.mk a0 a1 a2 a3)).step bb
  have An := ((At3.mk n0 n1 n2 n3)).step bb
  have Am := ((At3.mk m0 m1 m2 m3)).step bb
  clear a0 a1 a2 a3 n0 n1 n2 n3 m0 m1 m2 m3
  have G := G.trans (bb.mono G.size)
  clear bb
  obtain ⟨a0, a1, a2, a3⟩ := Aa
  obtain ⟨n0, n1, n2, n3⟩ := An
  obtain ⟨m0, m1, m2, m3⟩ := Am
  go_wp2_with fail
  refine wp_region_extq (by kernel_rfl) (by kernel_rfl) ?_
  iterate 36 (refine wpQuiet_step (fun K hK => ?_); go_simp; first | (refine hK _ ?_; clear hK K) | (apply Exists.intro; refine ⟨fun xq => ?_, hK _ ?_⟩; (first | (go_at_call 19; exact calls_ext (K1.out _)) | (go_at_call 20; exact calls_ext (K2.out _))); clear hK K))
  refine wpQuiet_nil ?_
  rintro w9 ⟨xq, rfl⟩
  go_wp2_with fail
  go_ret
  exact ⟨rfl, bel_ext G _⟩
set_option maxHeartbeats 4000000 in
set_option maxRecDepth 100000 in
theorem sums_no (ha la sa hb lb sb x0' x1' x2' y0' y1' y2' n0' n1' n2' q g e1 e2 e3 e4 e5 : Int) (w : World) (S1 : Hid (∀ w, Calls Try.prog 9 #[.agg #[.int .i64 ha, .int .u64 la, .int .i64 sa], .agg #[.int .i64 hb, .int .u64 lb, .int .i64 sb]] w fun e w' => e = .returned (.tuple #[.agg #[.int .i64 x0', .int .u64 x1', .int .i64 x2'], .int .i64 e1]) ∧ Below w.heap.size w w')) (S2 : Hid (∀ w, Calls Try.prog 10 #[.agg #[.int .i64 ha, .int .u64 la, .int .i64 sa], .agg #[.int .i64 hb, .int .u64 lb, .int .i64 sb], .bool false] w fun e w' => e = .returned (.tuple #[.agg #[.int .i64 x0', .int .u64 x1', .int .i64 x2'], .int .i64 e1]) ∧ Below w.heap.size w w')) (S3 : Hid (∀ w, Calls Try.prog 11 #[.agg #[.int .i64 ha, .int .u64 la, .int .i64 sa], .agg #[.int .i64 hb, .int .u64 lb, .int .i64 sb]] w fun e w' => e = .returned (.tuple #[.agg #[.int .i64 y0', .int .u64 y1', .int .i64 y2'], .int .i64 e2]) ∧ Below w.heap.size w w')) (S4 : Hid (∀ w, Calls Try.prog 10 #[.agg #[.int .i64 ha, .int .u64 la, .int .i64 sa], .agg #[.int .i64 hb, .int .u64 lb, .int .i64 sb], .bool true] w fun e w' => e = .returned (.tuple #[.agg #[.int .i64 y0', .int .u64 y1', .int .i64 y2'], .int .i64 e2]) ∧ Below w.heap.size w w')) (C1 : Hid (∀ w, Calls Try.prog 12 #[.agg #[.int .i64 ha, .int .u64 la, .int .i64 sa], .agg #[.int .i64 hb, .int .u64 lb, .int .i64 sb]] w fun e w' => e = .returned (.tuple #[.int .i64 q, .int .i64 e3]) ∧ Below w.heap.size w w')) (C2 : Hid (∀ w, Calls Try.prog 13 #[.agg #[.int .i64 ha, .int .u64 la, .int .i64 sa], .agg #[.int .i64 hb, .int .u64 lb, .int .i64 sb]] w fun e w' => e = .returned (.tuple #[.int .i64 q, .int .i64 e3]) ∧ Below w.heap.size w w')) (N1 : Hid (∀ w, Calls Try.prog 15 #[.agg #[.int .i64 ha, .int .u64 la, .int .i64 sa]] w fun e w' => e = .returned (.tuple #[.agg #[.int .i64 n0', .int .u64 n1', .int .i64 n2'], .int .i64 e4]) ∧ Below w.heap.size w w')) (N2 : Hid (∀ w, Calls Try.prog 16 #[.agg #[.int .i64 ha, .int .u64 la, .int .i64 sa]] w fun e w' => e = .returned (.tuple #[.agg #[.int .i64 n0', .int .u64 n1', .int .i64 n2'], .int .i64 e4]) ∧ Below w.heap.size w w')) (G1 : Hid (∀ w, Calls Try.prog 17 #[.agg #[.int .i64 ha, .int .u64 la, .int .i64 sa]] w fun e w' => e = .returned (.tuple #[.int .i64 g, .int .i64 e5]) ∧ Below w.heap.size w w')) (G2 : Hid (∀ w, Calls Try.prog 18 #[.agg #[.int .i64 ha, .int .u64 la, .int .i64 sa]] w fun e w' => e = .returned (.tuple #[.int .i64 g, .int .i64 e5]) ∧ Below w.heap.size w w')) (K1 : Hid (∀ w, Calls Try.prog 19 #[.agg #[.int .i64 ha, .int .u64 la, .int .i64 sa]] w fun e w' => e = .returned (.int .i64 3) ∧ Below w.heap.size w w')) (K2 : Hid (∀ w, Calls Try.prog 20 #[.agg #[.int .i64 ha, .int .u64 la, .int .i64 sa]] w fun e w' => e = .returned (.bool false) ∧ Below w.heap.size w w')) :
    Calls Try.prog 3 #[.agg #[.int .i64 ha, .int .u64 la, .int .i64 sa], .agg #[.int .i64 hb, .int .u64 lb, .int .i64 sb]] w fun e w' => e = .returned (.bool true) ∧ Below w.heap.size w w' := by
  go_enter Try.func3, Try.ntmps3
  go_wp2_with fail
  refine (S1.out _).mono ?_
  rintro e w1 ⟨rfl, bb⟩
  have Aa := ((at3_new w (.int .i64 ha) (.int .u64 la) (.int .i64 sa) 24).alloc (.cells #[.int .i64 hb, .int .u64 lb, .int .i64 sb] 24)).step bb
  have Ab := (at3_new (w.alloc (.cells #[.int .i64 ha, .int .u64 la, .int .i64 sa] 24)) (.int .i64 hb) (.int .u64 lb) (.int .i64 sb) 24).step bb
  have G : Below w.heap.size w w1 := (bel_alloc (bel_alloc (Below.refl _ _) _) _).trans (bb.mono (by simp <;> omega))
  clear bb
  rw [show (w.alloc (.cells #[.int .i64 ha, .int .u64 la, .int .i64 sa] 24)).heap.size = w.heap.size + 1 by simp] at Ab
  obtain ⟨a0, a1, a2, a3⟩ := Aa
  obtain ⟨b0, b1, b2, b3⟩ := Ab
  go_wp2_with fail
  refine (S2.out _).mono ?_
  rintro e w2 ⟨rfl, bb⟩
  have Aa := ((At3.mk a0 a1 a2 a3).alloc _).step bb
  have Ab := ((At3.mk b0 b1 b2 b3).alloc _).step bb
  clear a0 a1 a2 a3 b0 b1 b2 b3
  have As := (at3_new w1 _ _ _ _).step bb
  have G := G.trans ((below_over bb).mono G.size)
  clear bb
  generalize w1.heap.size = ps at *
  obtain ⟨a0, a1, a2, a3⟩ := Aa
  obtain ⟨b0, b1, b2, b3⟩ := Ab
  obtain ⟨s0, s1, s2, s3⟩ := As
  go_wp2_with fail
  refine (S3.out _).mono ?_
  rintro e w3 ⟨rfl, bb⟩
  have Aa := ((At3.mk a0 a1 a2 a3).alloc _).step bb
  have Ab := ((At3.mk b0 b1 b2 b3).alloc _).step bb
  have As := ((At3.mk s0 s1 s2 s3).alloc _).step bb
  clear a0 a1 a2 a3 b0 b1 b2 b3 s0 s1 s2 s3
  have At := (at3_new w2 _ _ _ _).step bb
  have G := G.trans ((below_over bb).mono G.size)
  clear bb
  generalize w2.heap.size = pt at *
  obtain ⟨a0, a1, a2, a3⟩ := Aa
  obtain ⟨b0, b1, b2, b3⟩ := Ab
  obtain ⟨s0, s1, s2, s3⟩ := As
  obtain ⟨t0, t1, t2, t3⟩ := At
  go_wp2_with fail
  refine (S4.out _).mono ?_
  rintro e w4 ⟨rfl, bb⟩
  have Aa := ((At3.mk a0 a1 a2 a3).alloc _).step bb
  have Ab := ((At3.mk b0 b1 b2 b3).alloc _).step bb
  have As := ((At3.mk s0 s1 s2 s3).alloc _).step bb
  have At := ((At3.mk t0 t1 t2 t3).alloc _).step bb
  clear a0 a1 a2 a3 b0 b1 b2 b3 s0 s1 s2 s3 t0 t1 t2 t3
  have Ad := (at3_new w3 _ _ _ _).step bb
  have G := G.trans ((below_over bb).mono G.size)
  clear bb
  generalize w3.heap.size = pd at *
  obtain ⟨a0, a1, a2, a3⟩ := Aa
  obtain ⟨b0, b1, b2, b3⟩ := Ab
  obtain ⟨s0, s1, s2, s3⟩ := As
  obtain ⟨t0, t1, t2, t3⟩ := At
  obtain ⟨d0, d1, d2, d3⟩ := Ad
  go_wp2_with fail
  refine (C1.out _).mono ?_
  rintro e w5 ⟨rfl, bb⟩
  have Aa := ((At3.mk a0 a1 a2 a3).alloc _).step bb
  have Ab := ((At3.mk b0 b1 b2 b3).alloc _).step bb
  have As := ((At3.mk s0 s1 s2 s3).alloc _).step bb
  have At := ((At3.mk t0 t1 t2 t3).alloc _).step bb
  have Ad := ((At3.mk d0 d1 d2 d3).alloc _).step bb
  clear a0 a1 a2 a3 b0 b1 b2 b3 s0 s1 s2 s3 t0 t1 t2 t3 d0 d1 d2 d3
  have Au := (at3_new w4 _ _ _ _).step bb
  have G := G.trans ((below_over bb).mono G.size)
  clear bb
  generalize w4.heap.size = pu at *
  obtain ⟨a0, a1, a2, a3⟩ := Aa
  obtain ⟨b0, b1, b2, b3⟩ := Ab
  obtain ⟨s0, s1, s2, s3⟩ := As
  obtain ⟨t0, t1, t2, t3⟩ := At
  obtain ⟨d0, d1, d2, d3⟩ := Ad
  obtain ⟨u0, u1, u2, u3⟩ := Au
  go_wp2_with fail
  refine (C2.out _).mono ?_
  rintro e w6 ⟨rfl, bb⟩
  have Aa := ((At3.mk a0 a1 a2 a3)).step bb
  have Ab := ((At3.mk b0 b1 b2 b3)).step bb
  have As := ((At3.mk s0 s1 s2 s3)).step bb
  have At := ((At3.mk t0 t1 t2 t3)).step bb
  have Ad := ((At3.mk d0 d1 d2 d3)).step bb
  have Au := ((At3.mk u0 u1 u2 u3)).step bb
  clear a0 a1 a2 a3 b0 b1 b2 b3 s0 s1 s2 s3 t0 t1 t2 t3 d0 d1 d2 d3 u0 u1 u2 u3
  have G := G.trans (bb.mono G.size)
  clear bb
  obtain ⟨a0, a1, a2, a3⟩ := Aa
  obtain ⟨b0, b1, b2, b3⟩ := Ab
  obtain ⟨s0, s1, s2, s3⟩ := As
  obtain ⟨t0, t1, t2, t3⟩ := At
  obtain ⟨d0, d1, d2, d3⟩ := Ad
  obtain ⟨u0, u1, u2, u3⟩ := Au
  go_wp2_with fail
  refine (awake_any _).mono ?_
  rintro e w7 ⟨rfl, bb⟩
  have Aa := ((At3.mk a0 a1 a2 a3)).step bb
  have Ab := ((At3.mk b0 b1 b2 b3)).step bb
  have As := ((At3.mk s0 s1 s2 s3)).step bb
  have At := ((At3.mk t0 t1 t2 t3)).step bb
  have Ad := ((At3.mk d0 d1 d2 d3)).step bb
  have Au := ((At3.mk u0 u1 u2 u3)).step bb
  clear a0 a1 a2 a3 b0 b1 b2 b3 s0 s1 s2 s3 t0 t1 t2 t3 d0 d1 d2 d3 u0 u1 u2 u3
  have G := G.trans (bb.mono G.size)
  clear bb
  obtain ⟨a0, a1, a2, a3⟩ := Aa
  obtain ⟨b0, b1, b2, b3⟩ := Ab
  obtain ⟨s0, s1, s2, s3⟩ := As
  obtain ⟨t0, t1, t2, t3⟩ := At
  obtain ⟨d0, d1, d2, d3⟩ := Ad
  obtain ⟨u0, u1, u2, u3⟩ := Au
  go_wp2_with fail
  refine (N1.out _).mono ?_
  rintro e w8 ⟨rfl, bb⟩
  have Aa := ((At3.mk a0 a1 a2 a3)).step bb
  clear a0 a1 a2 a3 b0 b1 b2 b3 s0 s1 s2 s3 t0 t1 t2 t3 d0 d1 d2 d3 u0 u1 u2 u3
  have G := G.trans (bb.mono G.size)
  clear bb
  obtain ⟨a0, a1, a2, a3⟩ := Aa
  go_wp2_with fail
  refine (N2.out _).mono ?_
  rintro e w9 ⟨rfl, bb⟩
  have Aa := ((At3.mk a0 a1 a2 a3).alloc _).step bb
  clear a0 a1 a2 a3
  have An := (at3_new w8 _ _ _ _).step bb
  have G := G.trans ((below_over bb).mono G.size)
  clear bb
  generalize w8.heap.size = pn at *
  obtain ⟨a0, a1, a2, a3⟩ := Aa
  obtain ⟨n0, n1, n2, n3⟩ := An
  go_wp2_with fail
  refine (G1.out _).mono ?_
  rintro e w10 ⟨rfl, bb⟩
  have Aa := ((At3.mk a0 a1 a2 a3).alloc _).step bb
  have An := ((At3.mk n0 n1 n2 n3).alloc _).step bb
  clear a0 a1 a2 a3 n0 n1 n2 n3
  have Am := (at3_new w9 _ _ _ _).step bb
  have G := G.trans ((below_over bb).mono G.size)
  clear bb
  generalize w9.heap.size = pm at *
  obtain ⟨a0, a1, a2, a3⟩ := Aa
  obtain ⟨n0, n1, n2, n3⟩ := An
  obtain ⟨m0, m1, m2, m3⟩ := Am
  go_wp2_with fail
  refine (G2.out _).mono ?_
  rintro e w11 ⟨rfl, bb⟩
  have Aa := ((At3.mk a0 a1 a2 a3)).step bb
  have An := ((At3.mk n0 n1 n2 n3)).step bb
  have Am := ((At3.mk m0 m1 m2 m3)).step bb
  clear a0 a1 a2 a3 n0 n1 n2 n3 m0 m1 m2 m3
  have G := G.trans (bb.mono G.size)
  clear bb
  obtain ⟨a0, a1, a2, a3⟩ := Aa
  obtain ⟨n0, n1, n2, n3⟩ := An
  obtain ⟨m0, m1, m2, m3⟩ := Am
  go_wp2_with fail
  refine wp_region_extq (by kernel_rfl) (by kernel_rfl) ?_
  iterate 36 (refine wpQuiet_step (fun K hK => ?_); go_simp; first | (refine hK _ ?_; clear hK K) | (apply Exists.intro; refine ⟨fun xq => ?_, hK _ ?_⟩; (first | (go_at_call 19; exact calls_ext (K1.out _)) | (go_at_call 20; exact calls_ext (K2.out _))); clear hK K))
  refine wpQuiet_nil ?_
  rintro w9 ⟨xq, rfl⟩
  go_wp2_with fail
  go_ret
  exact ⟨rfl, bel_ext G _⟩

end Go.Proofs.Ytghdkchbaadddaa
