/- The laws DecRounds, DecProducts, DecQuotients: their walks over what the calls answer. -/
import Derived.Test.YtghdkchbaadddaaQa
namespace Go.Proofs.Ytghdkchbaadddaa
open Go.RowKit
set_option linter.unusedVariables false
attribute [local go_sem] ext_cell ext_frozen ext_drew ext_of_drew ext_of_drewN ext_setCell ext_lt ext_lt1 ext_lt2 ext_lt3 lt_n2 lt_n3 lt_n4 lt_n5 lt_n6

set_option maxHeartbeats 4000000 in
set_option maxRecDepth 100000 in
theorem rounds_law (h l s t mode x0' x1' x2' e1 : Int) (w : World) (S1 : Hid (∀ w, Calls Try.prog 25 #[.agg #[.int .i64 h, .int .u64 l, .int .i64 s], .int .i64 t, .int .i64 mode] w fun e w' => e = .returned (.tuple #[.agg #[.int .i64 x0', .int .u64 x1', .int .i64 x2'], .int .i64 e1]) ∧ Below w.heap.size w w')) (S2 : Hid (∀ w, Calls Try.prog 26 #[.agg #[.int .i64 h, .int .u64 l, .int .i64 s], .int .i64 t, .int .i64 mode] w fun e w' => e = .returned (.tuple #[.agg #[.int .i64 x0', .int .u64 x1', .int .i64 x2'], .int .i64 e1]) ∧ Below w.heap.size w w')) :
    Calls Try.prog 5 #[.agg #[.int .i64 h, .int .u64 l, .int .i64 s], .int .i64 t, .int .i64 mode] w fun e w' => e = .returned (.bool true) ∧ Below w.heap.size w w' := by
  go_enter Try.func5, Try.ntmps5
  go_wp2_with fail
  refine (S1.out _).mono ?_
  rintro e w1 ⟨rfl, bb⟩
  have Aa := (at3_new w (.int .i64 h) (.int .u64 l) (.int .i64 s) 24).step bb
  have G : Below w.heap.size w w1 := (bel_alloc (Below.refl _ _) _).trans (bb.mono (by simp <;> omega))
  clear bb
  obtain ⟨a0, a1, a2, a3⟩ := Aa
  go_wp2_with fail
  refine (S2.out _).mono ?_
  rintro e w2 ⟨rfl, bb⟩
  clear a0 a1 a2 a3
  have Ap := (at3_new w1 _ _ _ _).step bb
  have G := G.trans ((below_over bb).mono G.size)
  clear bb
  generalize w1.heap.size = pp at *
  obtain ⟨p0, p1, p2, p3⟩ := Ap
  go_wp2_with fail
  refine (awake_any _).mono ?_
  rintro e w3 ⟨rfl, bb⟩
  have Ap := ((At3.mk p0 p1 p2 p3).alloc _).step bb
  clear p0 p1 p2 p3
  have Aq := (at3_new w2 _ _ _ _).step bb
  have G := G.trans ((below_over bb).mono G.size)
  clear bb
  generalize w2.heap.size = pq at *
  obtain ⟨p0, p1, p2, p3⟩ := Ap
  obtain ⟨q0, q1, q2, q3⟩ := Aq
  go_wp2_with fail
  go_ret
  exact ⟨rfl, G⟩

set_option maxHeartbeats 4000000 in
set_option maxRecDepth 100000 in
theorem products_law (ha la sa hb lb sb t mode x0' x1' x2' e1 : Int) (w : World) (S1 : Hid (∀ w, Calls Try.prog 27 #[.agg #[.int .i64 ha, .int .u64 la, .int .i64 sa], .agg #[.int .i64 hb, .int .u64 lb, .int .i64 sb], .int .i64 t, .int .i64 mode] w fun e w' => e = .returned (.tuple #[.agg #[.int .i64 x0', .int .u64 x1', .int .i64 x2'], .int .i64 e1]) ∧ Below w.heap.size w w')) (S2 : Hid (∀ w, Calls Try.prog 28 #[.agg #[.int .i64 ha, .int .u64 la, .int .i64 sa], .agg #[.int .i64 hb, .int .u64 lb, .int .i64 sb], .int .i64 t, .int .i64 mode] w fun e w' => e = .returned (.tuple #[.agg #[.int .i64 x0', .int .u64 x1', .int .i64 x2'], .int .i64 e1]) ∧ Below w.heap.size w w')) :
    Calls Try.prog 6 #[.agg #[.int .i64 ha, .int .u64 la, .int .i64 sa], .agg #[.int .i64 hb, .int .u64 lb, .int .i64 sb], .int .i64 t, .int .i64 mode] w fun e w' => e = .returned (.bool true) ∧ Below w.heap.size w w' := by
  go_enter Try.func6, Try.ntmps6
  go_wp2_with fail
  refine (S1.out _).mono ?_
  rintro e w1 ⟨rfl, bb⟩
  have Aa := ((at3_new w (.int .i64 ha) (.int .u64 la) (.int .i64 sa) 24).alloc (.cells #[.int .i64 hb, .int .u64 lb, .int .i64 sb] 24)).step bb
  have Ab := (at3_new (w.alloc (.cells #[.int .i64 ha, .int .u64 la, .int .i64 sa] 24)) (.int .i64 hb) (.int .u64 lb) (.int .i64 sb) 24).step bb
  have G : Below w.heap.size w w1 := (bel_alloc (bel_alloc (Below.refl _ _) _) _).trans (bb.mono (by simp <;> omega))
  clear bb
  rw [show (w.alloc (.cells #[.int .i64 ha, .int .u64 la, .int .i64 sa] 24)).heap.size = w.heap.size + 1 by simp] at Ab
  obtain ⟨a0, a1, a2, a3⟩ := Aa
  obtain ⟨b0, b1, b2, b3⟩ := Ab
  go_wp2_with fail
  refine (S2.out _).mono ?_
  rintro e w2 ⟨rfl, bb⟩
  clear a0 a1 a2 a3 b0 b1 b2 b3
  have Ap := (at3_new w1 _ _ _ _).step bb
  have G := G.trans ((below_over bb).mono G.size)
  clear bb
  generalize w1.heap.size = pp at *
  obtain ⟨p0, p1, p2, p3⟩ := Ap
  go_wp2_with fail
  refine (awake_any _).mono ?_
  rintro e w3 ⟨rfl, bb⟩
  have Ap := ((At3.mk p0 p1 p2 p3).alloc _).step bb
  clear p0 p1 p2 p3
  have Aq := (at3_new w2 _ _ _ _).step bb
  have G := G.trans ((below_over bb).mono G.size)
  clear bb
  generalize w2.heap.size = pq at *
  obtain ⟨p0, p1, p2, p3⟩ := Ap
  obtain ⟨q0, q1, q2, q3⟩ := Aq
  go_wp2_with fail
  go_ret
  exact ⟨rfl, G⟩

set_option maxHeartbeats 4000000 in
set_option maxRecDepth 100000 in
theorem quotients_law (ha la sa hb lb sb t mode x0' x1' x2' e1 : Int) (w : World) (S1 : Hid (∀ w, Calls Try.prog 29 #[.agg #[.int .i64 ha, .int .u64 la, .int .i64 sa], .agg #[.int .i64 hb, .int .u64 lb, .int .i64 sb], .int .i64 t, .int .i64 mode] w fun e w' => e = .returned (.tuple #[.agg #[.int .i64 x0', .int .u64 x1', .int .i64 x2'], .int .i64 e1]) ∧ Below w.heap.size w w')) (S2 : Hid (∀ w, Calls Try.prog 30 #[.agg #[.int .i64 ha, .int .u64 la, .int .i64 sa], .agg #[.int .i64 hb, .int .u64 lb, .int .i64 sb], .int .i64 t, .int .i64 mode] w fun e w' => e = .returned (.tuple #[.agg #[.int .i64 x0', .int .u64 x1', .int .i64 x2'], .int .i64 e1]) ∧ Below w.heap.size w w')) :
    Calls Try.prog 7 #[.agg #[.int .i64 ha, .int .u64 la, .int .i64 sa], .agg #[.int .i64 hb, .int .u64 lb, .int .i64 sb], .int .i64 t, .int .i64 mode] w fun e w' => e = .returned (.bool true) ∧ Below w.heap.size w w' := by
  go_enter Try.func7, Try.ntmps7
  go_wp2_with fail
  refine (S1.out _).mono ?_
  rintro e w1 ⟨rfl, bb⟩
  have Aa := ((at3_new w (.int .i64 ha) (.int .u64 la) (.int .i64 sa) 24).alloc (.cells #[.int .i64 hb, .int .u64 lb, .int .i64 sb] 24)).step bb
  have Ab := (at3_new (w.alloc (.cells #[.int .i64 ha, .int .u64 la, .int .i64 sa] 24)) (.int .i64 hb) (.int .u64 lb) (.int .i64 sb) 24).step bb
  have G : Below w.heap.size w w1 := (bel_alloc (bel_alloc (Below.refl _ _) _) _).trans (bb.mono (by simp <;> omega))
  clear bb
  rw [show (w.alloc (.cells #[.int .i64 ha, .int .u64 la, .int .i64 sa] 24)).heap.size = w.heap.size + 1 by simp] at Ab
  obtain ⟨a0, a1, a2, a3⟩ := Aa
  obtain ⟨b0, b1, b2, b3⟩ := Ab
  go_wp2_with fail
  refine (S2.out _).mono ?_
  rintro e w2 ⟨rfl, bb⟩
  clear a0 a1 a2 a3 b0 b1 b2 b3
  have Ap := (at3_new w1 _ _ _ _).step bb
  have G := G.trans ((below_over bb).mono G.size)
  clear bb
  generalize w1.heap.size = pp at *
  obtain ⟨p0, p1, p2, p3⟩ := Ap
  go_wp2_with fail
  refine (awake_any _).mono ?_
  rintro e w3 ⟨rfl, bb⟩
  have Ap := ((At3.mk p0 p1 p2 p3).alloc _).step bb
  clear p0 p1 p2 p3
  have Aq := (at3_new w2 _ _ _ _).step bb
  have G := G.trans ((below_over bb).mono G.size)
  clear bb
  generalize w2.heap.size = pq at *
  obtain ⟨p0, p1, p2, p3⟩ := Ap
  obtain ⟨q0, q1, q2, q3⟩ := Aq
  go_wp2_with fail
  go_ret
  exact ⟨rfl, G⟩

end Go.Proofs.Ytghdkchbaadddaa
