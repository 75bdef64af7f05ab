/- The law DecNegs: its walk. -/
import Derived.Test.YtponhogmbbjnbaaQa
import Derived.Test.YtponhogmbbjnbaaPg
namespace Go.Proofs.Ytponhogmbbjnbaa
open Go.RowKit
set_option linter.unusedVariables false
attribute [local go_sem] ext_cell ext_frozen ext_drew ext_of_drew ext_of_drewN ext_setCell ext_lt ext_lt1 ext_lt2 ext_lt3 lt_n2 lt_n3 lt_n4 lt_n5 lt_n6

set_option maxHeartbeats 2000000 in
set_option maxRecDepth 100000 in
theorem negs_bad (ha la sa hb lb sb : Int) (w : World) (hbad : Bad hb lb sb) :
    Calls Try.prog 6 #[.agg #[.int .i64 ha, .int .u64 la, .int .i64 sa], .agg #[.int .i64 hb, .int .u64 lb, .int .i64 sb]] w fun e w' => e = .returned (.bool true) ∧ Below w.heap.size w w' := by
  have HB : Hid (Bad hb lb sb) := hbad
  clear hbad
  go_enter Try.func6, Try.ntmps6
  go_wp2_with fail
  refine (awake_any _).mono ?_
  rintro e w1 ⟨rfl, bb⟩
  have Aa := ((at3_new w (.int .i64 ha) (.int .u64 la) (.int .i64 sa) 24).alloc (.cells #[.int .i64 hb, .int .u64 lb, .int .i64 sb] 24)).step bb
  have Ab := (at3_new (w.alloc (.cells #[.int .i64 ha, .int .u64 la, .int .i64 sa] 24)) (.int .i64 hb) (.int .u64 lb) (.int .i64 sb) 24).step bb
  have G : Below w.heap.size w w1 := (bel_alloc (bel_alloc (Below.refl _ _) _) _).trans (bb.mono (by simp <;> omega))
  clear bb
  rw [show (w.alloc (.cells #[.int .i64 ha, .int .u64 la, .int .i64 sa] 24)).heap.size = w.heap.size + 1 by simp] at Ab
  obtain ⟨a0, a1, a2, a3⟩ := Aa
  obtain ⟨b0, b1, b2, b3⟩ := Ab
  go_wp2_with fail
  refine (neg_bad hb lb sb _ HB.out).mono ?_
  rintro e w2 ⟨rfl, bb⟩
  have G := G.trans (bb.mono G.size)
  clear a0 a1 a2 a3 b0 b1 b2 b3 bb
  go_wp2_with fail
  refine bodyPost_ret (v := .bool true) (by simp [results, Try.results6, go_sem]) rfl ⟨rfl, ?_⟩
  exact bel_alloc G _
set_option maxHeartbeats 4000000 in
set_option maxRecDepth 100000 in
theorem negs_some (ha la sa cb x0' x1' x2' j : Int) (sb : Nat) (w : World) (ib : InR cb) (hsb : (sb : Int) ≤ 18)
    (S : Hid (∀ w, Calls Try.prog 12 #[.agg #[.int .i64 ha, .int .u64 la, .int .i64 sa], .agg #[.int .i64 (dhi cb), .int .u64 (dlo cb), .int .i64 sb]] w
      fun e w' => e = .returned (.tuple #[.agg #[.int .i64 x0', .int .u64 x1', .int .i64 x2'], .int .i64 j]) ∧ Below w.heap.size w w'))
    (T : Hid (∀ w, Calls Try.prog 18 #[.agg #[.int .i64 ha, .int .u64 la, .int .i64 sa], .agg #[.int .i64 (dhi (-cb)), .int .u64 (dlo (-cb)), .int .i64 sb]] w
      fun e w' => e = .returned (.tuple #[.agg #[.int .i64 x0', .int .u64 x1', .int .i64 x2'], .int .i64 j]) ∧ Below w.heap.size w w')) :
    Calls Try.prog 6 #[.agg #[.int .i64 ha, .int .u64 la, .int .i64 sa], .agg #[.int .i64 (dhi cb), .int .u64 (dlo cb), .int .i64 sb]] w fun e w' => e = .returned (.bool true) ∧ Below w.heap.size w w' := by
  have sg := sgn_bd cb
  go_enter Try.func6, Try.ntmps6
  go_wp2_with fail
  refine (awake_any _).mono ?_
  rintro e w1 ⟨rfl, bb⟩
  have Aa := ((at3_new w (.int .i64 ha) (.int .u64 la) (.int .i64 sa) 24).alloc (.cells #[.int .i64 (dhi cb), .int .u64 (dlo cb), .int .i64 sb] 24)).step bb
  have Ab := (at3_new (w.alloc (.cells #[.int .i64 ha, .int .u64 la, .int .i64 sa] 24)) (.int .i64 (dhi cb)) (.int .u64 (dlo cb)) (.int .i64 sb) 24).step bb
  have G : Below w.heap.size w w1 := (bel_alloc (bel_alloc (Below.refl _ _) _) _).trans (bb.mono (by simp <;> omega))
  clear bb
  rw [show (w.alloc (.cells #[.int .i64 ha, .int .u64 la, .int .i64 sa] 24)).heap.size = w.heap.size + 1 by simp] at Ab
  obtain ⟨a0, a1, a2, a3⟩ := Aa
  obtain ⟨b0, b1, b2, b3⟩ := Ab
  go_wp2_with fail
  refine (neg_ok cb _ _ sb _ (IsD.self _) ib hsb).mono ?_
  rintro e w2 ⟨rfl, bb⟩
  have Aa := ((At3.mk a0 a1 a2 a3)).step bb
  have Ab := ((At3.mk b0 b1 b2 b3)).step bb
  clear a0 a1 a2 a3 b0 b1 b2 b3
  have G := G.trans (bb.mono G.size)
  clear bb
  obtain ⟨a0, a1, a2, a3⟩ := Aa
  obtain ⟨b0, b1, b2, b3⟩ := Ab
  go_wp2_with fail
  refine (neg_back cb sb _ ib hsb).mono ?_
  rintro e w3 ⟨rfl, bb⟩
  have Aa := ((At3.mk a0 a1 a2 a3).alloc _).step bb
  have Ab := ((At3.mk b0 b1 b2 b3).alloc _).step bb
  clear a0 a1 a2 a3 b0 b1 b2 b3
  have An := (at3_new w2 _ _ _ _).step bb
  have G := G.trans ((below_over bb).mono G.size)
  clear bb
  generalize w2.heap.size = pn at *
  obtain ⟨a0, a1, a2, a3⟩ := Aa
  obtain ⟨b0, b1, b2, b3⟩ := Ab
  obtain ⟨n0, n1, n2, n3⟩ := An
  go_wp2_with fail
  refine (add_opp cb sb _ ib hsb).mono ?_
  rintro e w4 ⟨rfl, bb⟩
  have Aa := ((At3.mk a0 a1 a2 a3).alloc _).step bb
  have Ab := ((At3.mk b0 b1 b2 b3).alloc _).step bb
  have An := ((At3.mk n0 n1 n2 n3).alloc _).step bb
  clear a0 a1 a2 a3 b0 b1 b2 b3 n0 n1 n2 n3
  have Am := (at3_new w3 _ _ _ _).step bb
  have G := G.trans ((below_over bb).mono G.size)
  clear bb
  generalize w3.heap.size = pm at *
  obtain ⟨a0, a1, a2, a3⟩ := Aa
  obtain ⟨b0, b1, b2, b3⟩ := Ab
  obtain ⟨n0, n1, n2, n3⟩ := An
  obtain ⟨m0, m1, m2, m3⟩ := Am
  go_wp2_with fail
  refine (sign_ok cb _ _ sb _ (IsD.self _) ib hsb).mono ?_
  rintro e w5 ⟨rfl, bb⟩
  have Aa := ((At3.mk a0 a1 a2 a3).alloc _).step bb
  have Ab := ((At3.mk b0 b1 b2 b3).alloc _).step bb
  have An := ((At3.mk n0 n1 n2 n3).alloc _).step bb
  have Am := ((At3.mk m0 m1 m2 m3).alloc _).step bb
  clear a0 a1 a2 a3 b0 b1 b2 b3 n0 n1 n2 n3 m0 m1 m2 m3
  have Az := (at3_new w4 _ _ _ _).step bb
  have G := G.trans ((below_over bb).mono G.size)
  clear bb
  generalize w4.heap.size = pz at *
  obtain ⟨a0, a1, a2, a3⟩ := Aa
  obtain ⟨b0, b1, b2, b3⟩ := Ab
  obtain ⟨n0, n1, n2, n3⟩ := An
  obtain ⟨m0, m1, m2, m3⟩ := Am
  obtain ⟨z0, z1, z2, z3⟩ := Az
  go_wp2_with fail
  refine (sign_opp cb sb _ ib hsb).mono ?_
  rintro e w6 ⟨rfl, bb⟩
  have Aa := ((At3.mk a0 a1 a2 a3)).step bb
  have Ab := ((At3.mk b0 b1 b2 b3)).step bb
  have An := ((At3.mk n0 n1 n2 n3)).step bb
  have Am := ((At3.mk m0 m1 m2 m3)).step bb
  have Az := ((At3.mk z0 z1 z2 z3)).step bb
  clear a0 a1 a2 a3 b0 b1 b2 b3 n0 n1 n2 n3 m0 m1 m2 m3 z0 z1 z2 z3
  have G := G.trans (bb.mono G.size)
  clear bb
  obtain ⟨a0, a1, a2, a3⟩ := Aa
  obtain ⟨b0, b1, b2, b3⟩ := Ab
  obtain ⟨n0, n1, n2, n3⟩ := An
  obtain ⟨m0, m1, m2, m3⟩ := Am
  obtain ⟨z0, z1, z2, z3⟩ := Az
  go_wp2_with fail
  refine (S.out _).mono ?_
  rintro e w7 ⟨rfl, bb⟩
  have Aa := ((At3.mk a0 a1 a2 a3)).step bb
  have Ab := ((At3.mk b0 b1 b2 b3)).step bb
  have An := ((At3.mk n0 n1 n2 n3)).step bb
  have Am := ((At3.mk m0 m1 m2 m3)).step bb
  have Az := ((At3.mk z0 z1 z2 z3)).step bb
  clear a0 a1 a2 a3 b0 b1 b2 b3 n0 n1 n2 n3 m0 m1 m2 m3 z0 z1 z2 z3
  have G := G.trans (bb.mono G.size)
  clear bb
  obtain ⟨a0, a1, a2, a3⟩ := Aa
  obtain ⟨b0, b1, b2, b3⟩ := Ab
  obtain ⟨n0, n1, n2, n3⟩ := An
  obtain ⟨m0, m1, m2, m3⟩ := Am
  obtain ⟨z0, z1, z2, z3⟩ := Az
  go_wp2_with fail
  refine (T.out _).mono ?_
  rintro e w8 ⟨rfl, bb⟩
  have Aa := ((At3.mk a0 a1 a2 a3).alloc _).step bb
  have Ab := ((At3.mk b0 b1 b2 b3).alloc _).step bb
  have An := ((At3.mk n0 n1 n2 n3).alloc _).step bb
  have Am := ((At3.mk m0 m1 m2 m3).alloc _).step bb
  have Az := ((At3.mk z0 z1 z2 z3).alloc _).step bb
  clear a0 a1 a2 a3 b0 b1 b2 b3 n0 n1 n2 n3 m0 m1 m2 m3 z0 z1 z2 z3
  have Ax := (at3_new w7 _ _ _ _).step bb
  have G := G.trans ((below_over bb).mono G.size)
  clear bb
  generalize w7.heap.size = px at *
  obtain ⟨a0, a1, a2, a3⟩ := Aa
  obtain ⟨b0, b1, b2, b3⟩ := Ab
  obtain ⟨n0, n1, n2, n3⟩ := An
  obtain ⟨m0, m1, m2, m3⟩ := Am
  obtain ⟨z0, z1, z2, z3⟩ := Az
  obtain ⟨x0, x1, x2, x3⟩ := Ax
  go_wp2_with fail
  refine bodyPost_ret (v := .bool true) (by simp [results, Try.results6, go_sem]) rfl ⟨rfl, ?_⟩
  exact bel_alloc G _
theorem negs_walk (ha la sa hb lb sb : Int) (wha : (Lit.int .i64 ha).wf = true) (wla : (Lit.int .u64 la).wf = true) (whb : (Lit.int .i64 hb).wf = true) (wlb : (Lit.int .u64 lb).wf = true) (w : World) :
    Calls Try.prog 6 #[.agg #[.int .i64 ha, .int .u64 la, .int .i64 sa], .agg #[.int .i64 hb, .int .u64 lb, .int .i64 sb]] w fun e w' => e = .returned (.bool true) ∧ Below w.heap.size w w' := by
  rcases form_cases hb lb sb whb wlb with hbad | ⟨cb, n, rfl, rfl, rfl, ib, hn⟩
  · exact negs_bad ha la sa hb lb sb w hbad
  · obtain ⟨x0, x1, x2, j, S, T⟩ := sub_add ha la sa cb n wha wla ib hn
    exact negs_some ha la sa cb x0 x1 x2 j n w ib hn S T
end Go.Proofs.Ytponhogmbbjnbaa
