/- prod: the document's Same of versions that are alike; of, back, plain; Clone, copied. -/
import Derived.Test.YtgbphbeafomabaaGe
namespace Go.Proofs.Ytgbphbeafomabaa
open Go.RowKit
set_option linter.unusedVariables false

theorem pv_one (x : PV) {tv : Value} (h : ∃ a n c, tv = .slice a n c) : ∀ v ∈ x.cells tv, v.oneCell' = true := by
  obtain ⟨a, n, c, rfl⟩ := h
  intro v hv
  simp only [PV.cells, List.mem_cons, List.not_mem_nil, or_false] at hv
  rcases hv with rfl | rfl | rfl | rfl | rfl | rfl | rfl | rfl | rfl <;> rfl

set_option maxHeartbeats 1000000 in
set_option maxRecDepth 100000 in
theorem rsame_true (x : PV) (tv tu : Value) (w : World) (h : Tr w tv x.ts) (h2 : Tr w tu x.ts) :
    Calls Try.prog 14 #[.agg (x.cells tv).toArray, .agg (x.cells tu).toArray] w fun e w' => e = .returned (.bool true) ∧ Below w.heap.size w w' := by
  have A := (va_new w (x.cells tv) 24).alloc (.cells (x.cells tu).toArray 24)
  have B := va_new (w.alloc (.cells (x.cells tv).toArray 24)) (x.cells tu) 24
  rw [World.size_alloc] at B
  have D := ((Below.refl w.heap.size w).alloc (Nat.le_refl _) (.cells (x.cells tv).toArray 24)).alloc (by simp) (.cells (x.cells tu).toArray 24)
  have H1 := (show Hid _ from h.step D)
  have H2 := (show Hid _ from h2.step D)
  have HD := (show Hid _ from D)
  obtain ⟨tn, htn⟩ : ∃ tn, tn = x.ts.length := ⟨_, rfl⟩
  obtain ⟨ta, tc, rfl, g1, g2⟩ : ∃ a c, tv = .slice a tn c ∧ tn ≤ c ∧ c ≤ 9223372036854775807 := by obtain ⟨_, a, c, e, h1, h2, _⟩ := h; exact ⟨a, c, by rw [htn]; exact e, by rw [htn]; exact h1, h2⟩
  obtain ⟨ua, uc, rfl, g3, g4⟩ : ∃ a c, tu = .slice a tn c ∧ tn ≤ c ∧ c ≤ 9223372036854775807 := by obtain ⟨_, a, c, e, h1, h2, _⟩ := h2; exact ⟨a, c, by rw [htn]; exact e, by rw [htn]; exact h1, h2⟩
  clear htn
  have p0 := A.cell 0 (v := .int .i64 x.id) rfl
  have q0 := B.cell 0 (v := .int .i64 x.id) rfl
  have p1 := A.cell 1 (v := .int .i64 x.kind) rfl
  have q1 := B.cell 1 (v := .int .i64 x.kind) rfl
  have p2 := A.cell 2 (v := .int .i64 x.cur) rfl
  have q2 := B.cell 2 (v := .int .i64 x.cur) rfl
  have p3 := A.cell 3 (v := .int .i64 x.day) rfl
  have q3 := B.cell 3 (v := .int .i64 x.day) rfl
  have p4 := A.cell 4 (v := .int .i64 x.basis) rfl
  have q4 := B.cell 4 (v := .int .i64 x.basis) rfl
  have p5 := A.cell 5 (v := .int .i64 x.mode) rfl
  have q5 := B.cell 5 (v := .int .i64 x.mode) rfl
  have p6 := A.cell 6 (v := .int .i64 x.fee) rfl
  have q6 := B.cell 6 (v := .int .i64 x.fee) rfl
  have p7 := A.cell 7 (v := .int .i64 x.lim) rfl
  have q7 := B.cell 7 (v := .int .i64 x.lim) rfl
  have p8 := A.cell 8 (v := .slice ta tn tc) rfl
  have q8 := B.cell 8 (v := .slice ua tn uc) rfl
  clear A B D h h2
  go_enter Try.func14, Try.ntmps14
  go_wp2_with fail
  generalize (w.alloc (.cells (x.cells (.slice ta tn tc)).toArray 24)).alloc (.cells (x.cells (.slice ua tn uc)).toArray 24) = w1 at *
  go_loopw [72] (fun i wr => ∃ k : Nat, k ≤ tn ∧ i = .int .i64 k ∧ Below w1.heap.size w1 wr) (fun i _ => tn - (intOf i).toNat)
  case atStart => exact ⟨0, by omega, rfl, Below.refl _ _⟩
  case round =>
    obtain ⟨k, hk, rfl, hbel⟩ := hrel
    have HB := (show Hid _ from hbel)
    clear hbel
    by_cases hkn : k = tn
    · subst hkn
      go_wp2_with fail
      go_ret
      exact ⟨rfl, HD.out.trans (HB.out.mono HD.out.size)⟩
    have hk' : k < tn := by omega
    obtain ⟨b, off, rfl, z1, z2⟩ := (H1.out.step HB.out).cells k hk'
    obtain ⟨b', off', rfl, z3, z4⟩ := (H2.out.step HB.out).cells k hk'
    generalize tf x.ts k = f at *
    generalize tr x.ts k = g at *
    have p8' := (HB.out.cell (p := ⟨w.heap.size, 8, none⟩) (World.block_lt_of_cell? w1 _ p8)).trans p8
    have q8' := (HB.out.cell (p := ⟨w.heap.size + 1, 8, none⟩) (World.block_lt_of_cell? w1 _ q8)).trans q8
    have d1 : (0 : Int) ≤ (k : Int) := by omega
    have d2 : (k : Int) < (tn : Int) := by omega
    go_wp2_with fail
    go_quiet (fail)
    go_wp2_with fail
    exact ⟨⟨k + 1, by omega, by go_num, bel_drewN HB.out _⟩, by simp [intOf]; omega⟩
set_option maxHeartbeats 1000000 in
set_option maxRecDepth 100000 in
theorem back_ok (x : PV) (tv : Value) (w : World) (h : ∃ a n c, tv = .slice a n c) :
    Calls Try.prog 15 #[.agg (x.cells tv).toArray] w fun e w' => e = .returned (.agg (x.cells tv).toArray) ∧ Below w.heap.size w w' := by
  obtain ⟨ta, tn, tc, rfl⟩ := h
  have V := (va_new w (x.cells (.slice ta tn tc)) 25).alloc (.cells #[.int .i64 0, .int .i64 0, .int .i64 0, .int .i64 0, .int .i64 0, .int .i64 0, .int .i64 0, .int .i64 0, .slice none 0 0] 24)
  have U := va_new (w.alloc (.cells (x.cells (.slice ta tn tc)).toArray 25)) [.int .i64 0, .int .i64 0, .int .i64 0, .int .i64 0, .int .i64 0, .int .i64 0, .int .i64 0, .int .i64 0, .slice none 0 0] 24
  have HD := (show Hid _ from ((Below.refl w.heap.size w).alloc (Nat.le_refl _) (.cells (x.cells (.slice ta tn tc)).toArray 25)).alloc (by simp) (.cells #[.int .i64 0, .int .i64 0, .int .i64 0, .int .i64 0, .int .i64 0, .int .i64 0, .int .i64 0, .int .i64 0, .slice none 0 0] 24))
  rw [World.size_alloc] at U
  have HU := (show Hid _ from U)
  have p0 := V.cell 0 (v := .int .i64 x.id) rfl
  have p1 := V.cell 1 (v := .int .i64 x.kind) rfl
  have p2 := V.cell 2 (v := .int .i64 x.cur) rfl
  have p3 := V.cell 3 (v := .int .i64 x.day) rfl
  have p4 := V.cell 4 (v := .int .i64 x.basis) rfl
  have p5 := V.cell 5 (v := .int .i64 x.mode) rfl
  have p6 := V.cell 6 (v := .int .i64 x.fee) rfl
  have p7 := V.cell 7 (v := .int .i64 x.lim) rfl
  have p8 := V.cell 8 (v := .slice ta tn tc) rfl
  clear V U
  go_enter Try.func15, Try.ntmps15
  go_wp2_with (refine stA rfl 24 _ _ rfl (w.heap.size + 1) (by rfl) _ (x.cells (.slice ta tn tc)) (by rfl) 24 HU.out infoR rfl (pv_one x ⟨_, _, _, rfl⟩) ?_; intro w3 V3 U3)
  refine bodyPost_ret (v := .agg (x.cells (.slice ta tn tc)).toArray) ?_ rfl ⟨rfl, U3.bel HD.out (by omega)⟩
  have hld := run_loadVar_row (P := Try.prog) w3 (w.heap.size + 1) 24 24 _ (0, 0) _ V3.blk Try.underlying24 rfl infoR
  simp [results, Try.results15, asAddr, hld, Act.put]
end Go.Proofs.Ytgbphbeafomabaa
