/- event: Same of two Ops; the document's Same of events that are alike; awake. -/
import Derived.Test.YtcognhhbpapibaaDoorEl
namespace Go.Proofs.YtcognhhbpapibaaDoor
open Go.RowKit
set_option linter.unusedVariables false

set_option maxHeartbeats 1000000 in
set_option maxRecDepth 100000 in
theorem esame_op (x y : E8) (tv tu : Value) (w : World) (hx : x.op ≤ 255) (hy : y.op ≤ 255) (hne : x.op ≠ y.op) :
    Calls Tryd.prog 21 #[.agg (x.cells tv).toArray, .agg (y.cells tu).toArray] w fun e w' => e = .returned (.bool false) ∧ Below w.heap.size w w' := by
  have A := (va_new w (x.cells tv) 26).alloc (.cells (y.cells tu).toArray 26)
  have B := va_new (w.alloc (.cells (x.cells tv).toArray 26)) (y.cells tu) 26
  rw [World.size_alloc] at B
  have HD := (show Hid _ from ((Below.refl w.heap.size w).alloc (Nat.le_refl _) (.cells (x.cells tv).toArray 26)).alloc (by simp) (.cells (y.cells tu).toArray 26))
  have p0 := A.cell 0 (E8.c0 _ _)
  have q0 := B.cell 0 (E8.c0 _ _)
  have n1 : ¬ ((x.op : Int) = (y.op : Int)) := by omega
  have n2 : ((x.op : Int) == (y.op : Int)) = false := by simpa using n1
  clear A B
  go_enter Tryd.func21, Tryd.ntmps21
  go_wp2_with fail
  go_ret
  exact ⟨rfl, HD.out⟩
set_option maxHeartbeats 1000000 in
set_option maxRecDepth 100000 in
theorem rsame_true (x : E8) (tv tu : Value) (w : World) (hx : x.ok) (h : Tr w tv x.ts) (h2 : Tr w tu x.ts) :
    Calls Tryd.prog 16 #[.agg (x.cells tv).toArray, .agg (x.cells tu).toArray] w fun e w' => e = .returned (.bool true) ∧ Below w.heap.size w w' := by
  have A := (va_new w (x.cells tv) 26).alloc (.cells (x.cells tu).toArray 26)
  have B := va_new (w.alloc (.cells (x.cells tv).toArray 26)) (x.cells tu) 26
  rw [World.size_alloc] at B
  have D := ((Below.refl w.heap.size w).alloc (Nat.le_refl _) (.cells (x.cells tv).toArray 26)).alloc (by simp) (.cells (x.cells tu).toArray 26)
  have H1 := (show Hid _ from h.step D)
  have H2 := (show Hid _ from h2.step D)
  have HD := (show Hid _ from D)
  have p0 := A.cell 0 (E8.c0 _ _)
  have q0 := B.cell 0 (E8.c0 _ _)
  have p1 := A.cell 1 (E8.c1 _ _)
  have q1 := B.cell 1 (E8.c1 _ _)
  have p10 := A.cell 10 (E8.ctv hx _)
  have q10 := B.cell 10 (E8.ctv hx _)
  obtain ⟨tn, htn⟩ : ∃ tn, tn = x.ts.length := ⟨_, rfl⟩
  obtain ⟨ta, tc, rfl, g1, g2⟩ : ∃ a c, tv = .slice a tn c ∧ tn ≤ c ∧ c ≤ 9223372036854775807 := by obtain ⟨_, a, c, e, h1, h2, _⟩ := h; exact ⟨a, c, by rw [htn]; exact e, by rw [htn]; exact h1, h2⟩
  obtain ⟨ua, uc, rfl, g3, g4⟩ : ∃ a c, tu = .slice a tn c ∧ tn ≤ c ∧ c ≤ 9223372036854775807 := by obtain ⟨_, a, c, e, h1, h2, _⟩ := h2; exact ⟨a, c, by rw [htn]; exact e, by rw [htn]; exact h1, h2⟩
  clear htn
  have a0 := A.cell 2 (E8.cn hx _ 0 (by omega))
  have b0 := B.cell 2 (E8.cn hx _ 0 (by omega))
  have a1 := A.cell 3 (E8.cn hx _ 1 (by omega))
  have b1 := B.cell 3 (E8.cn hx _ 1 (by omega))
  have a2 := A.cell 4 (E8.cn hx _ 2 (by omega))
  have b2 := B.cell 4 (E8.cn hx _ 2 (by omega))
  have a3 := A.cell 5 (E8.cn hx _ 3 (by omega))
  have b3 := B.cell 5 (E8.cn hx _ 3 (by omega))
  have a4 := A.cell 6 (E8.cn hx _ 4 (by omega))
  have b4 := B.cell 6 (E8.cn hx _ 4 (by omega))
  have a5 := A.cell 7 (E8.cn hx _ 5 (by omega))
  have b5 := B.cell 7 (E8.cn hx _ 5 (by omega))
  have a6 := A.cell 8 (E8.cn hx _ 6 (by omega))
  have b6 := B.cell 8 (E8.cn hx _ 6 (by omega))
  have a7 := A.cell 9 (E8.cn hx _ 7 (by omega))
  have b7 := B.cell 9 (E8.cn hx _ 7 (by omega))
  generalize x.ns.getD 0 0 = n0 at *
  generalize x.ns.getD 1 0 = n1 at *
  generalize x.ns.getD 2 0 = n2 at *
  generalize x.ns.getD 3 0 = n3 at *
  generalize x.ns.getD 4 0 = n4 at *
  generalize x.ns.getD 5 0 = n5 at *
  generalize x.ns.getD 6 0 = n6 at *
  generalize x.ns.getD 7 0 = n7 at *
  have e8 := fun w => eq8 w n0 n1 n2 n3 n4 n5 n6 n7
  clear A B D h h2
  go_enter Tryd.func16, Tryd.ntmps16
  go_wp2_with fail
  generalize (w.alloc (.cells (x.cells (.slice ta tn tc)).toArray 26)).alloc (.cells (x.cells (.slice ua tn uc)).toArray 26) = w1 at *
  go_loopw [37] (fun i wr => ∃ k : Nat, k ≤ tn ∧ i = .int .i64 k ∧ Below w1.heap.size w1 wr) (fun i _ => tn - (intOf i).toNat)
  case atStart => exact ⟨0, by omega, rfl, Below.refl _ _⟩
  case round =>
    obtain ⟨k, hk, rfl, hbel⟩ := hrel
    have HB := (show Hid _ from hbel)
    clear hbel
    by_cases hkn : k = tn
    · subst hkn
      go_wp2_with fail
      go_ret
      exact ⟨rfl, HD.out.trans (HB.out.mono HD.out.size)⟩
    have hk' : k < tn := by omega
    obtain ⟨b, off, rfl, hb, z1, z2⟩ := (H1.out.step HB.out).at k hk'
    obtain ⟨b', off', rfl, hb', z3, z4⟩ := (H2.out.step HB.out).at k hk'
    generalize (x.ts.getD k (0, 0)).1 = f at *
    generalize (x.ts.getD k (0, 0)).2 = g at *
    rw [Nat.mul_comm 2 k] at z1 z2 z3 z4
    have p10' := (HB.out.cell (p := ⟨w.heap.size, 10, none⟩) (World.block_lt_of_cell? w1 _ p10)).trans p10
    have q10' := (HB.out.cell (p := ⟨w.heap.size + 1, 10, none⟩) (World.block_lt_of_cell? w1 _ q10)).trans q10
    have d1 : (0 : Int) ≤ (k : Int) := by omega
    have d2 : (k : Int) < (tn : Int) := by omega
    go_wp2_with fail
    go_quiet (fail)
    go_wp2_with fail
    exact ⟨⟨k + 1, by omega, by go_num, bel_drewN HB.out _⟩, by simp [intOf]; omega⟩
end Go.Proofs.YtcognhhbpapibaaDoor
