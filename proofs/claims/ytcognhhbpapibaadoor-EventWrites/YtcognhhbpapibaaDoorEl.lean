/- event: Same of events that are alike, and of events with two Ops. -/
import Derived.Test.YtcognhhbpapibaaDoorEk
import Derived.DeepKeys
namespace Go.Proofs.YtcognhhbpapibaaDoor
open Go.RowKit
set_option linter.unusedVariables false

theorem eq8 (w : World) (n0 n1 n2 n3 n4 n5 n6 n7 : Int) : (Op.equalIn 10000 23 (.agg #[.int .i64 n0, .int .i64 n1, .int .i64 n2, .int .i64 n3, .int .i64 n4, .int .i64 n5, .int .i64 n6, .int .i64 n7]) (.agg #[.int .i64 n0, .int .i64 n1, .int .i64 n2, .int .i64 n3, .int .i64 n4, .int .i64 n5, .int .i64 n6, .int .i64 n7])).run Tryd.prog w = .ok true w := by
  obtain ⟨i, hi⟩ : ∃ i, Tryd.prog.info? 2 = some i := Option.isSome_iff_exists.1 (by kernel_rfl)
  rw [show (10000 : Nat) = 9999 + 1 from rfl, run_equalIn_array (P := Tryd.prog) w 9999 _ _ Tryd.underlying23 hi]
  have hc : Tryd.prog.cellsOf 2 = 1 := by kernel_rfl
  rw [hc]
  simp [Op.eqItems, List.range, List.range.loop, go_sem]
set_option maxHeartbeats 1000000 in
set_option maxRecDepth 100000 in
theorem esame_true (x : E8) (tv tu : Value) (w : World) (hx : x.ok) (h : Tr w tv x.ts) (h2 : Tr w tu x.ts) :
    Calls Tryd.prog 21 #[.agg (x.cells tv).toArray, .agg (x.cells tu).toArray] w fun e w' => e = .returned (.bool true) ∧ Below w.heap.size w w' := by
  have A := (va_new w (x.cells tv) 26).alloc (.cells (x.cells tu).toArray 26)
  have B := va_new (w.alloc (.cells (x.cells tv).toArray 26)) (x.cells tu) 26
  rw [World.size_alloc] at B
  have D := ((Below.refl w.heap.size w).alloc (Nat.le_refl _) (.cells (x.cells tv).toArray 26)).alloc (by simp) (.cells (x.cells tu).toArray 26)
  have H1 := (show Hid _ from h.step D)
  have H2 := (show Hid _ from h2.step D)
  have HD := (show Hid _ from D)
  have p0 := A.cell 0 (E8.c0 _ _)
  have q0 := B.cell 0 (E8.c0 _ _)
  have p1 := A.cell 1 (E8.c1 _ _)
  have q1 := B.cell 1 (E8.c1 _ _)
  have p10 := A.cell 10 (E8.ctv hx _)
  have q10 := B.cell 10 (E8.ctv hx _)
  obtain ⟨ta, tn, tc, rfl⟩ : ∃ a n c, tv = .slice a n c := by obtain ⟨_, a, c, e, _⟩ := h; exact ⟨a, _, c, e⟩
  obtain ⟨ua, un, uc, rfl⟩ : ∃ a n c, tu = .slice a n c := by obtain ⟨_, a, c, e, _⟩ := h2; exact ⟨a, _, c, e⟩
  have a0 := A.cell 2 (E8.cn hx _ 0 (by omega))
  have b0 := B.cell 2 (E8.cn hx _ 0 (by omega))
  have a1 := A.cell 3 (E8.cn hx _ 1 (by omega))
  have b1 := B.cell 3 (E8.cn hx _ 1 (by omega))
  have a2 := A.cell 4 (E8.cn hx _ 2 (by omega))
  have b2 := B.cell 4 (E8.cn hx _ 2 (by omega))
  have a3 := A.cell 5 (E8.cn hx _ 3 (by omega))
  have b3 := B.cell 5 (E8.cn hx _ 3 (by omega))
  have a4 := A.cell 6 (E8.cn hx _ 4 (by omega))
  have b4 := B.cell 6 (E8.cn hx _ 4 (by omega))
  have a5 := A.cell 7 (E8.cn hx _ 5 (by omega))
  have b5 := B.cell 7 (E8.cn hx _ 5 (by omega))
  have a6 := A.cell 8 (E8.cn hx _ 6 (by omega))
  have b6 := B.cell 8 (E8.cn hx _ 6 (by omega))
  have a7 := A.cell 9 (E8.cn hx _ 7 (by omega))
  have b7 := B.cell 9 (E8.cn hx _ 7 (by omega))
  generalize x.ns.getD 0 0 = n0 at *
  generalize x.ns.getD 1 0 = n1 at *
  generalize x.ns.getD 2 0 = n2 at *
  generalize x.ns.getD 3 0 = n3 at *
  generalize x.ns.getD 4 0 = n4 at *
  generalize x.ns.getD 5 0 = n5 at *
  generalize x.ns.getD 6 0 = n6 at *
  generalize x.ns.getD 7 0 = n7 at *
  have e8 := fun w => eq8 w n0 n1 n2 n3 n4 n5 n6 n7
  clear A B D h h2
  go_enter Tryd.func21, Tryd.ntmps21
  go_wp2_with (go_at_call 31; refine (equal_true _ _ x.ts _ H1.out H2.out).mono ?_; rintro e w1 ⟨rfl, b1⟩)
  go_ret
  exact ⟨rfl, HD.out.trans (b1.mono HD.out.size)⟩
end Go.Proofs.YtcognhhbpapibaaDoor
