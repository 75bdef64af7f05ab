/- The contracts of Of and Mul (package dec). -/
import Derived.Test.YtkndnpkpdchbiaaDoorPe
namespace Go.Proofs.YtkndnpkpdchbiaaDoor
open Go.RowKit
set_option linter.unusedVariables false
attribute [local go_sem] ext_cell ext_frozen ext_drew ext_of_drew ext_of_drewN ext_setCell ext_lt ext_lt1 ext_lt2 ext_lt3 lt_n2 lt_n3 lt_n4 lt_n5 lt_n6 ext_ext

theorem mul_bounds {ca cb : Int} {sa sb t mode : Nat} (neg : Bool) (ia : InR ca) (ib : InR cb) (hsa : (sa : Int) ≤ 18) (hsb : (sb : Int) ≤ 18) (ht : (t : Int) ≤ 18) :
    rnum (ca.natAbs * cb.natAbs) ((t : Int) - sa - sb) < B ^ 5 ∧ 0 < rden 1 ((t : Int) - sa - sb) ∧ 2 * rden 1 ((t : Int) - sa - sb) ≤ B ^ 5 ∧ rquo neg (ca.natAbs * cb.natAbs) 1 ((t : Int) - sa - sb) mode < B ^ 5 := by
  have e1 : rnum (ca.natAbs * cb.natAbs) ((t : Int) - sa - sb) ≤ 2 ^ 127 * 2 ^ 127 * 10 ^ 18 := by
    unfold rnum; exact Nat.mul_le_mul (Nat.mul_le_mul (Nat.le_of_lt (natAbs_lt ia)) (Nat.le_of_lt (natAbs_lt ib))) (pow_le18 (by omega))
  have e2 : rden 1 ((t : Int) - sa - sb) ≤ 1 * 10 ^ 36 := by
    unfold rden; exact Nat.mul_le_mul (Nat.le_refl _) (pow_le36 (by omega))
  refine ⟨Nat.lt_of_le_of_lt e1 (by decide), ?_, Nat.le_trans (Nat.mul_le_mul_left 2 e2) (by decide), ?_⟩
  · unfold rden; exact Nat.mul_pos (by omega) (Nat.pow_pos (by decide))
  · exact Nat.lt_of_le_of_lt (Nat.le_trans (rquo_le _ _ _ _ _) (Nat.add_le_add_right e1 1)) (by decide)

theorem of_words (n : Int) (h1 : -9223372036854775808 ≤ n) (h2 : n ≤ 9223372036854775807) : n / 9223372036854775808 = dhi n ∧ IntKind.u64.wrap n = dlo n := by
  rw [IntKind.wrap_u64]; unfold dhi dlo; omega
set_option maxHeartbeats 400000 in
set_option maxRecDepth 100000 in
theorem of_ok (n : Int) (s : Nat) (w : World) (h1 : -9223372036854775808 ≤ n) (h2 : n ≤ 9223372036854775807) (hs : (s : Int) ≤ 18) :
    Calls Tryd.prog 21 #[.int .i64 n, .int .i64 s] w
      fun e w' => e = .returned (.tuple #[.agg #[.int .i64 (dhi n), .int .u64 (dlo n), .int .i64 s], .int .i64 0]) ∧ Below w.heap.size w w' := by
  obtain ⟨e1, e2⟩ := of_words n h1 h2
  rw [← e1, ← e2]
  clear e1 e2
  go_enter Tryd.func21, Tryd.ntmps21
  go_wp2_with (go_at_call 36; refine (isScale_yes _ _ (by omega) hs).mono ?_; rintro e w' ⟨rfl, rfl⟩)
  refine bodyPost_ret (v := .tuple #[.agg _, .int .i64 0]) (by simp [results, Tryd.results21, go_sem]) rfl ⟨rfl, ?_⟩
  repeat (first | exact Below.refl _ _ | refine Below.drew ?_ | refine below_drewN ?_ _ | refine bel_alloc ?_ _ | refine bel_ext ?_ _ | (refine Below.setCell ?_ ?_ _; rotate_left; (simp <;> omega)))

set_option maxHeartbeats 2000000 in
set_option maxRecDepth 100000 in
theorem mul_ok (ca ha la cb hb lb : Int) (sa sb t mode : Nat) (w : World) (da : IsD ca ha la) (db : IsD cb hb lb) (ia : InR ca) (ib : InR cb) (hsa : (sa : Int) ≤ 18) (hsb : (sb : Int) ≤ 18) (ht : (t : Int) ≤ 18) (hm : (mode : Int) ≤ 6) (hr : ((rquo ((decide (ca < 0)) != (decide (cb < 0))) (ca.natAbs * cb.natAbs) 1 ((t : Int) - sa - sb) mode : Nat) : Int) < M127) :
    Calls Tryd.prog 22 #[.agg #[.int .i64 ha, .int .u64 la, .int .i64 sa], .agg #[.int .i64 hb, .int .u64 lb, .int .i64 sb], .int .i64 t, .int .i64 mode] w
      fun e w' => e = .returned (.tuple #[.agg #[.int .i64 (dhi (sv ((decide (ca < 0)) != (decide (cb < 0))) (rquo ((decide (ca < 0)) != (decide (cb < 0))) (ca.natAbs * cb.natAbs) 1 ((t : Int) - sa - sb) mode))), .int .u64 (dlo (sv ((decide (ca < 0)) != (decide (cb < 0))) (rquo ((decide (ca < 0)) != (decide (cb < 0))) (ca.natAbs * cb.natAbs) 1 ((t : Int) - sa - sb) mode))), .int .i64 t], .int .i64 0]) ∧ Below w.heap.size w w' := by
  obtain ⟨rfl, rfl⟩ := da
  obtain ⟨rfl, rfl⟩ := db
  obtain ⟨hn5, hd0, hd5, hq5⟩ := mul_bounds (ca := ca) (cb := cb) (sa := sa) (sb := sb) (t := t) (mode := mode) ((decide (ca < 0)) != (decide (cb < 0))) ia ib hsa hsb ht
  have HN5 := (show Hid _ from hn5)
  have HD0 := (show Hid _ from hd0)
  have HD5 := (show Hid _ from hd5)
  have HQ5 := (show Hid _ from hq5)
  have HR := (show Hid _ from hr)
  clear hn5 hd0 hd5 hq5 hr
  go_enter Tryd.func22, Tryd.ntmps22
  go_wp2_with (first | (go_at_call 37; refine (rounding_ok _ _ _ (by omega) ht hm).mono ?_; rintro e w1 ⟨rfl, rfl⟩) | (go_at_call 38; refine (both_ok ca _ _ cb _ _ sa sb _ (IsD.self _) (IsD.self _) ia ib hsa hsb).mono ?_; rintro e w1 ⟨rfl, hb1⟩; obtain ⟨x, rfl⟩ := ext_of_below hb1; clear hb1))
  refine wp_region_any (by kernel_rfl) ?_
  refine wpAny_new2 (done := #[true, true, true, true, false, false, false, false]) 6 [] [0, 1, 2, 3] 4 5 _ _ (.cells #[.bool false, .int .u64 0, .int .u64 0, .int .u64 0, .int .u64 0, .int .u64 0] 79) (.cells #[.bool false, .int .u64 0, .int .u64 0, .int .u64 0, .int .u64 0, .int .u64 0] 79) (by kernel_rfl) (by kernel_rfl) rfl rfl (by kernel_rfl) (by simp) (fun _ _ => ⟨rfl, rfl⟩) (fun _ _ => ⟨rfl, rfl⟩) (by kernel_rfl) (by kernel_rfl) rfl ?_ (later_drawn _)
  iterate 1 (refine wpG_step (fun K hK => ?_); go_simp; refine hK _ ?_; clear hK K)
  refine wpG_step (fun K hK => ?_)
  go_simp
  apply Exists.intro
  refine ⟨fun xq => ?_, hK _ ?_⟩
  · exact numberOf_any ca _ _ _ _ (IsD.self _) ia
  clear hK K
  iterate 1 (refine wpG_step (fun K hK => ?_); go_simp; refine hK _ ?_; clear hK K)
  refine wpG_step (fun K hK => ?_)
  go_simp
  apply Exists.intro
  refine ⟨fun xq => ?_, hK _ ?_⟩
  · exact numberOf_any cb _ _ _ _ (IsD.self _) ib
  clear hK K
  refine wpG_nil ?_
  intro b1 b2 w3 hl h1 h2 hne hO1 hO2
  have T := two_of (w := w) (ca := ca) (cb := cb) (sa := sa) (sb := sb) (by rw [ext_size]; simp <;> omega) (by constructor <;> simp [go_sem]) (by constructor <;> simp [go_sem]) (by constructor <;> simp [go_sem]) (by repeat (first | exact Below.refl _ _ | refine Below.drew ?_ | refine below_drewN ?_ _ | refine bel_alloc ?_ _ | refine bel_ext ?_ _ | (refine Below.setCell ?_ ?_ _; rotate_left; (simp <;> omega)))) hl h1 h2 hne hO1 hO2
  have q1 := fun i => block_cell hO1 i
  have q2 := fun i => block_cell hO2 i
  have g1 := fun i => block_frozen hO1 i
  have g2 := fun i => block_frozen hO2 i
  have hne' : ¬ b1 = b2 := hne
  have hne2 : ¬ b2 = b1 := fun e => hne e.symm
  clear hl h1 h2 hne hO1 hO2
  simp only [List.drop_succ_cons, List.drop_zero]
  go_wp2
  rw [show ((((((((((((w3.setCell ⟨b1, 0, none⟩ (.bool (decide (ca < 0)))).setCell ⟨b1, 1, none⟩ (.int .u64 (wd (ca.natAbs) 0))).setCell ⟨b1, 2, none⟩ (.int .u64 (wd (ca.natAbs) 1))).setCell ⟨b1, 3, none⟩ (.int .u64 (wd (ca.natAbs) 2))).setCell ⟨b1, 4, none⟩ (.int .u64 (wd (ca.natAbs) 3))).setCell ⟨b1, 5, none⟩ (.int .u64 (wd (ca.natAbs) 4))).setCell ⟨b2, 0, none⟩ (.bool (decide (cb < 0)))).setCell ⟨b2, 1, none⟩ (.int .u64 (wd (cb.natAbs) 0))).setCell ⟨b2, 2, none⟩ (.int .u64 (wd (cb.natAbs) 1))).setCell ⟨b2, 3, none⟩ (.int .u64 (wd (cb.natAbs) 2))).setCell ⟨b2, 4, none⟩ (.int .u64 (wd (cb.natAbs) 3))).setCell ⟨b2, 5, none⟩ (.int .u64 (wd (cb.natAbs) 4))) = set6 (set6 w3 b1 (decide (ca < 0)) ca.natAbs) b2 (decide (cb < 0)) cb.natAbs from rfl]
  generalize set6 (set6 w3 b1 (decide (ca < 0)) ca.natAbs) b2 (decide (cb < 0)) cb.natAbs = w5 at *
  clear q1 q2 g1 g2 hne' hne2
  have T' := T
  obtain ⟨⟨a0, a1, a2, -, -, -⟩, ⟨c0, c1, c2, -, -, -⟩, ⟨r0, r1, r2, f0, f1, f2⟩, ⟨x0, x1, x2, x3, x4, x5⟩, ⟨y0, y1, y2, y3, y4, y5⟩, n1, n2, s1, s2, bel⟩ := T'
  refine wp_region_any (by kernel_rfl) ?_
  refine wpAny_new1 (done := #[true, true, true, true, true, true, true, true, true, true, true, false, false]) 12 [] [0, 1, 2, 3, 4, 5, 6, 7, 8, 9, 10] 11 _ (.cells #[.bool false, .int .u64 0, .int .u64 0, .int .u64 0, .int .u64 0, .int .u64 0] 79) (by kernel_rfl) (by kernel_rfl) rfl (by kernel_rfl) (fun _ _ => ⟨rfl, rfl⟩) (by kernel_rfl) (by kernel_rfl) rfl ?_ (later_drawn _)
  iterate 9 (refine wpG_step (fun K hK => ?_); go_simp; refine hK _ ?_; clear hK K)
  refine wpG_step (fun K hK => ?_)
  go_simp
  apply Exists.intro
  refine ⟨fun xq => ?_, hK _ ?_⟩
  · exact times_any ca.natAbs cb.natAbs _ _ _ _ _ _ _ _ _ _ _ (IsW.self _) (IsW.self _) (abs_lt ib)
  clear hK K
  iterate 1 (refine wpG_step (fun K hK => ?_); go_simp; refine hK _ ?_; clear hK K)
  refine wpG_nil ?_
  intro b3 w6 hl h3 hO3
  have T6 := T.step hl
  have q3 := fun i => block_cell hO3 i
  have g3 := fun i => block_frozen hO3 i
  have s3 := block_lt hO3
  clear T a0 a1 a2 c0 c1 c2 r0 r1 r2 f0 f1 f2 x0 x1 x2 x3 x4 x5 y0 y1 y2 y3 y4 y5 bel hl hO3
  obtain ⟨⟨a0, a1, a2, -, -, -⟩, ⟨c0, c1, c2, -, -, -⟩, ⟨r0, r1, r2, f0, f1, f2⟩, -, -, -, -, s1, s2, bel⟩ := T6
  have p0 : w.heap.size < w6.heap.size := by omega
  have p1 : w.heap.size + 1 < w6.heap.size := by omega
  have p2 : w.heap.size + 1 + 1 < w6.heap.size := by omega
  have m0 : ¬ b3 = w.heap.size := by omega
  have m1 : ¬ b3 = w.heap.size + 1 := by omega
  have m2 : ¬ b3 = w.heap.size + 1 + 1 := by omega
  have h3' : w.heap.size ≤ b3 := by omega
  simp only [List.drop_succ_cons, List.drop_zero]
  clear h3 n1 n2 s1 s2
  go_wp2_with (first | (go_at_call 41; refine (ratio_any ((decide (ca < 0)) != (decide (cb < 0))) (ca.natAbs * cb.natAbs) 1 mode _ _ _ _ _ _ _ one_words (by omega) HN5.out HD0.out HD5.out (by omega) (by omega)).mono ?_; rintro e w1 ⟨rfl, hb1⟩; obtain ⟨z, rfl⟩ := ext_of_below hb1; clear hb1) | (go_at_call 42; refine (dec_ok _ _ _ _ HQ5.out HR.out).mono ?_; rintro e w1 ⟨rfl, hb1⟩; obtain ⟨v, rfl⟩ := ext_of_below hb1; clear hb1))
  refine bodyPost_ret (v := .tuple #[.agg #[.int .i64 (dhi (sv ((decide (ca < 0)) != (decide (cb < 0))) (rquo ((decide (ca < 0)) != (decide (cb < 0))) (ca.natAbs * cb.natAbs) 1 ((t : Int) - sa - sb) mode))), .int .u64 (dlo (sv ((decide (ca < 0)) != (decide (cb < 0))) (rquo ((decide (ca < 0)) != (decide (cb < 0))) (ca.natAbs * cb.natAbs) 1 ((t : Int) - sa - sb) mode))), .int .i64 t], .int .i64 0]) (by simp [results, Tryd.results22, go_sem, r0, r1, r2, p2]) rfl ⟨rfl, ?_⟩
  refine bel_ext ?_ _
  iterate 3 refine Below.setCell ?_ (by simp <;> omega) _
  iterate 6 refine Below.setCell ?_ h3' _
  exact bel
set_option maxHeartbeats 2000000 in
set_option maxRecDepth 100000 in
theorem mul_big (ca ha la cb hb lb : Int) (sa sb t mode : Nat) (w : World) (da : IsD ca ha la) (db : IsD cb hb lb) (ia : InR ca) (ib : InR cb) (hsa : (sa : Int) ≤ 18) (hsb : (sb : Int) ≤ 18) (ht : (t : Int) ≤ 18) (hm : (mode : Int) ≤ 6) (hr : M127 ≤ ((rquo ((decide (ca < 0)) != (decide (cb < 0))) (ca.natAbs * cb.natAbs) 1 ((t : Int) - sa - sb) mode : Nat) : Int)) :
    Calls Tryd.prog 22 #[.agg #[.int .i64 ha, .int .u64 la, .int .i64 sa], .agg #[.int .i64 hb, .int .u64 lb, .int .i64 sb], .int .i64 t, .int .i64 mode] w
      fun e w' => e = .returned (.tuple #[.agg #[.int .i64 0, .int .u64 0, .int .i64 0], .int .i64 4]) ∧ Below w.heap.size w w' := by
  obtain ⟨rfl, rfl⟩ := da
  obtain ⟨rfl, rfl⟩ := db
  obtain ⟨hn5, hd0, hd5, hq5⟩ := mul_bounds (ca := ca) (cb := cb) (sa := sa) (sb := sb) (t := t) (mode := mode) ((decide (ca < 0)) != (decide (cb < 0))) ia ib hsa hsb ht
  have HN5 := (show Hid _ from hn5)
  have HD0 := (show Hid _ from hd0)
  have HD5 := (show Hid _ from hd5)
  have HQ5 := (show Hid _ from hq5)
  have HR := (show Hid _ from hr)
  clear hn5 hd0 hd5 hq5 hr
  go_enter Tryd.func22, Tryd.ntmps22
  go_wp2_with (first | (go_at_call 37; refine (rounding_ok _ _ _ (by omega) ht hm).mono ?_; rintro e w1 ⟨rfl, rfl⟩) | (go_at_call 38; refine (both_ok ca _ _ cb _ _ sa sb _ (IsD.self _) (IsD.self _) ia ib hsa hsb).mono ?_; rintro e w1 ⟨rfl, hb1⟩; obtain ⟨x, rfl⟩ := ext_of_below hb1; clear hb1))
  refine wp_region_any (by kernel_rfl) ?_
  refine wpAny_new2 (done := #[true, true, true, true, false, false, false, false]) 6 [] [0, 1, 2, 3] 4 5 _ _ (.cells #[.bool false, .int .u64 0, .int .u64 0, .int .u64 0, .int .u64 0, .int .u64 0] 79) (.cells #[.bool false, .int .u64 0, .int .u64 0, .int .u64 0, .int .u64 0, .int .u64 0] 79) (by kernel_rfl) (by kernel_rfl) rfl rfl (by kernel_rfl) (by simp) (fun _ _ => ⟨rfl, rfl⟩) (fun _ _ => ⟨rfl, rfl⟩) (by kernel_rfl) (by kernel_rfl) rfl ?_ (later_drawn _)
  iterate 1 (refine wpG_step (fun K hK => ?_); go_simp; refine hK _ ?_; clear hK K)
  refine wpG_step (fun K hK => ?_)
  go_simp
  apply Exists.intro
  refine ⟨fun xq => ?_, hK _ ?_⟩
  · exact numberOf_any ca _ _ _ _ (IsD.self _) ia
  clear hK K
  iterate 1 (refine wpG_step (fun K hK => ?_); go_simp; refine hK _ ?_; clear hK K)
  refine wpG_step (fun K hK => ?_)
  go_simp
  apply Exists.intro
  refine ⟨fun xq => ?_, hK _ ?_⟩
  · exact numberOf_any cb _ _ _ _ (IsD.self _) ib
  clear hK K
  refine wpG_nil ?_
  intro b1 b2 w3 hl h1 h2 hne hO1 hO2
  have T := two_of (w := w) (ca := ca) (cb := cb) (sa := sa) (sb := sb) (by rw [ext_size]; simp <;> omega) (by constructor <;> simp [go_sem]) (by constructor <;> simp [go_sem]) (by constructor <;> simp [go_sem]) (by repeat (first | exact Below.refl _ _ | refine Below.drew ?_ | refine below_drewN ?_ _ | refine bel_alloc ?_ _ | refine bel_ext ?_ _ | (refine Below.setCell ?_ ?_ _; rotate_left; (simp <;> omega)))) hl h1 h2 hne hO1 hO2
  have q1 := fun i => block_cell hO1 i
  have q2 := fun i => block_cell hO2 i
  have g1 := fun i => block_frozen hO1 i
  have g2 := fun i => block_frozen hO2 i
  have hne' : ¬ b1 = b2 := hne
  have hne2 : ¬ b2 = b1 := fun e => hne e.symm
  clear hl h1 h2 hne hO1 hO2
  simp only [List.drop_succ_cons, List.drop_zero]
  go_wp2
  rw [show ((((((((((((w3.setCell ⟨b1, 0, none⟩ (.bool (decide (ca < 0)))).setCell ⟨b1, 1, none⟩ (.int .u64 (wd (ca.natAbs) 0))).setCell ⟨b1, 2, none⟩ (.int .u64 (wd (ca.natAbs) 1))).setCell ⟨b1, 3, none⟩ (.int .u64 (wd (ca.natAbs) 2))).setCell ⟨b1, 4, none⟩ (.int .u64 (wd (ca.natAbs) 3))).setCell ⟨b1, 5, none⟩ (.int .u64 (wd (ca.natAbs) 4))).setCell ⟨b2, 0, none⟩ (.bool (decide (cb < 0)))).setCell ⟨b2, 1, none⟩ (.int .u64 (wd (cb.natAbs) 0))).setCell ⟨b2, 2, none⟩ (.int .u64 (wd (cb.natAbs) 1))).setCell ⟨b2, 3, none⟩ (.int .u64 (wd (cb.natAbs) 2))).setCell ⟨b2, 4, none⟩ (.int .u64 (wd (cb.natAbs) 3))).setCell ⟨b2, 5, none⟩ (.int .u64 (wd (cb.natAbs) 4))) = set6 (set6 w3 b1 (decide (ca < 0)) ca.natAbs) b2 (decide (cb < 0)) cb.natAbs from rfl]
  generalize set6 (set6 w3 b1 (decide (ca < 0)) ca.natAbs) b2 (decide (cb < 0)) cb.natAbs = w5 at *
  clear q1 q2 g1 g2 hne' hne2
  have T' := T
  obtain ⟨⟨a0, a1, a2, -, -, -⟩, ⟨c0, c1, c2, -, -, -⟩, ⟨r0, r1, r2, f0, f1, f2⟩, ⟨x0, x1, x2, x3, x4, x5⟩, ⟨y0, y1, y2, y3, y4, y5⟩, n1, n2, s1, s2, bel⟩ := T'
  refine wp_region_any (by kernel_rfl) ?_
  refine wpAny_new1 (done := #[true, true, true, true, true, true, true, true, true, true, true, false, false]) 12 [] [0, 1, 2, 3, 4, 5, 6, 7, 8, 9, 10] 11 _ (.cells #[.bool false, .int .u64 0, .int .u64 0, .int .u64 0, .int .u64 0, .int .u64 0] 79) (by kernel_rfl) (by kernel_rfl) rfl (by kernel_rfl) (fun _ _ => ⟨rfl, rfl⟩) (by kernel_rfl) (by kernel_rfl) rfl ?_ (later_drawn _)
  iterate 9 (refine wpG_step (fun K hK => ?_); go_simp; refine hK _ ?_; clear hK K)
  refine wpG_step (fun K hK => ?_)
  go_simp
  apply Exists.intro
  refine ⟨fun xq => ?_, hK _ ?_⟩
  · exact times_any ca.natAbs cb.natAbs _ _ _ _ _ _ _ _ _ _ _ (IsW.self _) (IsW.self _) (abs_lt ib)
  clear hK K
  iterate 1 (refine wpG_step (fun K hK => ?_); go_simp; refine hK _ ?_; clear hK K)
  refine wpG_nil ?_
  intro b3 w6 hl h3 hO3
  have T6 := T.step hl
  have q3 := fun i => block_cell hO3 i
  have g3 := fun i => block_frozen hO3 i
  have s3 := block_lt hO3
  clear T a0 a1 a2 c0 c1 c2 r0 r1 r2 f0 f1 f2 x0 x1 x2 x3 x4 x5 y0 y1 y2 y3 y4 y5 bel hl hO3
  obtain ⟨⟨a0, a1, a2, -, -, -⟩, ⟨c0, c1, c2, -, -, -⟩, ⟨r0, r1, r2, f0, f1, f2⟩, -, -, -, -, s1, s2, bel⟩ := T6
  have p0 : w.heap.size < w6.heap.size := by omega
  have p1 : w.heap.size + 1 < w6.heap.size := by omega
  have p2 : w.heap.size + 1 + 1 < w6.heap.size := by omega
  have m0 : ¬ b3 = w.heap.size := by omega
  have m1 : ¬ b3 = w.heap.size + 1 := by omega
  have m2 : ¬ b3 = w.heap.size + 1 + 1 := by omega
  have h3' : w.heap.size ≤ b3 := by omega
  simp only [List.drop_succ_cons, List.drop_zero]
  clear h3 n1 n2 s1 s2
  go_wp2_with (first | (go_at_call 41; refine (ratio_any ((decide (ca < 0)) != (decide (cb < 0))) (ca.natAbs * cb.natAbs) 1 mode _ _ _ _ _ _ _ one_words (by omega) HN5.out HD0.out HD5.out (by omega) (by omega)).mono ?_; rintro e w1 ⟨rfl, hb1⟩; obtain ⟨z, rfl⟩ := ext_of_below hb1; clear hb1) | (go_at_call 42; refine (dec_big _ _ _ _ HQ5.out HR.out).mono ?_; rintro e w1 ⟨rfl, hb1⟩; obtain ⟨v, rfl⟩ := ext_of_below hb1; clear hb1))
  refine bodyPost_ret (v := .tuple #[.agg #[.int .i64 0, .int .u64 0, .int .i64 0], .int .i64 4]) (by simp [results, Tryd.results22, go_sem, r0, r1, r2, p2]) rfl ⟨rfl, ?_⟩
  refine bel_ext ?_ _
  iterate 3 refine Below.setCell ?_ (by simp <;> omega) _
  iterate 6 refine Below.setCell ?_ h3' _
  exact bel
end Go.Proofs.YtkndnpkpdchbiaaDoor
