/- The contract of Rescale (package dec). -/
import Derived.Test.YtcnigpkmedgbdaaDoorPd
namespace Go.Proofs.YtcnigpkmedgbdaaDoor
open Go.RowKit
set_option linter.unusedVariables false
attribute [local go_sem] ext_cell ext_frozen ext_drew ext_of_drew ext_of_drewN ext_setCell ext_lt ext_lt1 ext_lt2 ext_lt3 lt_n2 lt_n3 lt_n4 lt_n5 lt_n6

theorem res_bounds {c : Int} {s t mode : Nat} (neg : Bool) (ic : InR c) (hs : (s : Int) ≤ 18) (ht : (t : Int) ≤ 18) :
    rnum c.natAbs ((t : Int) - s) < B ^ 5 ∧ 0 < rden 1 ((t : Int) - s) ∧ 2 * rden 1 ((t : Int) - s) ≤ B ^ 5 ∧ rquo neg c.natAbs 1 ((t : Int) - s) mode < B ^ 5 := by
  have e1 : rnum c.natAbs ((t : Int) - s) ≤ 2 ^ 127 * 10 ^ 18 := by
    unfold rnum; exact Nat.mul_le_mul (Nat.le_of_lt (natAbs_lt ic)) (pow_le18 (by omega))
  have e2 : rden 1 ((t : Int) - s) ≤ 1 * 10 ^ 18 := by
    unfold rden; exact Nat.mul_le_mul (Nat.le_refl _) (pow_le18 (by omega))
  refine ⟨Nat.lt_of_le_of_lt e1 (by decide), ?_, Nat.le_trans (Nat.mul_le_mul_left 2 e2) (by decide), ?_⟩
  · unfold rden; exact Nat.mul_pos (by omega) (Nat.pow_pos (by decide))
  · exact Nat.lt_of_le_of_lt (Nat.le_trans (rquo_le _ _ _ _ _) (Nat.add_le_add_right e1 1)) (by decide)

set_option maxHeartbeats 2000000 in
set_option maxRecDepth 100000 in
theorem rescale_ok (c h l : Int) (s t mode : Nat) (w : World) (hd : IsD c h l) (ic : InR c) (hs : (s : Int) ≤ 18) (ht : (t : Int) ≤ 18) (hm : (mode : Int) ≤ 6) (hr : ((rquo (decide (c < 0)) c.natAbs 1 ((t : Int) - s) mode : Nat) : Int) < M127) :
    Calls Tryd.prog 47 #[.agg #[.int .i64 h, .int .u64 l, .int .i64 s], .int .i64 t, .int .i64 mode] w
      fun e w' => e = .returned (.tuple #[.agg #[.int .i64 (dhi (sv (decide (c < 0)) (rquo (decide (c < 0)) c.natAbs 1 ((t : Int) - s) mode))), .int .u64 (dlo (sv (decide (c < 0)) (rquo (decide (c < 0)) c.natAbs 1 ((t : Int) - s) mode))), .int .i64 t], .int .i64 0]) ∧ Below w.heap.size w w' := by
  obtain ⟨rfl, rfl⟩ := hd
  obtain ⟨hn5, hd0, hd5, hq5⟩ := res_bounds (c := c) (s := s) (t := t) (mode := mode) (decide (c < 0)) ic hs ht
  have HN5 := (show Hid _ from hn5)
  have HD0 := (show Hid _ from hd0)
  have HD5 := (show Hid _ from hd5)
  have HQ5 := (show Hid _ from hq5)
  have HR := (show Hid _ from hr)
  have ew : IntKind.i64.wrap ((t : Int) - (s : Int)) = (t : Int) - (s : Int) := by rw [IntKind.wrap_i64]; omega
  clear hn5 hd0 hd5 hq5 hr
  go_enter Tryd.func47, Tryd.ntmps47
  go_wp2_with (first | (go_at_call 63; refine (rounding_ok _ _ _ (by omega) ht hm).mono ?_; rintro e w1 ⟨rfl, rfl⟩) | (go_at_call 64; refine (check_ok c _ _ s _ (IsD.self _) ic hs).mono ?_; rintro e w1 ⟨rfl, hb1⟩; obtain ⟨x, rfl⟩ := ext_of_below hb1; clear hb1))
  refine wp_region_ext 13 (by kernel_rfl) (by kernel_rfl) ?_
  iterate 1 (refine wpQuiet_step (fun K hK => ?_); go_simp; refine hK _ ?_; clear hK K)
  refine wpQuiet_step (fun K hK => ?_)
  go_simp
  apply Exists.intro
  refine ⟨fun xq => ?_, hK _ ?_⟩
  · exact calls_ext (numberOf_any c _ _ _ _ (IsD.self _) ic)
  clear hK K
  iterate 6 (refine wpQuiet_step (fun K hK => ?_); go_simp; refine hK _ ?_; clear hK K)
  refine wpQuiet_step (fun K hK => ?_)
  go_simp
  apply Exists.intro
  refine ⟨fun xq => ?_, hK _ ?_⟩
  · exact calls_ext (ratio_any (decide (c < 0)) c.natAbs 1 mode _ _ _ _ _ _ _ one_words (by omega) HN5.out HD0.out HD5.out (by omega) (by omega))
  clear hK K
  iterate 1 (refine wpQuiet_step (fun K hK => ?_); go_simp; refine hK _ ?_; clear hK K)
  refine wpQuiet_step (fun K hK => ?_)
  go_simp
  apply Exists.intro
  refine ⟨fun xq => ?_, hK _ ?_⟩
  · exact calls_ext (dec_ok _ _ _ _ HQ5.out HR.out)
  clear hK K
  iterate 2 (refine wpQuiet_step (fun K hK => ?_); go_simp; refine hK _ ?_; clear hK K)
  refine wpQuiet_nil ?_
  intro xq
  simp only [List.drop_succ_cons, List.drop_zero]
  go_wp2
  refine bodyPost_ret (v := .tuple #[.agg #[.int .i64 (dhi (sv (decide (c < 0)) (rquo (decide (c < 0)) c.natAbs 1 ((t : Int) - s) mode))), .int .u64 (dlo (sv (decide (c < 0)) (rquo (decide (c < 0)) c.natAbs 1 ((t : Int) - s) mode))), .int .i64 t], .int .i64 0]) (by simp [results, Tryd.results47, go_sem]) rfl ⟨rfl, ?_⟩
  repeat (first | exact Below.refl _ _ | refine Below.drew ?_ | refine below_drewN ?_ _ | refine bel_alloc ?_ _ | refine bel_ext ?_ _ | (refine Below.setCell ?_ ?_ _; rotate_left; (simp <;> omega)))
set_option maxHeartbeats 2000000 in
set_option maxRecDepth 100000 in
theorem rescale_big (c h l : Int) (s t mode : Nat) (w : World) (hd : IsD c h l) (ic : InR c) (hs : (s : Int) ≤ 18) (ht : (t : Int) ≤ 18) (hm : (mode : Int) ≤ 6) (hr : M127 ≤ ((rquo (decide (c < 0)) c.natAbs 1 ((t : Int) - s) mode : Nat) : Int)) :
    Calls Tryd.prog 47 #[.agg #[.int .i64 h, .int .u64 l, .int .i64 s], .int .i64 t, .int .i64 mode] w
      fun e w' => e = .returned (.tuple #[.agg #[.int .i64 0, .int .u64 0, .int .i64 0], .int .i64 4]) ∧ Below w.heap.size w w' := by
  obtain ⟨rfl, rfl⟩ := hd
  obtain ⟨hn5, hd0, hd5, hq5⟩ := res_bounds (c := c) (s := s) (t := t) (mode := mode) (decide (c < 0)) ic hs ht
  have HN5 := (show Hid _ from hn5)
  have HD0 := (show Hid _ from hd0)
  have HD5 := (show Hid _ from hd5)
  have HQ5 := (show Hid _ from hq5)
  have HR := (show Hid _ from hr)
  have ew : IntKind.i64.wrap ((t : Int) - (s : Int)) = (t : Int) - (s : Int) := by rw [IntKind.wrap_i64]; omega
  clear hn5 hd0 hd5 hq5 hr
  go_enter Tryd.func47, Tryd.ntmps47
  go_wp2_with (first | (go_at_call 63; refine (rounding_ok _ _ _ (by omega) ht hm).mono ?_; rintro e w1 ⟨rfl, rfl⟩) | (go_at_call 64; refine (check_ok c _ _ s _ (IsD.self _) ic hs).mono ?_; rintro e w1 ⟨rfl, hb1⟩; obtain ⟨x, rfl⟩ := ext_of_below hb1; clear hb1))
  refine wp_region_ext 13 (by kernel_rfl) (by kernel_rfl) ?_
  iterate 1 (refine wpQuiet_step (fun K hK => ?_); go_simp; refine hK _ ?_; clear hK K)
  refine wpQuiet_step (fun K hK => ?_)
  go_simp
  apply Exists.intro
  refine ⟨fun xq => ?_, hK _ ?_⟩
  · exact calls_ext (numberOf_any c _ _ _ _ (IsD.self _) ic)
  clear hK K
  iterate 6 (refine wpQuiet_step (fun K hK => ?_); go_simp; refine hK _ ?_; clear hK K)
  refine wpQuiet_step (fun K hK => ?_)
  go_simp
  apply Exists.intro
  refine ⟨fun xq => ?_, hK _ ?_⟩
  · exact calls_ext (ratio_any (decide (c < 0)) c.natAbs 1 mode _ _ _ _ _ _ _ one_words (by omega) HN5.out HD0.out HD5.out (by omega) (by omega))
  clear hK K
  iterate 1 (refine wpQuiet_step (fun K hK => ?_); go_simp; refine hK _ ?_; clear hK K)
  refine wpQuiet_step (fun K hK => ?_)
  go_simp
  apply Exists.intro
  refine ⟨fun xq => ?_, hK _ ?_⟩
  · exact calls_ext (dec_big _ _ _ _ HQ5.out HR.out)
  clear hK K
  iterate 2 (refine wpQuiet_step (fun K hK => ?_); go_simp; refine hK _ ?_; clear hK K)
  refine wpQuiet_nil ?_
  intro xq
  simp only [List.drop_succ_cons, List.drop_zero]
  go_wp2
  refine bodyPost_ret (v := .tuple #[.agg #[.int .i64 0, .int .u64 0, .int .i64 0], .int .i64 4]) (by simp [results, Tryd.results47, go_sem]) rfl ⟨rfl, ?_⟩
  repeat (first | exact Below.refl _ _ | refine Below.drew ?_ | refine below_drewN ?_ _ | refine bel_alloc ?_ _ | refine bel_ext ?_ _ | (refine Below.setCell ?_ ?_ _; rotate_left; (simp <;> omega)))
end Go.Proofs.YtcnigpkmedgbdaaDoor
