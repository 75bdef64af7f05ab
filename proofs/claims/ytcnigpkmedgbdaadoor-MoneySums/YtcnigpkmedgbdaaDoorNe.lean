/- The contracts of awayFromNought and ratio (package dec). -/
import Derived.Test.YtcnigpkmedgbdaaDoorNd
namespace Go.Proofs.YtcnigpkmedgbdaaDoor
open Go.RowKit
set_option linter.unusedVariables false
attribute [local go_sem] ext_cell ext_frozen ext_drew ext_of_drew ext_of_drewN ext_setCell ext_lt ext_lt1 ext_lt2 ext_lt3 lt_n2 lt_n3 lt_n4 lt_n5 lt_n6

/-- Is a quotient with that rest rounded away from nought? -/
def away (neg : Bool) (q r d mode : Nat) : Bool :=
  if r = 0 then false else
  match mode with
  | 1 => true
  | 2 => neg
  | 3 => !neg
  | 4 => !decide (r + r < d)
  | 5 => decide (d < r + r)
  | 6 => decide (d < r + r) || (decide (r + r = d) && decide (q % 2 = 1))
  | _ => false
theorem odd_word (q : Nat) : (bits .and .u64 (wd q 0) 1 == 1) = decide (q % 2 = 1) := by
  have h := bit_word q 0 0 (by decide)
  simp only [Int.pow_zero, Int.ediv_one, Nat.mul_zero, Nat.add_zero, Nat.pow_zero, Nat.div_one] at h
  rw [h, Bool.eq_iff_iff, beq_iff_eq, decide_eq_true_eq]
  omega

set_option maxHeartbeats 400000 in
set_option maxRecDepth 100000 in
theorem away_none (neg : Bool) (q d : Nat) (mode : Int) (w : World) :
    Calls Tryd.prog 81 #[.bool neg, .agg #[.int .u64 (wd (q) 0), .int .u64 (wd (q) 1), .int .u64 (wd (q) 2), .int .u64 (wd (q) 3), .int .u64 (wd (q) 4)], .agg #[.int .u64 (wd (0) 0), .int .u64 (wd (0) 1), .int .u64 (wd (0) 2), .int .u64 (wd (0) 3), .int .u64 (wd (0) 4)], .agg #[.int .u64 (wd (d) 0), .int .u64 (wd (d) 1), .int .u64 (wd (d) 2), .int .u64 (wd (d) 3), .int .u64 (wd (d) 4)], .int .i64 mode] w
      fun e w' => e = .returned (.bool false) ∧ Below w.heap.size w w' := by
  have he := fun w => eq_zero (n := 0) (Nat.pow_pos B_pos) w
  have hz : decide ((0 : Nat) = 0) = true := rfl
  rw [wd_zero, wd_zero, wd_zero, wd_zero, wd_zero] at he
  rw [wd_zero, wd_zero, wd_zero, wd_zero, wd_zero]
  go_enter Tryd.func81, Tryd.ntmps81
  go_wp2
  go_ret
  refine ⟨rfl, ?_⟩
  repeat (first | exact Below.refl _ _ | refine Below.drew ?_ | refine below_drewN ?_ _ | refine bel_alloc ?_ _ | refine bel_ext ?_ _ | (refine Below.setCell ?_ ?_ _; rotate_left; (simp <;> omega)))
set_option maxHeartbeats 1000000 in
set_option maxRecDepth 100000 in
theorem away_0 (neg : Bool) (q r d : Nat) (w : World) (hq : q < B ^ 5) (hr : 2 * r < B ^ 5) (hd : d < B ^ 5) (h0 : ¬ r = 0) :
    Calls Tryd.prog 81 #[.bool neg, .agg #[.int .u64 (wd (q) 0), .int .u64 (wd (q) 1), .int .u64 (wd (q) 2), .int .u64 (wd (q) 3), .int .u64 (wd (q) 4)], .agg #[.int .u64 (wd (r) 0), .int .u64 (wd (r) 1), .int .u64 (wd (r) 2), .int .u64 (wd (r) 3), .int .u64 (wd (r) 4)], .agg #[.int .u64 (wd (d) 0), .int .u64 (wd (d) 1), .int .u64 (wd (d) 2), .int .u64 (wd (d) 3), .int .u64 (wd (d) 4)], .int .i64 0] w
      fun e w' => e = .returned (.bool false) ∧ Below w.heap.size w w' := by
  have hr1 : r < B ^ 5 := by omega
  have hr2 : r + r < B ^ 5 := by omega
  have he := fun w => eq_zero hr1 w
  have hz : decide (r = 0) = false := by simp [h0]
  clear h0 hr
  go_enter Tryd.func81, Tryd.ntmps81
  go_wp2_with (first | (go_at_call 82; refine (plus_any r r _ _ _ _ _ _ _ _ _ _ _ (IsW.self _) (IsW.self _)).mono ?_; rintro e w1 ⟨rfl, hb1⟩; obtain ⟨x, rfl⟩ := ext_of_below hb1; clear hb1))
  go_ret
  refine ⟨rfl, ?_⟩
  repeat (first | exact Below.refl _ _ | refine Below.drew ?_ | refine below_drewN ?_ _ | refine bel_alloc ?_ _ | refine bel_ext ?_ _ | (refine Below.setCell ?_ ?_ _; rotate_left; (simp <;> omega)))
set_option maxHeartbeats 1000000 in
set_option maxRecDepth 100000 in
theorem away_1 (neg : Bool) (q r d : Nat) (w : World) (hq : q < B ^ 5) (hr : 2 * r < B ^ 5) (hd : d < B ^ 5) (h0 : ¬ r = 0) :
    Calls Tryd.prog 81 #[.bool neg, .agg #[.int .u64 (wd (q) 0), .int .u64 (wd (q) 1), .int .u64 (wd (q) 2), .int .u64 (wd (q) 3), .int .u64 (wd (q) 4)], .agg #[.int .u64 (wd (r) 0), .int .u64 (wd (r) 1), .int .u64 (wd (r) 2), .int .u64 (wd (r) 3), .int .u64 (wd (r) 4)], .agg #[.int .u64 (wd (d) 0), .int .u64 (wd (d) 1), .int .u64 (wd (d) 2), .int .u64 (wd (d) 3), .int .u64 (wd (d) 4)], .int .i64 1] w
      fun e w' => e = .returned (.bool true) ∧ Below w.heap.size w w' := by
  have hr1 : r < B ^ 5 := by omega
  have hr2 : r + r < B ^ 5 := by omega
  have he := fun w => eq_zero hr1 w
  have hz : decide (r = 0) = false := by simp [h0]
  clear h0 hr
  go_enter Tryd.func81, Tryd.ntmps81
  go_wp2_with (first | (go_at_call 82; refine (plus_any r r _ _ _ _ _ _ _ _ _ _ _ (IsW.self _) (IsW.self _)).mono ?_; rintro e w1 ⟨rfl, hb1⟩; obtain ⟨x, rfl⟩ := ext_of_below hb1; clear hb1))
  go_ret
  refine ⟨rfl, ?_⟩
  repeat (first | exact Below.refl _ _ | refine Below.drew ?_ | refine below_drewN ?_ _ | refine bel_alloc ?_ _ | refine bel_ext ?_ _ | (refine Below.setCell ?_ ?_ _; rotate_left; (simp <;> omega)))
set_option maxHeartbeats 1000000 in
set_option maxRecDepth 100000 in
theorem away_2 (neg : Bool) (q r d : Nat) (w : World) (hq : q < B ^ 5) (hr : 2 * r < B ^ 5) (hd : d < B ^ 5) (h0 : ¬ r = 0) :
    Calls Tryd.prog 81 #[.bool neg, .agg #[.int .u64 (wd (q) 0), .int .u64 (wd (q) 1), .int .u64 (wd (q) 2), .int .u64 (wd (q) 3), .int .u64 (wd (q) 4)], .agg #[.int .u64 (wd (r) 0), .int .u64 (wd (r) 1), .int .u64 (wd (r) 2), .int .u64 (wd (r) 3), .int .u64 (wd (r) 4)], .agg #[.int .u64 (wd (d) 0), .int .u64 (wd (d) 1), .int .u64 (wd (d) 2), .int .u64 (wd (d) 3), .int .u64 (wd (d) 4)], .int .i64 2] w
      fun e w' => e = .returned (.bool neg) ∧ Below w.heap.size w w' := by
  have hr1 : r < B ^ 5 := by omega
  have hr2 : r + r < B ^ 5 := by omega
  have he := fun w => eq_zero hr1 w
  have hz : decide (r = 0) = false := by simp [h0]
  clear h0 hr
  go_enter Tryd.func81, Tryd.ntmps81
  go_wp2_with (first | (go_at_call 82; refine (plus_any r r _ _ _ _ _ _ _ _ _ _ _ (IsW.self _) (IsW.self _)).mono ?_; rintro e w1 ⟨rfl, hb1⟩; obtain ⟨x, rfl⟩ := ext_of_below hb1; clear hb1))
  go_ret
  refine ⟨rfl, ?_⟩
  repeat (first | exact Below.refl _ _ | refine Below.drew ?_ | refine below_drewN ?_ _ | refine bel_alloc ?_ _ | refine bel_ext ?_ _ | (refine Below.setCell ?_ ?_ _; rotate_left; (simp <;> omega)))
set_option maxHeartbeats 1000000 in
set_option maxRecDepth 100000 in
theorem away_3 (neg : Bool) (q r d : Nat) (w : World) (hq : q < B ^ 5) (hr : 2 * r < B ^ 5) (hd : d < B ^ 5) (h0 : ¬ r = 0) :
    Calls Tryd.prog 81 #[.bool neg, .agg #[.int .u64 (wd (q) 0), .int .u64 (wd (q) 1), .int .u64 (wd (q) 2), .int .u64 (wd (q) 3), .int .u64 (wd (q) 4)], .agg #[.int .u64 (wd (r) 0), .int .u64 (wd (r) 1), .int .u64 (wd (r) 2), .int .u64 (wd (r) 3), .int .u64 (wd (r) 4)], .agg #[.int .u64 (wd (d) 0), .int .u64 (wd (d) 1), .int .u64 (wd (d) 2), .int .u64 (wd (d) 3), .int .u64 (wd (d) 4)], .int .i64 3] w
      fun e w' => e = .returned (.bool (!neg)) ∧ Below w.heap.size w w' := by
  have hr1 : r < B ^ 5 := by omega
  have hr2 : r + r < B ^ 5 := by omega
  have he := fun w => eq_zero hr1 w
  have hz : decide (r = 0) = false := by simp [h0]
  have hnot : ∀ (x : Bool) (w : World), (Op.unary .not (.bool x)).run Tryd.prog w = .ok (.bool (!x)) w := fun _ _ => rfl
  clear h0 hr
  go_enter Tryd.func81, Tryd.ntmps81
  go_wp2_with (first | (go_at_call 82; refine (plus_any r r _ _ _ _ _ _ _ _ _ _ _ (IsW.self _) (IsW.self _)).mono ?_; rintro e w1 ⟨rfl, hb1⟩; obtain ⟨x, rfl⟩ := ext_of_below hb1; clear hb1))
  go_ret
  refine ⟨rfl, ?_⟩
  repeat (first | exact Below.refl _ _ | refine Below.drew ?_ | refine below_drewN ?_ _ | refine bel_alloc ?_ _ | refine bel_ext ?_ _ | (refine Below.setCell ?_ ?_ _; rotate_left; (simp <;> omega)))
set_option maxHeartbeats 1000000 in
set_option maxRecDepth 100000 in
theorem away_4 (neg : Bool) (q r d : Nat) (w : World) (hq : q < B ^ 5) (hr : 2 * r < B ^ 5) (hd : d < B ^ 5) (h0 : ¬ r = 0) :
    Calls Tryd.prog 81 #[.bool neg, .agg #[.int .u64 (wd (q) 0), .int .u64 (wd (q) 1), .int .u64 (wd (q) 2), .int .u64 (wd (q) 3), .int .u64 (wd (q) 4)], .agg #[.int .u64 (wd (r) 0), .int .u64 (wd (r) 1), .int .u64 (wd (r) 2), .int .u64 (wd (r) 3), .int .u64 (wd (r) 4)], .agg #[.int .u64 (wd (d) 0), .int .u64 (wd (d) 1), .int .u64 (wd (d) 2), .int .u64 (wd (d) 3), .int .u64 (wd (d) 4)], .int .i64 4] w
      fun e w' => e = .returned (.bool (!decide (r + r < d))) ∧ Below w.heap.size w w' := by
  have hr1 : r < B ^ 5 := by omega
  have hr2 : r + r < B ^ 5 := by omega
  have he := fun w => eq_zero hr1 w
  have hz : decide (r = 0) = false := by simp [h0]
  have hnot : ∀ (x : Bool) (w : World), (Op.unary .not (.bool x)).run Tryd.prog w = .ok (.bool (!x)) w := fun _ _ => rfl
  clear h0 hr
  go_enter Tryd.func81, Tryd.ntmps81
  go_wp2_with (first | (go_at_call 82; refine (plus_any r r _ _ _ _ _ _ _ _ _ _ _ (IsW.self _) (IsW.self _)).mono ?_; rintro e w1 ⟨rfl, hb1⟩; obtain ⟨x, rfl⟩ := ext_of_below hb1; clear hb1) | (go_at_call 94; refine (below_any (r + r) (d) _ _ _ _ _ _ _ _ _ _ _ (IsW.self _) (IsW.self _) hr2 hd).mono ?_; rintro e w1 ⟨rfl, hb1⟩; obtain ⟨y, rfl⟩ := ext_of_below hb1; clear hb1))
  go_ret
  refine ⟨rfl, ?_⟩
  repeat (first | exact Below.refl _ _ | refine Below.drew ?_ | refine below_drewN ?_ _ | refine bel_alloc ?_ _ | refine bel_ext ?_ _ | (refine Below.setCell ?_ ?_ _; rotate_left; (simp <;> omega)))
set_option maxHeartbeats 1000000 in
set_option maxRecDepth 100000 in
theorem away_5 (neg : Bool) (q r d : Nat) (w : World) (hq : q < B ^ 5) (hr : 2 * r < B ^ 5) (hd : d < B ^ 5) (h0 : ¬ r = 0) :
    Calls Tryd.prog 81 #[.bool neg, .agg #[.int .u64 (wd (q) 0), .int .u64 (wd (q) 1), .int .u64 (wd (q) 2), .int .u64 (wd (q) 3), .int .u64 (wd (q) 4)], .agg #[.int .u64 (wd (r) 0), .int .u64 (wd (r) 1), .int .u64 (wd (r) 2), .int .u64 (wd (r) 3), .int .u64 (wd (r) 4)], .agg #[.int .u64 (wd (d) 0), .int .u64 (wd (d) 1), .int .u64 (wd (d) 2), .int .u64 (wd (d) 3), .int .u64 (wd (d) 4)], .int .i64 5] w
      fun e w' => e = .returned (.bool (decide (d < r + r))) ∧ Below w.heap.size w w' := by
  have hr1 : r < B ^ 5 := by omega
  have hr2 : r + r < B ^ 5 := by omega
  have he := fun w => eq_zero hr1 w
  have hz : decide (r = 0) = false := by simp [h0]
  clear h0 hr
  go_enter Tryd.func81, Tryd.ntmps81
  go_wp2_with (first | (go_at_call 82; refine (plus_any r r _ _ _ _ _ _ _ _ _ _ _ (IsW.self _) (IsW.self _)).mono ?_; rintro e w1 ⟨rfl, hb1⟩; obtain ⟨x, rfl⟩ := ext_of_below hb1; clear hb1) | (go_at_call 94; refine (below_any (d) (r + r) _ _ _ _ _ _ _ _ _ _ _ (IsW.self _) (IsW.self _) hd hr2).mono ?_; rintro e w1 ⟨rfl, hb1⟩; obtain ⟨y, rfl⟩ := ext_of_below hb1; clear hb1))
  go_ret
  refine ⟨rfl, ?_⟩
  repeat (first | exact Below.refl _ _ | refine Below.drew ?_ | refine below_drewN ?_ _ | refine bel_alloc ?_ _ | refine bel_ext ?_ _ | (refine Below.setCell ?_ ?_ _; rotate_left; (simp <;> omega)))
set_option maxHeartbeats 1000000 in
set_option maxRecDepth 100000 in
theorem away_6a (neg : Bool) (q r d : Nat) (w : World) (hq : q < B ^ 5) (hr : 2 * r < B ^ 5) (hd : d < B ^ 5) (h0 : ¬ r = 0) (hc : d < r + r) :
    Calls Tryd.prog 81 #[.bool neg, .agg #[.int .u64 (wd (q) 0), .int .u64 (wd (q) 1), .int .u64 (wd (q) 2), .int .u64 (wd (q) 3), .int .u64 (wd (q) 4)], .agg #[.int .u64 (wd (r) 0), .int .u64 (wd (r) 1), .int .u64 (wd (r) 2), .int .u64 (wd (r) 3), .int .u64 (wd (r) 4)], .agg #[.int .u64 (wd (d) 0), .int .u64 (wd (d) 1), .int .u64 (wd (d) 2), .int .u64 (wd (d) 3), .int .u64 (wd (d) 4)], .int .i64 6] w
      fun e w' => e = .returned (.bool true) ∧ Below w.heap.size w w' := by
  have hr1 : r < B ^ 5 := by omega
  have hr2 : r + r < B ^ 5 := by omega
  have he := fun w => eq_zero hr1 w
  have hz : decide (r = 0) = false := by simp [h0]
  have hdc : decide (d < r + r) = true := by simp [hc]
  clear hc
  clear h0 hr
  go_enter Tryd.func81, Tryd.ntmps81
  go_wp2_with (first | (go_at_call 82; refine (plus_any r r _ _ _ _ _ _ _ _ _ _ _ (IsW.self _) (IsW.self _)).mono ?_; rintro e w1 ⟨rfl, hb1⟩; obtain ⟨x, rfl⟩ := ext_of_below hb1; clear hb1) | (go_at_call 94; refine (below_any (d) (r + r) _ _ _ _ _ _ _ _ _ _ _ (IsW.self _) (IsW.self _) hd hr2).mono ?_; rintro e w1 ⟨rfl, hb1⟩; obtain ⟨y, rfl⟩ := ext_of_below hb1; clear hb1))
  go_ret
  refine ⟨rfl, ?_⟩
  repeat (first | exact Below.refl _ _ | refine Below.drew ?_ | refine below_drewN ?_ _ | refine bel_alloc ?_ _ | refine bel_ext ?_ _ | (refine Below.setCell ?_ ?_ _; rotate_left; (simp <;> omega)))
set_option maxHeartbeats 1000000 in
set_option maxRecDepth 100000 in
theorem away_6b (neg : Bool) (q r d : Nat) (w : World) (hq : q < B ^ 5) (hr : 2 * r < B ^ 5) (hd : d < B ^ 5) (h0 : ¬ r = 0) (hc : ¬ d < r + r) (hc2 : ¬ r + r = d) :
    Calls Tryd.prog 81 #[.bool neg, .agg #[.int .u64 (wd (q) 0), .int .u64 (wd (q) 1), .int .u64 (wd (q) 2), .int .u64 (wd (q) 3), .int .u64 (wd (q) 4)], .agg #[.int .u64 (wd (r) 0), .int .u64 (wd (r) 1), .int .u64 (wd (r) 2), .int .u64 (wd (r) 3), .int .u64 (wd (r) 4)], .agg #[.int .u64 (wd (d) 0), .int .u64 (wd (d) 1), .int .u64 (wd (d) 2), .int .u64 (wd (d) 3), .int .u64 (wd (d) 4)], .int .i64 6] w
      fun e w' => e = .returned (.bool false) ∧ Below w.heap.size w w' := by
  have hr1 : r < B ^ 5 := by omega
  have hr2 : r + r < B ^ 5 := by omega
  have he := fun w => eq_zero hr1 w
  have hz : decide (r = 0) = false := by simp [h0]
  have hdc : decide (d < r + r) = false := by simp [hc]
  have hdc2 : decide (r + r = d) = false := by simp [hc2]
  have hee := fun w => eq_same hr2 hd w
  clear hc hc2
  clear h0 hr
  go_enter Tryd.func81, Tryd.ntmps81
  go_wp2_with (first | (go_at_call 82; refine (plus_any r r _ _ _ _ _ _ _ _ _ _ _ (IsW.self _) (IsW.self _)).mono ?_; rintro e w1 ⟨rfl, hb1⟩; obtain ⟨x, rfl⟩ := ext_of_below hb1; clear hb1) | (go_at_call 94; refine (below_any (d) (r + r) _ _ _ _ _ _ _ _ _ _ _ (IsW.self _) (IsW.self _) hd hr2).mono ?_; rintro e w1 ⟨rfl, hb1⟩; obtain ⟨y, rfl⟩ := ext_of_below hb1; clear hb1))
  go_ret
  refine ⟨rfl, ?_⟩
  repeat (first | exact Below.refl _ _ | refine Below.drew ?_ | refine below_drewN ?_ _ | refine bel_alloc ?_ _ | refine bel_ext ?_ _ | (refine Below.setCell ?_ ?_ _; rotate_left; (simp <;> omega)))
set_option maxHeartbeats 1000000 in
set_option maxRecDepth 100000 in
theorem away_6c (neg : Bool) (q r d : Nat) (w : World) (hq : q < B ^ 5) (hr : 2 * r < B ^ 5) (hd : d < B ^ 5) (h0 : ¬ r = 0) (hc : ¬ d < r + r) (hc2 : r + r = d) :
    Calls Tryd.prog 81 #[.bool neg, .agg #[.int .u64 (wd (q) 0), .int .u64 (wd (q) 1), .int .u64 (wd (q) 2), .int .u64 (wd (q) 3), .int .u64 (wd (q) 4)], .agg #[.int .u64 (wd (r) 0), .int .u64 (wd (r) 1), .int .u64 (wd (r) 2), .int .u64 (wd (r) 3), .int .u64 (wd (r) 4)], .agg #[.int .u64 (wd (d) 0), .int .u64 (wd (d) 1), .int .u64 (wd (d) 2), .int .u64 (wd (d) 3), .int .u64 (wd (d) 4)], .int .i64 6] w
      fun e w' => e = .returned (.bool (decide (q % 2 = 1))) ∧ Below w.heap.size w w' := by
  have hr1 : r < B ^ 5 := by omega
  have hr2 : r + r < B ^ 5 := by omega
  have he := fun w => eq_zero hr1 w
  have hz : decide (r = 0) = false := by simp [h0]
  have hdc : decide (d < r + r) = false := by simp [hc]
  have hdc2 : decide (r + r = d) = true := by simp [hc2]
  have hee := fun w => eq_same hr2 hd w
  have hodd := odd_word q
  clear hc hc2
  clear h0 hr
  go_enter Tryd.func81, Tryd.ntmps81
  go_wp2_with (first | (go_at_call 82; refine (plus_any r r _ _ _ _ _ _ _ _ _ _ _ (IsW.self _) (IsW.self _)).mono ?_; rintro e w1 ⟨rfl, hb1⟩; obtain ⟨x, rfl⟩ := ext_of_below hb1; clear hb1) | (go_at_call 94; refine (below_any (d) (r + r) _ _ _ _ _ _ _ _ _ _ _ (IsW.self _) (IsW.self _) hd hr2).mono ?_; rintro e w1 ⟨rfl, hb1⟩; obtain ⟨y, rfl⟩ := ext_of_below hb1; clear hb1))
  go_ret
  refine ⟨rfl, ?_⟩
  repeat (first | exact Below.refl _ _ | refine Below.drew ?_ | refine below_drewN ?_ _ | refine bel_alloc ?_ _ | refine bel_ext ?_ _ | (refine Below.setCell ?_ ?_ _; rotate_left; (simp <;> omega)))

theorem away_any (neg : Bool) (q r d mode : Nat) (a0 a1 a2 a3 a4 b0 b1 b2 b3 b4 c0 c1 c2 c3 c4 : Int) (w : World) (ha : IsW q a0 a1 a2 a3 a4) (hb : IsW r b0 b1 b2 b3 b4) (hc : IsW d c0 c1 c2 c3 c4) (hq : q < B ^ 5) (hr : 2 * r < B ^ 5) (hd : d < B ^ 5) (hm : mode ≤ 6) :
    Calls Tryd.prog 81 #[.bool neg, .agg #[.int .u64 a0, .int .u64 a1, .int .u64 a2, .int .u64 a3, .int .u64 a4], .agg #[.int .u64 b0, .int .u64 b1, .int .u64 b2, .int .u64 b3, .int .u64 b4], .agg #[.int .u64 c0, .int .u64 c1, .int .u64 c2, .int .u64 c3, .int .u64 c4], .int .i64 mode] w
      fun e w' => e = .returned (.bool (away neg q r d mode)) ∧ Below w.heap.size w w' := by
  obtain ⟨rfl, rfl, rfl, rfl, rfl⟩ := ha
  obtain ⟨rfl, rfl, rfl, rfl, rfl⟩ := hb
  obtain ⟨rfl, rfl, rfl, rfl, rfl⟩ := hc
  by_cases h0 : r = 0
  · subst h0; exact away_none neg q d mode w
  · unfold away
    rw [if_neg h0]
    match mode, hm with
    | 0, _ => exact away_0 neg q r d w hq hr hd h0
    | 1, _ => exact away_1 neg q r d w hq hr hd h0
    | 2, _ => exact away_2 neg q r d w hq hr hd h0
    | 3, _ => exact away_3 neg q r d w hq hr hd h0
    | 4, _ => exact away_4 neg q r d w hq hr hd h0
    | 5, _ => exact away_5 neg q r d w hq hr hd h0
    | 6, _ =>
      by_cases h1 : d < r + r
      · simp only [h1, decide_true, Bool.true_or]
        exact away_6a neg q r d w hq hr hd h0 h1
      · by_cases h2 : r + r = d
        · rw [show (decide (d < r + r) || (decide (r + r = d) && decide (q % 2 = 1))) = decide (q % 2 = 1) by rw [decide_eq_false h1, decide_eq_true h2]; rfl]
          exact away_6c neg q r d w hq hr hd h0 h1 h2
        · simp only [h1, h2, decide_false, Bool.false_or, Bool.false_and]
          exact away_6b neg q r d w hq hr hd h0 h1 h2
end Go.Proofs.YtcnigpkmedgbdaaDoor
