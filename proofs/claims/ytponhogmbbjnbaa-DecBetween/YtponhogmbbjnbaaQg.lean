/- The law DecBetween: its arithmetic and its walk. -/
import Derived.Test.YtponhogmbbjnbaaQf
namespace Go.Proofs.Ytponhogmbbjnbaa
open Go.RowKit
set_option linter.unusedVariables false
attribute [local go_sem] ext_cell ext_frozen ext_drew ext_of_drew ext_of_drewN ext_setCell ext_lt ext_lt1 ext_lt2 ext_lt3 lt_n2 lt_n3 lt_n4 lt_n5 lt_n6

/-- a number rounded to a scale -/
def rv (c : Int) (s t mode : Nat) : Int := sv (decide (c < 0)) (rquo (decide (c < 0)) c.natAbs 1 ((t : Int) - s) mode)
theorem num_eq (c : Int) (s t : Nat) : c * (10 : Int) ^ (max t s - s) = sv (decide (c < 0)) (rnum c.natAbs ((t : Int) - s)) := by
  unfold rnum
  rw [show ((t : Int) - s).toNat = max t s - s by omega, sv_up]
theorem den_eq (s t : Nat) : (10 : Int) ^ (max t s - t) = ((rden 1 ((t : Int) - s) : Nat) : Int) := by
  unfold rden
  rw [show (-((t : Int) - s)).toNat = max t s - t by omega, Nat.one_mul]; simp
theorem away_23 (q r d : Nat) (neg : Bool) : away neg q r d 2 = (decide (r ≠ 0) && neg) ∧ away neg q r d 3 = (decide (r ≠ 0) && !neg) := by
  unfold away
  by_cases h : r = 0 <;> simp [h]
theorem sgn_le {x : Int} (h : x ≤ 0) : sgn x ≤ 0 := by unfold sgn; split; omega; split <;> omega
theorem sgn_lt {x : Int} (h : x < 0) : sgn x = -1 := by unfold sgn; rw [if_pos h]
theorem between_facts (c : Int) (s t : Nat) :
    ((rv c s t 3 - rv c s t 2 = 0 ∧ sgn (tv (rv c s t 2) t (-c) s) = 0) ∨ (rv c s t 3 - rv c s t 2 = 1 ∧ sgn (tv (rv c s t 2) t (-c) s) = -1))
    ∧ sgn (tv c s (-(rv c s t 3)) t) ≤ 0 ∧ ∀ m, rv c s t m = rv c s t 2 ∨ rv c s t m = rv c s t 3 := by
  have hN := num_eq c s t
  have hD := den_eq s t
  have hD0 : 0 < rden 1 ((t : Int) - s) := by unfold rden; exact Nat.mul_pos (by omega) (Nat.pow_pos (by decide))
  have e1 : ∀ L : Int, tv L t (-c) s = L * ((rden 1 ((t : Int) - s) : Nat) : Int) - sv (decide (c < 0)) (rnum c.natAbs ((t : Int) - s)) := by
    intro L
    unfold tv
    rw [hD, Int.neg_mul, hN]; omega
  have e2 : ∀ H : Int, tv c s (-H) t = sv (decide (c < 0)) (rnum c.natAbs ((t : Int) - s)) - H * ((rden 1 ((t : Int) - s) : Nat) : Int) := by
    intro H
    unfold tv
    rw [Nat.max_comm s t, hD, Int.neg_mul, hN]; omega
  have hm := Nat.div_add_mod (rnum c.natAbs ((t : Int) - s)) (rden 1 ((t : Int) - s))
  have hlt := Nat.mod_lt (rnum c.natAbs ((t : Int) - s)) hD0
  have hv : ∀ m, rv c s t m = sv (decide (c < 0)) (rnum c.natAbs ((t : Int) - s) / rden 1 ((t : Int) - s) + (if away (decide (c < 0)) (rnum c.natAbs ((t : Int) - s) / rden 1 ((t : Int) - s)) (rnum c.natAbs ((t : Int) - s) % rden 1 ((t : Int) - s)) (rden 1 ((t : Int) - s)) m then 1 else 0)) := fun m => rfl
  generalize rnum c.natAbs ((t : Int) - s) = N at *
  generalize rden 1 ((t : Int) - s) = D at *
  generalize N / D = q at *
  generalize N % D = r at *
  have hm' : (N : Int) = (D : Int) * q + r := by rw [← hm]; simp
  rw [e1, e2]
  simp only [hv, (away_23 q r D _).1, (away_23 q r D _).2]
  clear e1 e2 hN hD hv hm
  have hr0 : 0 ≤ (r : Int) := by omega
  have hrD : (r : Int) < D := by omega
  obtain ⟨P, hP⟩ : ∃ P, P = (D : Int) * q := ⟨_, rfl⟩
  have p1 : -(q : Int) * D = -P := by rw [hP, Int.neg_mul, Int.mul_comm]
  have p2 : (q : Int) * D = P := by rw [hP, Int.mul_comm]
  have p3 : ((q : Int) + 1) * D = P + D := by rw [Int.add_mul, p2]; omega
  have p4 : -((q : Int) + 1) * D = -(P + D) := by rw [Int.neg_mul, p3]
  rw [← hP] at hm'
  clear hP
  by_cases hc : c < 0
  · by_cases hr : r = 0
    · subst hr
      simp only [hc, decide_true, sv, if_true, ne_eq, not_true_eq_false, decide_false, Bool.false_and, Bool.false_eq_true, if_false, Nat.add_zero, hm', away_nil, p1]
      exact ⟨Or.inl ⟨by omega, by rw [show -P - -(P + ((0 : Nat) : Int)) = 0 by omega]; rfl⟩, sgn_le (by omega), fun m => Or.inl trivial⟩
    · have hr1 : 1 ≤ (r : Int) := by omega
      have hd : decide (r ≠ 0) = true := by simp [hr]
      simp only [hc, hd, decide_true, sv, if_true, Bool.true_and, Bool.not_true, Bool.false_eq_true, if_false, Nat.add_zero, hm', p1, Int.natCast_add, Int.natCast_one, p4]
      refine ⟨Or.inr ⟨by omega, sgn_lt (by omega)⟩, sgn_le (by omega), fun m => ?_⟩
      split
      · exact Or.inl (by omega)
      · exact Or.inr (by omega)
  · by_cases hr : r = 0
    · subst hr
      simp only [hc, decide_false, sv, ne_eq, not_true_eq_false, Bool.false_and, Bool.false_eq_true, if_false, Nat.add_zero, hm', away_nil, p2]
      exact ⟨Or.inl ⟨by omega, by rw [show P - (P + ((0 : Nat) : Int)) = 0 by omega]; rfl⟩, sgn_le (by omega), fun m => Or.inl trivial⟩
    · have hr1 : 1 ≤ (r : Int) := by omega
      have hd : decide (r ≠ 0) = true := by simp [hr]
      simp only [hc, hd, decide_false, sv, if_true, Bool.true_and, Bool.not_false, Bool.false_eq_true, if_false, Nat.add_zero, hm', p2, Int.natCast_add, Int.natCast_one, p3]
      refine ⟨Or.inr ⟨by omega, sgn_lt (by omega)⟩, sgn_le (by omega), fun m => ?_⟩
      split
      · exact Or.inr (by omega)
      · exact Or.inl (by omega)
theorem rescale_yes (c : Int) (s t mode : Nat) (w : World) (ic : InR c) (hs : (s : Int) ≤ 18) (ht : (t : Int) ≤ 18) (hm : (mode : Int) ≤ 6) (hr : InR (rv c s t mode)) :
    Calls Try.prog 10 #[.agg #[.int .i64 (dhi c), .int .u64 (dlo c), .int .i64 s], .int .i64 t, .int .i64 mode] w
      fun e w' => e = .returned (.tuple #[.agg #[.int .i64 (dhi (rv c s t mode)), .int .u64 (dlo (rv c s t mode)), .int .i64 t], .int .i64 0]) ∧ Below w.heap.size w w' :=
  rescale_ok c _ _ s t mode w (IsD.self _) ic hs ht hm (sv_in.1 hr)
theorem rescale_no (c : Int) (s t mode : Nat) (w : World) (ic : InR c) (hs : (s : Int) ≤ 18) (ht : (t : Int) ≤ 18) (hm : (mode : Int) ≤ 6) (hr : ¬ InR (rv c s t mode)) :
    Calls Try.prog 10 #[.agg #[.int .i64 (dhi c), .int .u64 (dlo c), .int .i64 s], .int .i64 t, .int .i64 mode] w
      fun e w' => e = .returned (.tuple #[.agg #[.int .i64 0, .int .u64 0, .int .i64 0], .int .i64 4]) ∧ Below w.heap.size w w' := by
  refine rescale_big c _ _ s t mode w (IsD.self _) ic hs ht hm ?_
  apply Classical.byContradiction
  intro hn
  exact hr (sv_in.2 (by omega))
set_option maxHeartbeats 400000 in
set_option maxRecDepth 100000 in
theorem rescale_arg (h l s t mode : Int) (w : World) (hb : (t < 0 ∨ 18 < t) ∨ mode < 0 ∨ 6 < mode) :
    Calls Try.prog 10 #[.agg #[.int .i64 h, .int .u64 l, .int .i64 s], .int .i64 t, .int .i64 mode] w
      fun e w' => e = .returned (.tuple #[.agg #[.int .i64 0, .int .u64 0, .int .i64 0], .int .i64 1]) ∧ Below w.heap.size w w' := by
  have H := (show Hid _ from hb)
  clear hb
  go_enter Try.func10, Try.ntmps10
  go_wp2_with (go_at_call 21; refine (rounding_bad _ _ _ H.out).mono ?_; rintro e w1 ⟨rfl, rfl⟩)
  refine bodyPost_ret (v := .tuple #[.agg #[.int .i64 0, .int .u64 0, .int .i64 0], .int .i64 1]) (by simp [results, Try.results10, go_sem]) rfl ⟨rfl, ?_⟩
  repeat (first | exact Below.refl _ _ | refine Below.drew ?_ | refine below_drewN ?_ _ | refine bel_alloc ?_ _ | refine bel_ext ?_ _ | (refine Below.setCell ?_ ?_ _; rotate_left; (simp <;> omega)))
set_option maxHeartbeats 400000 in
set_option maxRecDepth 100000 in
theorem rescale_form (h l s t : Int) (mode : Nat) (w : World) (ht0 : 0 ≤ t) (ht : t ≤ 18) (hm : (mode : Int) ≤ 6) (hb : Bad h l s) :
    Calls Try.prog 10 #[.agg #[.int .i64 h, .int .u64 l, .int .i64 s], .int .i64 t, .int .i64 mode] w
      fun e w' => e = .returned (.tuple #[.agg #[.int .i64 0, .int .u64 0, .int .i64 0], .int .i64 3]) ∧ Below w.heap.size w w' := by
  have H : Hid (Bad h l s) := hb
  clear hb
  go_enter Try.func10, Try.ntmps10
  go_wp2_with (first | (go_at_call 21; refine (rounding_ok _ _ _ ht0 ht hm).mono ?_; rintro e w1 ⟨rfl, rfl⟩) | (go_at_call 20; refine (check_bad _ _ _ _ H.out).mono ?_; rintro e w1 ⟨rfl, hb1⟩; obtain ⟨x, rfl⟩ := ext_of_below hb1; clear hb1))
  refine bodyPost_ret (v := .tuple #[.agg #[.int .i64 0, .int .u64 0, .int .i64 0], .int .i64 3]) (by simp [results, Try.results10, go_sem]) rfl ⟨rfl, ?_⟩
  repeat (first | exact Below.refl _ _ | refine Below.drew ?_ | refine below_drewN ?_ _ | refine bel_alloc ?_ _ | refine bel_ext ?_ _ | (refine Below.setCell ?_ ?_ _; rotate_left; (simp <;> omega)))
set_option maxHeartbeats 4000000 in
set_option maxRecDepth 100000 in
theorem between_lo (h l s t y0' y1' y2' e1 e2 : Int) (w : World) (he : e1 ≠ 0) (R2 : Hid (∀ w, Calls Try.prog 10 #[.agg #[.int .i64 h, .int .u64 l, .int .i64 s], .int .i64 t, .int .i64 2] w fun e w' => e = .returned (.tuple #[.agg #[.int .i64 0, .int .u64 0, .int .i64 0], .int .i64 e1]) ∧ Below w.heap.size w w')) (R3 : Hid (∀ w, Calls Try.prog 10 #[.agg #[.int .i64 h, .int .u64 l, .int .i64 s], .int .i64 t, .int .i64 3] w fun e w' => e = .returned (.tuple #[.agg #[.int .i64 y0', .int .u64 y1', .int .i64 y2'], .int .i64 e2]) ∧ Below w.heap.size w w')) :
    Calls Try.prog 3 #[.agg #[.int .i64 h, .int .u64 l, .int .i64 s], .int .i64 t] w fun e w' => e = .returned (.bool true) ∧ Below w.heap.size w w' := by
  go_enter Try.func3, Try.ntmps3
  go_wp2_with fail
  refine (awake_any _).mono ?_
  rintro e w1 ⟨rfl, bb⟩
  have Aa := (at3_new w (.int .i64 h) (.int .u64 l) (.int .i64 s) 24).step bb
  have G : Below w.heap.size w w1 := (bel_alloc (Below.refl _ _) _).trans (bb.mono (by simp <;> omega))
  clear bb
  obtain ⟨a0, a1, a2, a3⟩ := Aa
  go_wp2_with fail
  refine (R2.out _).mono ?_
  rintro e w2 ⟨rfl, bb⟩
  have Aa := ((At3.mk a0 a1 a2 a3)).step bb
  clear a0 a1 a2 a3
  have G := G.trans (bb.mono G.size)
  clear bb
  obtain ⟨a0, a1, a2, a3⟩ := Aa
  go_wp2_with fail
  refine (R3.out _).mono ?_
  rintro e w3 ⟨rfl, bb⟩
  have Aa := ((At3.mk a0 a1 a2 a3).alloc _).step bb
  clear a0 a1 a2 a3
  have Ax := (at3_new w2 _ _ _ _).step bb
  have G := G.trans ((below_over bb).mono G.size)
  clear bb
  generalize w2.heap.size = px at *
  obtain ⟨a0, a1, a2, a3⟩ := Aa
  obtain ⟨x0, x1, x2, x3⟩ := Ax
  go_wp2_with fail
  refine bodyPost_ret (v := .bool true) (by simp [results, Try.results3, go_sem]) rfl ⟨rfl, ?_⟩
  exact bel_alloc G _
set_option maxHeartbeats 4000000 in
set_option maxRecDepth 100000 in
theorem between_hi (h l s t y0' y1' y2' e2 : Int) (w : World) (he : e2 ≠ 0) (R2 : Hid (∀ w, Calls Try.prog 10 #[.agg #[.int .i64 h, .int .u64 l, .int .i64 s], .int .i64 t, .int .i64 2] w fun e w' => e = .returned (.tuple #[.agg #[.int .i64 y0', .int .u64 y1', .int .i64 y2'], .int .i64 0]) ∧ Below w.heap.size w w')) (R3 : Hid (∀ w, Calls Try.prog 10 #[.agg #[.int .i64 h, .int .u64 l, .int .i64 s], .int .i64 t, .int .i64 3] w fun e w' => e = .returned (.tuple #[.agg #[.int .i64 0, .int .u64 0, .int .i64 0], .int .i64 e2]) ∧ Below w.heap.size w w')) :
    Calls Try.prog 3 #[.agg #[.int .i64 h, .int .u64 l, .int .i64 s], .int .i64 t] w fun e w' => e = .returned (.bool true) ∧ Below w.heap.size w w' := by
  go_enter Try.func3, Try.ntmps3
  go_wp2_with fail
  refine (awake_any _).mono ?_
  rintro e w1 ⟨rfl, bb⟩
  have Aa := (at3_new w (.int .i64 h) (.int .u64 l) (.int .i64 s) 24).step bb
  have G : Below w.heap.size w w1 := (bel_alloc (Below.refl _ _) _).trans (bb.mono (by simp <;> omega))
  clear bb
  obtain ⟨a0, a1, a2, a3⟩ := Aa
  go_wp2_with fail
  refine (R2.out _).mono ?_
  rintro e w2 ⟨rfl, bb⟩
  have Aa := ((At3.mk a0 a1 a2 a3)).step bb
  clear a0 a1 a2 a3
  have G := G.trans (bb.mono G.size)
  clear bb
  obtain ⟨a0, a1, a2, a3⟩ := Aa
  go_wp2_with fail
  refine (R3.out _).mono ?_
  rintro e w3 ⟨rfl, bb⟩
  have Aa := ((At3.mk a0 a1 a2 a3).alloc _).step bb
  clear a0 a1 a2 a3
  have Ax := (at3_new w2 _ _ _ _).step bb
  have G := G.trans ((below_over bb).mono G.size)
  clear bb
  generalize w2.heap.size = px at *
  obtain ⟨a0, a1, a2, a3⟩ := Aa
  obtain ⟨x0, x1, x2, x3⟩ := Ax
  go_wp2_with fail
  refine bodyPost_ret (v := .bool true) (by simp [results, Try.results3, go_sem]) rfl ⟨rfl, ?_⟩
  exact bel_alloc G _
set_option maxHeartbeats 4000000 in
set_option maxRecDepth 100000 in
theorem between_same (h l s t L q : Int) (w : World) (hq : q ≤ 0) (R2 : Hid (∀ w, Calls Try.prog 10 #[.agg #[.int .i64 h, .int .u64 l, .int .i64 s], .int .i64 t, .int .i64 2] w fun e w' => e = .returned (.tuple #[.agg #[.int .i64 (dhi L), .int .u64 (dlo L), .int .i64 t], .int .i64 0]) ∧ Below w.heap.size w w')) (R3 : Hid (∀ w, Calls Try.prog 10 #[.agg #[.int .i64 h, .int .u64 l, .int .i64 s], .int .i64 t, .int .i64 3] w fun e w' => e = .returned (.tuple #[.agg #[.int .i64 (dhi L), .int .u64 (dlo L), .int .i64 t], .int .i64 0]) ∧ Below w.heap.size w w')) (C1 : Hid (∀ w, Calls Try.prog 11 #[.agg #[.int .i64 (dhi L), .int .u64 (dlo L), .int .i64 t], .agg #[.int .i64 h, .int .u64 l, .int .i64 s]] w fun e w' => e = .returned (.tuple #[.int .i64 0, .int .i64 0]) ∧ Below w.heap.size w w')) (C2 : Hid (∀ w, Calls Try.prog 11 #[.agg #[.int .i64 h, .int .u64 l, .int .i64 s], .agg #[.int .i64 (dhi L), .int .u64 (dlo L), .int .i64 t]] w fun e w' => e = .returned (.tuple #[.int .i64 q, .int .i64 0]) ∧ Below w.heap.size w w')) (S : Hid (∀ w, Calls Try.prog 12 #[.agg #[.int .i64 (dhi L), .int .u64 (dlo L), .int .i64 t], .agg #[.int .i64 (dhi L), .int .u64 (dlo L), .int .i64 t]] w fun e w' => e = .returned (.tuple #[.agg #[.int .i64 0, .int .u64 0, .int .i64 t], .int .i64 0]) ∧ Below w.heap.size w w')) (O : Hid (∀ w, Calls Try.prog 13 #[.int .i64 1, .int .i64 t] w fun e w' => e = .returned (.tuple #[.agg #[.int .i64 0, .int .u64 1, .int .i64 t], .int .i64 0]) ∧ Below w.heap.size w w')) (RM : Hid (∀ (m : Nat), (m : Int) ≤ 6 → ∀ w, Calls Try.prog 10 #[.agg #[.int .i64 h, .int .u64 l, .int .i64 s], .int .i64 t, .int .i64 m] w fun e w' => e = .returned (.tuple #[.agg #[.int .i64 (dhi L), .int .u64 (dlo L), .int .i64 t], .int .i64 0]) ∧ Below w.heap.size w w')) :
    Calls Try.prog 3 #[.agg #[.int .i64 h, .int .u64 l, .int .i64 s], .int .i64 t] w fun e w' => e = .returned (.bool true) ∧ Below w.heap.size w w' := by
  go_enter Try.func3, Try.ntmps3
  go_wp2_with fail
  refine (awake_any _).mono ?_
  rintro e w1 ⟨rfl, bb⟩
  have Aa := (at3_new w (.int .i64 h) (.int .u64 l) (.int .i64 s) 24).step bb
  have G : Below w.heap.size w w1 := (bel_alloc (Below.refl _ _) _).trans (bb.mono (by simp <;> omega))
  clear bb
  obtain ⟨a0, a1, a2, a3⟩ := Aa
  go_wp2_with fail
  refine (R2.out _).mono ?_
  rintro e w2 ⟨rfl, bb⟩
  have Aa := ((At3.mk a0 a1 a2 a3)).step bb
  clear a0 a1 a2 a3
  have G := G.trans (bb.mono G.size)
  clear bb
  obtain ⟨a0, a1, a2, a3⟩ := Aa
  go_wp2_with fail
  refine (R3.out _).mono ?_
  rintro e w3 ⟨rfl, bb⟩
  have Aa := ((At3.mk a0 a1 a2 a3).alloc _).step bb
  clear a0 a1 a2 a3
  have Ax := (at3_new w2 _ _ _ _).step bb
  have G := G.trans ((below_over bb).mono G.size)
  clear bb
  generalize w2.heap.size = px at *
  obtain ⟨a0, a1, a2, a3⟩ := Aa
  obtain ⟨x0, x1, x2, x3⟩ := Ax
  go_wp2_with fail
  refine (C1.out _).mono ?_
  rintro e w4 ⟨rfl, bb⟩
  have Aa := ((At3.mk a0 a1 a2 a3).alloc _).step bb
  have Ax := ((At3.mk x0 x1 x2 x3).alloc _).step bb
  clear a0 a1 a2 a3 x0 x1 x2 x3
  have Ay := (at3_new w3 _ _ _ _).step bb
  have G := G.trans ((below_over bb).mono G.size)
  clear bb
  generalize w3.heap.size = py at *
  obtain ⟨a0, a1, a2, a3⟩ := Aa
  obtain ⟨x0, x1, x2, x3⟩ := Ax
  obtain ⟨y0, y1, y2, y3⟩ := Ay
  go_wp2_with fail
  refine (C2.out _).mono ?_
  rintro e w5 ⟨rfl, bb⟩
  have Aa := ((At3.mk a0 a1 a2 a3)).step bb
  have Ax := ((At3.mk x0 x1 x2 x3)).step bb
  have Ay := ((At3.mk y0 y1 y2 y3)).step bb
  clear a0 a1 a2 a3 x0 x1 x2 x3 y0 y1 y2 y3
  have G := G.trans (bb.mono G.size)
  clear bb
  obtain ⟨a0, a1, a2, a3⟩ := Aa
  obtain ⟨x0, x1, x2, x3⟩ := Ax
  obtain ⟨y0, y1, y2, y3⟩ := Ay
  go_wp2_with fail
  refine (S.out _).mono ?_
  rintro e w6 ⟨rfl, bb⟩
  have Aa := ((At3.mk a0 a1 a2 a3)).step bb
  have Ax := ((At3.mk x0 x1 x2 x3)).step bb
  have Ay := ((At3.mk y0 y1 y2 y3)).step bb
  clear a0 a1 a2 a3 x0 x1 x2 x3 y0 y1 y2 y3
  have G := G.trans (bb.mono G.size)
  clear bb
  obtain ⟨a0, a1, a2, a3⟩ := Aa
  obtain ⟨x0, x1, x2, x3⟩ := Ax
  obtain ⟨y0, y1, y2, y3⟩ := Ay
  go_wp2_with fail
  refine (O.out _).mono ?_
  rintro e w7 ⟨rfl, bb⟩
  have Aa := ((At3.mk a0 a1 a2 a3).alloc _).step bb
  have Ax := ((At3.mk x0 x1 x2 x3).alloc _).step bb
  have Ay := ((At3.mk y0 y1 y2 y3).alloc _).step bb
  clear a0 a1 a2 a3 x0 x1 x2 x3 y0 y1 y2 y3
  have Ag := (at3_new w6 _ _ _ _).step bb
  have G := G.trans ((below_over bb).mono G.size)
  clear bb
  generalize w6.heap.size = pg at *
  obtain ⟨a0, a1, a2, a3⟩ := Aa
  obtain ⟨x0, x1, x2, x3⟩ := Ax
  obtain ⟨y0, y1, y2, y3⟩ := Ay
  obtain ⟨g0, g1, g2, g3⟩ := Ag
  go_wp2_with fail
  have Aa := (At3.mk a0 a1 a2 a3).alloc (.cells #[.int .i64 0, .int .u64 1, .int .i64 t] 24)
  have Ax := (At3.mk x0 x1 x2 x3).alloc (.cells #[.int .i64 0, .int .u64 1, .int .i64 t] 24)
  have Ay := (At3.mk y0 y1 y2 y3).alloc (.cells #[.int .i64 0, .int .u64 1, .int .i64 t] 24)
  clear a0 a1 a2 a3 x0 x1 x2 x3 y0 y1 y2 y3 g0 g1 g2 g3
  have G := bel_alloc G (.cells #[.int .i64 0, .int .u64 1, .int .i64 t] 24)
  generalize w7.alloc (.cells #[.int .i64 0, .int .u64 1, .int .i64 t] 24) = w8 at *
  generalize w7.heap.size = po at *
  obtain ⟨a0, a1, a2, a3⟩ := Aa
  obtain ⟨x0, x1, x2, x3⟩ := Ax
  obtain ⟨y0, y1, y2, y3⟩ := Ay
  have Aa := At3.mk a0 a1 a2 a3
  have Ax := At3.mk x0 x1 x2 x3
  have Ay := At3.mk y0 y1 y2 y3
  clear a0 a1 a2 a3 x0 x1 x2 x3 y0 y1 y2 y3
  go_loopw [120] (fun i wr => ∃ j : Nat, j ≤ 7 ∧ i = .int .i64 j ∧ At3 wr w.heap.size (.int .i64 h) (.int .u64 l) (.int .i64 s) ∧ At3 wr px (.int .i64 (dhi L)) (.int .u64 (dlo L)) (.int .i64 t) ∧ At3 wr py (.int .i64 (dhi L)) (.int .u64 (dlo L)) (.int .i64 t) ∧ Below w.heap.size w wr) (fun i _ => 7 - (intOf i).toNat)
  case atStart => exact ⟨0, by omega, rfl, Aa, Ax, Ay, G⟩
  case round =>
    clear Aa Ax Ay G
    obtain ⟨j, hj, rfl, Aa, Ax, Ay, G⟩ := hrel
    by_cases hj7 : j = 7
    · subst hj7
      clear Aa Ax Ay
      go_wp2_with fail
      refine bodyPost_ret (v := .bool true) (by simp [results, Try.results3, go_sem]) rfl ⟨rfl, ?_⟩
      exact G
    have hj6 : (j : Int) ≤ 6 := by omega
    have RL := RM.out j hj6
    obtain ⟨a0, a1, a2, a3⟩ := Aa
    obtain ⟨x0, x1, x2, x3⟩ := Ax
    obtain ⟨y0, y1, y2, y3⟩ := Ay
    go_wp2_with fail
    refine (RL _).mono ?_
    rintro e w9 ⟨rfl, bb⟩
    have Aa := ((At3.mk a0 a1 a2 a3)).step bb
    have Ax := ((At3.mk x0 x1 x2 x3)).step bb
    have Ay := ((At3.mk y0 y1 y2 y3)).step bb
    clear a0 a1 a2 a3 x0 x1 x2 x3 y0 y1 y2 y3
    have G := G.trans (bb.mono G.size)
    clear bb
    obtain ⟨a0, a1, a2, a3⟩ := Aa
    obtain ⟨x0, x1, x2, x3⟩ := Ax
    obtain ⟨y0, y1, y2, y3⟩ := Ay
    go_wp2_with fail
    all_goals
      go_roundw
      case rel => exact ⟨j + 1, by omega, by go_num, (At3.mk a0 a1 a2 a3).alloc _, (At3.mk x0 x1 x2 x3).alloc _, (At3.mk y0 y1 y2 y3).alloc _, bel_alloc G _⟩
      case measure => simp [intOf]; omega
set_option maxHeartbeats 4000000 in
set_option maxRecDepth 100000 in
theorem between_next (h l s t L H q : Int) (w : World) (hq : q ≤ 0) (hne : ¬ dlo H = dlo L) (R2 : Hid (∀ w, Calls Try.prog 10 #[.agg #[.int .i64 h, .int .u64 l, .int .i64 s], .int .i64 t, .int .i64 2] w fun e w' => e = .returned (.tuple #[.agg #[.int .i64 (dhi L), .int .u64 (dlo L), .int .i64 t], .int .i64 0]) ∧ Below w.heap.size w w')) (R3 : Hid (∀ w, Calls Try.prog 10 #[.agg #[.int .i64 h, .int .u64 l, .int .i64 s], .int .i64 t, .int .i64 3] w fun e w' => e = .returned (.tuple #[.agg #[.int .i64 (dhi H), .int .u64 (dlo H), .int .i64 t], .int .i64 0]) ∧ Below w.heap.size w w')) (C1 : Hid (∀ w, Calls Try.prog 11 #[.agg #[.int .i64 (dhi L), .int .u64 (dlo L), .int .i64 t], .agg #[.int .i64 h, .int .u64 l, .int .i64 s]] w fun e w' => e = .returned (.tuple #[.int .i64 (-1), .int .i64 0]) ∧ Below w.heap.size w w')) (C2 : Hid (∀ w, Calls Try.prog 11 #[.agg #[.int .i64 h, .int .u64 l, .int .i64 s], .agg #[.int .i64 (dhi H), .int .u64 (dlo H), .int .i64 t]] w fun e w' => e = .returned (.tuple #[.int .i64 q, .int .i64 0]) ∧ Below w.heap.size w w')) (S : Hid (∀ w, Calls Try.prog 12 #[.agg #[.int .i64 (dhi H), .int .u64 (dlo H), .int .i64 t], .agg #[.int .i64 (dhi L), .int .u64 (dlo L), .int .i64 t]] w fun e w' => e = .returned (.tuple #[.agg #[.int .i64 0, .int .u64 1, .int .i64 t], .int .i64 0]) ∧ Below w.heap.size w w')) (O : Hid (∀ w, Calls Try.prog 13 #[.int .i64 1, .int .i64 t] w fun e w' => e = .returned (.tuple #[.agg #[.int .i64 0, .int .u64 1, .int .i64 t], .int .i64 0]) ∧ Below w.heap.size w w')) (RM : Hid (∀ (m : Nat), (m : Int) ≤ 6 → (∀ w, Calls Try.prog 10 #[.agg #[.int .i64 h, .int .u64 l, .int .i64 s], .int .i64 t, .int .i64 m] w fun e w' => e = .returned (.tuple #[.agg #[.int .i64 (dhi L), .int .u64 (dlo L), .int .i64 t], .int .i64 0]) ∧ Below w.heap.size w w') ∨ (∀ w, Calls Try.prog 10 #[.agg #[.int .i64 h, .int .u64 l, .int .i64 s], .int .i64 t, .int .i64 m] w fun e w' => e = .returned (.tuple #[.agg #[.int .i64 (dhi H), .int .u64 (dlo H), .int .i64 t], .int .i64 0]) ∧ Below w.heap.size w w'))) :
    Calls Try.prog 3 #[.agg #[.int .i64 h, .int .u64 l, .int .i64 s], .int .i64 t] w fun e w' => e = .returned (.bool true) ∧ Below w.heap.size w w' := by
  go_enter Try.func3, Try.ntmps3
  go_wp2_with fail
  refine (awake_any _).mono ?_
  rintro e w1 ⟨rfl, bb⟩
  have Aa := (at3_new w (.int .i64 h) (.int .u64 l) (.int .i64 s) 24).step bb
  have G : Below w.heap.size w w1 := (bel_alloc (Below.refl _ _) _).trans (bb.mono (by simp <;> omega))
  clear bb
  obtain ⟨a0, a1, a2, a3⟩ := Aa
  go_wp2_with fail
  refine (R2.out _).mono ?_
  rintro e w2 ⟨rfl, bb⟩
  have Aa := ((At3.mk a0 a1 a2 a3)).step bb
  clear a0 a1 a2 a3
  have G := G.trans (bb.mono G.size)
  clear bb
  obtain ⟨a0, a1, a2, a3⟩ := Aa
  go_wp2_with fail
  refine (R3.out _).mono ?_
  rintro e w3 ⟨rfl, bb⟩
  have Aa := ((At3.mk a0 a1 a2 a3).alloc _).step bb
  clear a0 a1 a2 a3
  have Ax := (at3_new w2 _ _ _ _).step bb
  have G := G.trans ((below_over bb).mono G.size)
  clear bb
  generalize w2.heap.size = px at *
  obtain ⟨a0, a1, a2, a3⟩ := Aa
  obtain ⟨x0, x1, x2, x3⟩ := Ax
  go_wp2_with fail
  refine (C1.out _).mono ?_
  rintro e w4 ⟨rfl, bb⟩
  have Aa := ((At3.mk a0 a1 a2 a3).alloc _).step bb
  have Ax := ((At3.mk x0 x1 x2 x3).alloc _).step bb
  clear a0 a1 a2 a3 x0 x1 x2 x3
  have Ay := (at3_new w3 _ _ _ _).step bb
  have G := G.trans ((below_over bb).mono G.size)
  clear bb
  generalize w3.heap.size = py at *
  obtain ⟨a0, a1, a2, a3⟩ := Aa
  obtain ⟨x0, x1, x2, x3⟩ := Ax
  obtain ⟨y0, y1, y2, y3⟩ := Ay
  go_wp2_with fail
  refine (C2.out _).mono ?_
  rintro e w5 ⟨rfl, bb⟩
  have Aa := ((At3.mk a0 a1 a2 a3)).step bb
  have Ax := ((At3.mk x0 x1 x2 x3)).step bb
  have Ay := ((At3.mk y0 y1 y2 y3)).step bb
  clear a0 a1 a2 a3 x0 x1 x2 x3 y0 y1 y2 y3
  have G := G.trans (bb.mono G.size)
  clear bb
  obtain ⟨a0, a1, a2, a3⟩ := Aa
  obtain ⟨x0, x1, x2, x3⟩ := Ax
  obtain ⟨y0, y1, y2, y3⟩ := Ay
  go_wp2_with fail
  refine (S.out _).mono ?_
  rintro e w6 ⟨rfl, bb⟩
  have Aa := ((At3.mk a0 a1 a2 a3)).step bb
  have Ax := ((At3.mk x0 x1 x2 x3)).step bb
  have Ay := ((At3.mk y0 y1 y2 y3)).step bb
  clear a0 a1 a2 a3 x0 x1 x2 x3 y0 y1 y2 y3
  have G := G.trans (bb.mono G.size)
  clear bb
  obtain ⟨a0, a1, a2, a3⟩ := Aa
  obtain ⟨x0, x1, x2, x3⟩ := Ax
  obtain ⟨y0, y1, y2, y3⟩ := Ay
  go_wp2_with fail
  refine (O.out _).mono ?_
  rintro e w7 ⟨rfl, bb⟩
  have Aa := ((At3.mk a0 a1 a2 a3).alloc _).step bb
  have Ax := ((At3.mk x0 x1 x2 x3).alloc _).step bb
  have Ay := ((At3.mk y0 y1 y2 y3).alloc _).step bb
  clear a0 a1 a2 a3 x0 x1 x2 x3 y0 y1 y2 y3
  have Ag := (at3_new w6 _ _ _ _).step bb
  have G := G.trans ((below_over bb).mono G.size)
  clear bb
  generalize w6.heap.size = pg at *
  obtain ⟨a0, a1, a2, a3⟩ := Aa
  obtain ⟨x0, x1, x2, x3⟩ := Ax
  obtain ⟨y0, y1, y2, y3⟩ := Ay
  obtain ⟨g0, g1, g2, g3⟩ := Ag
  go_wp2_with fail
  have Aa := (At3.mk a0 a1 a2 a3).alloc (.cells #[.int .i64 0, .int .u64 1, .int .i64 t] 24)
  have Ax := (At3.mk x0 x1 x2 x3).alloc (.cells #[.int .i64 0, .int .u64 1, .int .i64 t] 24)
  have Ay := (At3.mk y0 y1 y2 y3).alloc (.cells #[.int .i64 0, .int .u64 1, .int .i64 t] 24)
  clear a0 a1 a2 a3 x0 x1 x2 x3 y0 y1 y2 y3 g0 g1 g2 g3
  have G := bel_alloc G (.cells #[.int .i64 0, .int .u64 1, .int .i64 t] 24)
  generalize w7.alloc (.cells #[.int .i64 0, .int .u64 1, .int .i64 t] 24) = w8 at *
  generalize w7.heap.size = po at *
  obtain ⟨a0, a1, a2, a3⟩ := Aa
  obtain ⟨x0, x1, x2, x3⟩ := Ax
  obtain ⟨y0, y1, y2, y3⟩ := Ay
  have Aa := At3.mk a0 a1 a2 a3
  have Ax := At3.mk x0 x1 x2 x3
  have Ay := At3.mk y0 y1 y2 y3
  clear a0 a1 a2 a3 x0 x1 x2 x3 y0 y1 y2 y3
  go_loopw [120] (fun i wr => ∃ j : Nat, j ≤ 7 ∧ i = .int .i64 j ∧ At3 wr w.heap.size (.int .i64 h) (.int .u64 l) (.int .i64 s) ∧ At3 wr px (.int .i64 (dhi L)) (.int .u64 (dlo L)) (.int .i64 t) ∧ At3 wr py (.int .i64 (dhi H)) (.int .u64 (dlo H)) (.int .i64 t) ∧ Below w.heap.size w wr) (fun i _ => 7 - (intOf i).toNat)
  case atStart => exact ⟨0, by omega, rfl, Aa, Ax, Ay, G⟩
  case round =>
    clear Aa Ax Ay G
    obtain ⟨j, hj, rfl, Aa, Ax, Ay, G⟩ := hrel
    by_cases hj7 : j = 7
    · subst hj7
      clear Aa Ax Ay
      go_wp2_with fail
      refine bodyPost_ret (v := .bool true) (by simp [results, Try.results3, go_sem]) rfl ⟨rfl, ?_⟩
      exact G
    have hj6 : (j : Int) ≤ 6 := by omega
    rcases RM.out j hj6 with RL | RL
    · obtain ⟨a0, a1, a2, a3⟩ := Aa
      obtain ⟨x0, x1, x2, x3⟩ := Ax
      obtain ⟨y0, y1, y2, y3⟩ := Ay
      go_wp2_with fail
      refine (RL _).mono ?_
      rintro e w9 ⟨rfl, bb⟩
      have Aa := ((At3.mk a0 a1 a2 a3)).step bb
      have Ax := ((At3.mk x0 x1 x2 x3)).step bb
      have Ay := ((At3.mk y0 y1 y2 y3)).step bb
      clear a0 a1 a2 a3 x0 x1 x2 x3 y0 y1 y2 y3
      have G := G.trans (bb.mono G.size)
      clear bb
      obtain ⟨a0, a1, a2, a3⟩ := Aa
      obtain ⟨x0, x1, x2, x3⟩ := Ax
      obtain ⟨y0, y1, y2, y3⟩ := Ay
      go_wp2_with fail
      all_goals
        go_roundw
        case rel => exact ⟨j + 1, by omega, by go_num, (At3.mk a0 a1 a2 a3).alloc _, (At3.mk x0 x1 x2 x3).alloc _, (At3.mk y0 y1 y2 y3).alloc _, bel_alloc G _⟩
        case measure => simp [intOf]; omega
    · obtain ⟨a0, a1, a2, a3⟩ := Aa
      obtain ⟨x0, x1, x2, x3⟩ := Ax
      obtain ⟨y0, y1, y2, y3⟩ := Ay
      go_wp2_with fail
      refine (RL _).mono ?_
      rintro e w9 ⟨rfl, bb⟩
      have Aa := ((At3.mk a0 a1 a2 a3)).step bb
      have Ax := ((At3.mk x0 x1 x2 x3)).step bb
      have Ay := ((At3.mk y0 y1 y2 y3)).step bb
      clear a0 a1 a2 a3 x0 x1 x2 x3 y0 y1 y2 y3
      have G := G.trans (bb.mono G.size)
      clear bb
      obtain ⟨a0, a1, a2, a3⟩ := Aa
      obtain ⟨x0, x1, x2, x3⟩ := Ax
      obtain ⟨y0, y1, y2, y3⟩ := Ay
      go_wp2_with fail
      all_goals
        go_roundw
        case rel => exact ⟨j + 1, by omega, by go_num, (At3.mk a0 a1 a2 a3).alloc _, (At3.mk x0 x1 x2 x3).alloc _, (At3.mk y0 y1 y2 y3).alloc _, bel_alloc G _⟩
        case measure => simp [intOf]; omega

end Go.Proofs.Ytponhogmbbjnbaa
