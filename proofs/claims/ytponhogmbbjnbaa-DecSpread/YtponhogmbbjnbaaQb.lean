/- The law DecBack: its arithmetic and its walk. -/
import Derived.Test.YtponhogmbbjnbaaQa
import Derived.OpenShut
namespace Go.Proofs.Ytponhogmbbjnbaa
open Go.RowKit
set_option linter.unusedVariables false
attribute [local go_sem] ext_cell ext_frozen ext_drew ext_of_drew ext_of_drewN ext_setCell ext_lt ext_lt1 ext_lt2 ext_lt3 lt_n2 lt_n3 lt_n4 lt_n5 lt_n6

theorem rquo_one (neg : Bool) (n mode : Nat) : rquo neg n 1 0 mode = n := by
  unfold rquo rnum rden away
  simp [Nat.mod_one]
theorem rquo_whole (neg : Bool) (n d mode : Nat) (hd : 0 < d) : rquo neg (n * d) d 0 mode = n := by
  unfold rquo rnum rden away
  simp [Nat.mul_div_cancel _ hd]
theorem sv_mul (a b : Int) : sv ((decide (a < 0)) != (decide (b < 0))) (a.natAbs * b.natAbs) = a * b := by
  unfold sv
  rcases Int.lt_or_le a 0 with ha | ha <;> rcases Int.lt_or_le b 0 with hb | hb
  · rw [Int.natCast_mul, show (a.natAbs : Int) = -a by omega, show (b.natAbs : Int) = -b by omega]
    simp [ha, hb, Int.neg_mul, Int.mul_neg]
  · rw [Int.natCast_mul, show (a.natAbs : Int) = -a by omega, show (b.natAbs : Int) = b by omega]
    simp [ha, show ¬ b < 0 by omega, Int.neg_mul]
  · rw [Int.natCast_mul, show (a.natAbs : Int) = a by omega, show (b.natAbs : Int) = -b by omega]
    simp [hb, show ¬ a < 0 by omega, Int.mul_neg]
  · rw [Int.natCast_mul, show (a.natAbs : Int) = a by omega, show (b.natAbs : Int) = b by omega]
    simp [show ¬ a < 0 by omega, show ¬ b < 0 by omega]
theorem sv_quo (a b : Int) (hb : b ≠ 0) : sv ((decide (a * b < 0)) != (decide (b < 0))) a.natAbs = a := by
  unfold sv
  by_cases h0 : a = 0
  · subst h0; simp
  rcases Int.lt_or_le a 0 with ha | ha <;> rcases Int.lt_or_le b 0 with hb' | hb'
  · have : ¬ a * b < 0 := Int.not_lt.2 (Int.le_of_lt (Int.mul_pos_of_neg_of_neg ha hb'))
    simp [this, hb']; omega
  · have : a * b < 0 := Int.mul_neg_of_neg_of_pos ha (by omega)
    simp [this, show ¬ b < 0 by omega]; omega
  · have : a * b < 0 := Int.mul_neg_of_pos_of_neg (by omega) hb'
    simp [this, hb']; omega
  · have : ¬ a * b < 0 := Int.not_lt.2 (Int.mul_nonneg ha hb')
    simp [this, show ¬ b < 0 by omega]; omega

theorem mul_whole (x y : Int) (s mode : Nat) (w : World) (hx : InR x) (hy : InR y) (hs : (s : Int) ≤ 18) (hm : (mode : Int) ≤ 6) (hr : InR (x * y)) :
    Calls Try.prog 14 #[.agg #[.int .i64 (dhi x), .int .u64 (dlo x), .int .i64 s], .agg #[.int .i64 (dhi y), .int .u64 (dlo y), .int .i64 0], .int .i64 s, .int .i64 mode] w
      fun e w' => e = .returned (.tuple #[.agg #[.int .i64 (dhi (x * y)), .int .u64 (dlo (x * y)), .int .i64 s], .int .i64 0]) ∧ Below w.heap.size w w' := by
  have e : rquo ((decide (x < 0)) != (decide (y < 0))) (x.natAbs * y.natAbs) 1 ((s : Int) - (s : Int) - ((0 : Nat) : Int)) mode = x.natAbs * y.natAbs := by
    rw [show (s : Int) - (s : Int) - ((0 : Nat) : Int) = 0 by omega]; exact rquo_one _ _ _
  have h := mul_ok x _ _ y _ _ s 0 s mode w (IsD.self x) (IsD.self y) hx hy hs (by decide) hs hm (by
    rw [e, ← Int.natAbs_mul]; have := hr.lo; have := hr.hi; omega)
  rw [e, sv_mul] at h
  exact h
theorem quo_whole (x y : Int) (s mode : Nat) (w : World) (hx : InR x) (hy : InR y) (hs : (s : Int) ≤ 18) (hm : (mode : Int) ≤ 6) (hr : InR (x * y)) (h0 : ¬ y = 0) :
    Calls Try.prog 15 #[.agg #[.int .i64 (dhi (x * y)), .int .u64 (dlo (x * y)), .int .i64 s], .agg #[.int .i64 (dhi y), .int .u64 (dlo y), .int .i64 0], .int .i64 s, .int .i64 mode] w
      fun e w' => e = .returned (.tuple #[.agg #[.int .i64 (dhi x), .int .u64 (dlo x), .int .i64 s], .int .i64 0]) ∧ Below w.heap.size w w' := by
  have e : rquo ((decide (x * y < 0)) != (decide (y < 0))) (x * y).natAbs y.natAbs ((s : Int) + ((0 : Nat) : Int) - (s : Int)) mode = x.natAbs := by
    rw [show (s : Int) + ((0 : Nat) : Int) - (s : Int) = 0 by omega, Int.natAbs_mul]; exact rquo_whole _ _ _ _ (by omega)
  have h := quo_ok (x * y) _ _ y _ _ s 0 s mode w (IsD.self _) (IsD.self y) hr hy hs (by decide) hs hm h0 (by
    rw [e]; have := hx.lo; have := hx.hi; omega)
  rw [e, sv_quo x y h0] at h
  exact h

theorem of_whole (n : Int) (w : World) (h1 : -9223372036854775808 ≤ n) (h2 : n ≤ 9223372036854775807) :
    Calls Try.prog 13 #[.int .i64 n, .int .i64 0] w
      fun e w' => e = .returned (.tuple #[.agg #[.int .i64 (dhi n), .int .u64 (dlo n), .int .i64 0], .int .i64 0]) ∧ Below w.heap.size w w' := of_ok n 0 w h1 h2 (by decide)
theorem back_scale (c : Int) : ∃ s : Nat, wrap64 ((IntKind.u64.wrap c).tmod 10) = (s : Int) ∧ (s : Int) ≤ 9 := by
  have h : 0 ≤ IntKind.u64.wrap c := by rw [IntKind.wrap_u64]; omega
  refine ⟨((IntKind.u64.wrap c) % 10).toNat, ?_, ?_⟩
  · rw [Int.tmod_eq_emod_of_nonneg h]; unfold wrap64; omega
  · omega
theorem small_in {x : Int} (h1 : -4611686018427387904 ≤ x) (h2 : x ≤ 4611686018427387904) : InR x := ⟨by rw [M127_eq]; omega, by rw [M127_eq]; omega⟩
theorem mul_small {x y : Int} (hx : -2147483648 ≤ x ∧ x ≤ 2147483647) (hy : -2147483648 ≤ y ∧ y ≤ 2147483647) : -4611686018427387904 ≤ x * y ∧ x * y ≤ 4611686018427387904 := by
  have h : (x * y).natAbs ≤ 2147483648 * 2147483648 := by
    rw [Int.natAbs_mul]; exact Nat.mul_le_mul (by omega) (by omega)
  omega

theorem of_zero (w : World) : Calls Try.prog 13 #[.int .i64 0, .int .i64 0] w
      fun e w' => e = .returned (.tuple #[.agg #[.int .i64 0, .int .u64 0, .int .i64 0], .int .i64 0]) ∧ Below w.heap.size w w' := of_ok 0 0 w (by decide) (by decide) (by decide)
theorem zero_in : InR 0 := ⟨by decide, by decide⟩
theorem mul_zero (x : Int) (s mode : Nat) (w : World) (hx : InR x) (hs : (s : Int) ≤ 18) (hm : (mode : Int) ≤ 6) :
    Calls Try.prog 14 #[.agg #[.int .i64 (dhi x), .int .u64 (dlo x), .int .i64 s], .agg #[.int .i64 0, .int .u64 0, .int .i64 0], .int .i64 s, .int .i64 mode] w
      fun e w' => e = .returned (.tuple #[.agg #[.int .i64 0, .int .u64 0, .int .i64 s], .int .i64 0]) ∧ Below w.heap.size w w' := by
  have h := mul_whole x 0 s mode w hx zero_in hs hm (by rw [Int.mul_zero]; exact zero_in)
  rw [Int.mul_zero] at h
  exact h
theorem quo_none (s mode : Nat) (w : World) (hs : (s : Int) ≤ 18) (hm : (mode : Int) ≤ 6) :
    Calls Try.prog 15 #[.agg #[.int .i64 0, .int .u64 0, .int .i64 s], .agg #[.int .i64 0, .int .u64 0, .int .i64 0], .int .i64 s, .int .i64 mode] w
      fun e w' => e = .returned (.tuple #[.agg #[.int .i64 0, .int .u64 0, .int .i64 0], .int .i64 5]) ∧ Below w.heap.size w w' :=
  quo_zero 0 _ _ 0 _ _ s 0 s mode w ⟨rfl, rfl⟩ ⟨rfl, rfl⟩ zero_in zero_in hs (by decide) hs hm rfl

set_option maxHeartbeats 1000000 in
set_option maxRecDepth 100000 in
theorem back_none (x c : Int) (s : Nat) (hs : wrap64 ((IntKind.u64.wrap c).tmod 10) = (s : Int)) (hle : (s : Int) ≤ 9) (hx64 : wrap64 x = x) (XR : InR x) (XB : Hid (-2147483648 ≤ x ∧ x ≤ 2147483647)) (w : World) :
    Calls Try.prog 4 #[.int .i32 x, .int .i32 0, .int .i64 c] w fun e w' => e = .returned (.bool true) ∧ Below w.heap.size w w' := by
  go_enter Try.func4, Try.ntmps4
  go_wp2_with (go_at_call 9; refine (awake_any _).mono ?_; rintro e w1 ⟨rfl, b1⟩)
  refine (of_ok x s _ (by have := XB.out; omega) (by have := XB.out; omega) (by omega)).mono ?_
  rintro e w2 ⟨rfl, b2⟩
  have B2 : Below w.heap.size w w2 := b1.trans (b2.mono b1.size)
  clear b1 b2
  go_wp2_with fail
  refine (of_zero _).mono ?_
  rintro e w3 ⟨rfl, b3⟩
  have A1 := (at3_new w2 _ _ _ _).step b3
  have B3 : Below w.heap.size w w3 := B2.trans ((below_over b3).mono B2.size)
  clear b3 B2
  generalize w2.heap.size = p1 at *
  go_wp2_with fail
  refine wp_loop_rounds 8 ?_
  have E := A1.alloc (.cells #[.int .i64 0, .int .u64 0, .int .i64 0] 24)
  have F := at3_new w3 (.int .i64 0) (.int .u64 0) (.int .i64 0) 24
  have G : Below w.heap.size w _ := bel_alloc B3 (.cells #[.int .i64 0, .int .u64 0, .int .i64 0] 24)
  generalize w3.alloc (.cells #[.int .i64 0, .int .u64 0, .int .i64 0] 24) = w4 at *
  clear A1 B3
  generalize w3.heap.size = p2 at *
  rw [rounds_succ]
  obtain ⟨e0, e1, e2, e3⟩ := E
  obtain ⟨f0, f1, f2, f3⟩ := F
  go_wp2_with fail
  refine (mul_zero x s 0 _ XR (by omega) (by decide)).mono ?_
  rintro e wa ⟨rfl, ba⟩
  have E := (At3.mk e0 e1 e2 e3).step ba
  have F := (At3.mk f0 f1 f2 f3).step ba
  have Ga := G.trans (ba.mono G.size)
  clear e0 e1 e2 e3 f0 f1 f2 f3 ba G
  obtain ⟨f0, f1, f2, f3⟩ := F
  go_wp2_with fail
  refine (quo_none s 0 _ (by omega) (by decide)).mono ?_
  rintro e wb ⟨rfl, bb⟩
  have E := (E.alloc _).step bb
  have F := ((At3.mk f0 f1 f2 f3).alloc _).step bb
  obtain ⟨g0, g1, g2, g3⟩ := (at3_new wa _ _ _ _).step bb
  have Gb := Ga.trans ((below_over bb).mono Ga.size)
  clear f0 f1 f2 f3 bb Ga
  generalize wa.heap.size = pa at *
  go_wp2_with fail
  have E := E.alloc (.cells #[.int .i64 0, .int .u64 0, .int .i64 0] 24)
  have F := F.alloc (.cells #[.int .i64 0, .int .u64 0, .int .i64 0] 24)
  have G := bel_alloc Gb (.cells #[.int .i64 0, .int .u64 0, .int .i64 0] 24)
  clear g0 g1 g2 g3 Gb
  generalize wb.alloc (.cells #[.int .i64 0, .int .u64 0, .int .i64 0] 24) = wc at *
  generalize wb.heap.size = pb at *
  rw [rounds_succ]
  obtain ⟨e0, e1, e2, e3⟩ := E
  obtain ⟨f0, f1, f2, f3⟩ := F
  go_wp2_with fail
  refine (mul_zero x s 1 _ XR (by omega) (by decide)).mono ?_
  rintro e wa ⟨rfl, ba⟩
  have E := (At3.mk e0 e1 e2 e3).step ba
  have F := (At3.mk f0 f1 f2 f3).step ba
  have Ga := G.trans (ba.mono G.size)
  clear e0 e1 e2 e3 f0 f1 f2 f3 ba G
  obtain ⟨f0, f1, f2, f3⟩ := F
  go_wp2_with fail
  refine (quo_none s 1 _ (by omega) (by decide)).mono ?_
  rintro e wb ⟨rfl, bb⟩
  have E := (E.alloc _).step bb
  have F := ((At3.mk f0 f1 f2 f3).alloc _).step bb
  obtain ⟨g0, g1, g2, g3⟩ := (at3_new wa _ _ _ _).step bb
  have Gb := Ga.trans ((below_over bb).mono Ga.size)
  clear f0 f1 f2 f3 bb Ga
  generalize wa.heap.size = pa at *
  go_wp2_with fail
  have E := E.alloc (.cells #[.int .i64 0, .int .u64 0, .int .i64 0] 24)
  have F := F.alloc (.cells #[.int .i64 0, .int .u64 0, .int .i64 0] 24)
  have G := bel_alloc Gb (.cells #[.int .i64 0, .int .u64 0, .int .i64 0] 24)
  clear g0 g1 g2 g3 Gb
  generalize wb.alloc (.cells #[.int .i64 0, .int .u64 0, .int .i64 0] 24) = wc at *
  generalize wb.heap.size = pb at *
  rw [rounds_succ]
  obtain ⟨e0, e1, e2, e3⟩ := E
  obtain ⟨f0, f1, f2, f3⟩ := F
  go_wp2_with fail
  refine (mul_zero x s 2 _ XR (by omega) (by decide)).mono ?_
  rintro e wa ⟨rfl, ba⟩
  have E := (At3.mk e0 e1 e2 e3).step ba
  have F := (At3.mk f0 f1 f2 f3).step ba
  have Ga := G.trans (ba.mono G.size)
  clear e0 e1 e2 e3 f0 f1 f2 f3 ba G
  obtain ⟨f0, f1, f2, f3⟩ := F
  go_wp2_with fail
  refine (quo_none s 2 _ (by omega) (by decide)).mono ?_
  rintro e wb ⟨rfl, bb⟩
  have E := (E.alloc _).step bb
  have F := ((At3.mk f0 f1 f2 f3).alloc _).step bb
  obtain ⟨g0, g1, g2, g3⟩ := (at3_new wa _ _ _ _).step bb
  have Gb := Ga.trans ((below_over bb).mono Ga.size)
  clear f0 f1 f2 f3 bb Ga
  generalize wa.heap.size = pa at *
  go_wp2_with fail
  have E := E.alloc (.cells #[.int .i64 0, .int .u64 0, .int .i64 0] 24)
  have F := F.alloc (.cells #[.int .i64 0, .int .u64 0, .int .i64 0] 24)
  have G := bel_alloc Gb (.cells #[.int .i64 0, .int .u64 0, .int .i64 0] 24)
  clear g0 g1 g2 g3 Gb
  generalize wb.alloc (.cells #[.int .i64 0, .int .u64 0, .int .i64 0] 24) = wc at *
  generalize wb.heap.size = pb at *
  rw [rounds_succ]
  obtain ⟨e0, e1, e2, e3⟩ := E
  obtain ⟨f0, f1, f2, f3⟩ := F
  go_wp2_with fail
  refine (mul_zero x s 3 _ XR (by omega) (by decide)).mono ?_
  rintro e wa ⟨rfl, ba⟩
  have E := (At3.mk e0 e1 e2 e3).step ba
  have F := (At3.mk f0 f1 f2 f3).step ba
  have Ga := G.trans (ba.mono G.size)
  clear e0 e1 e2 e3 f0 f1 f2 f3 ba G
  obtain ⟨f0, f1, f2, f3⟩ := F
  go_wp2_with fail
  refine (quo_none s 3 _ (by omega) (by decide)).mono ?_
  rintro e wb ⟨rfl, bb⟩
  have E := (E.alloc _).step bb
  have F := ((At3.mk f0 f1 f2 f3).alloc _).step bb
  obtain ⟨g0, g1, g2, g3⟩ := (at3_new wa _ _ _ _).step bb
  have Gb := Ga.trans ((below_over bb).mono Ga.size)
  clear f0 f1 f2 f3 bb Ga
  generalize wa.heap.size = pa at *
  go_wp2_with fail
  have E := E.alloc (.cells #[.int .i64 0, .int .u64 0, .int .i64 0] 24)
  have F := F.alloc (.cells #[.int .i64 0, .int .u64 0, .int .i64 0] 24)
  have G := bel_alloc Gb (.cells #[.int .i64 0, .int .u64 0, .int .i64 0] 24)
  clear g0 g1 g2 g3 Gb
  generalize wb.alloc (.cells #[.int .i64 0, .int .u64 0, .int .i64 0] 24) = wc at *
  generalize wb.heap.size = pb at *
  rw [rounds_succ]
  obtain ⟨e0, e1, e2, e3⟩ := E
  obtain ⟨f0, f1, f2, f3⟩ := F
  go_wp2_with fail
  refine (mul_zero x s 4 _ XR (by omega) (by decide)).mono ?_
  rintro e wa ⟨rfl, ba⟩
  have E := (At3.mk e0 e1 e2 e3).step ba
  have F := (At3.mk f0 f1 f2 f3).step ba
  have Ga := G.trans (ba.mono G.size)
  clear e0 e1 e2 e3 f0 f1 f2 f3 ba G
  obtain ⟨f0, f1, f2, f3⟩ := F
  go_wp2_with fail
  refine (quo_none s 4 _ (by omega) (by decide)).mono ?_
  rintro e wb ⟨rfl, bb⟩
  have E := (E.alloc _).step bb
  have F := ((At3.mk f0 f1 f2 f3).alloc _).step bb
  obtain ⟨g0, g1, g2, g3⟩ := (at3_new wa _ _ _ _).step bb
  have Gb := Ga.trans ((below_over bb).mono Ga.size)
  clear f0 f1 f2 f3 bb Ga
  generalize wa.heap.size = pa at *
  go_wp2_with fail
  have E := E.alloc (.cells #[.int .i64 0, .int .u64 0, .int .i64 0] 24)
  have F := F.alloc (.cells #[.int .i64 0, .int .u64 0, .int .i64 0] 24)
  have G := bel_alloc Gb (.cells #[.int .i64 0, .int .u64 0, .int .i64 0] 24)
  clear g0 g1 g2 g3 Gb
  generalize wb.alloc (.cells #[.int .i64 0, .int .u64 0, .int .i64 0] 24) = wc at *
  generalize wb.heap.size = pb at *
  rw [rounds_succ]
  obtain ⟨e0, e1, e2, e3⟩ := E
  obtain ⟨f0, f1, f2, f3⟩ := F
  go_wp2_with fail
  refine (mul_zero x s 5 _ XR (by omega) (by decide)).mono ?_
  rintro e wa ⟨rfl, ba⟩
  have E := (At3.mk e0 e1 e2 e3).step ba
  have F := (At3.mk f0 f1 f2 f3).step ba
  have Ga := G.trans (ba.mono G.size)
  clear e0 e1 e2 e3 f0 f1 f2 f3 ba G
  obtain ⟨f0, f1, f2, f3⟩ := F
  go_wp2_with fail
  refine (quo_none s 5 _ (by omega) (by decide)).mono ?_
  rintro e wb ⟨rfl, bb⟩
  have E := (E.alloc _).step bb
  have F := ((At3.mk f0 f1 f2 f3).alloc _).step bb
  obtain ⟨g0, g1, g2, g3⟩ := (at3_new wa _ _ _ _).step bb
  have Gb := Ga.trans ((below_over bb).mono Ga.size)
  clear f0 f1 f2 f3 bb Ga
  generalize wa.heap.size = pa at *
  go_wp2_with fail
  have E := E.alloc (.cells #[.int .i64 0, .int .u64 0, .int .i64 0] 24)
  have F := F.alloc (.cells #[.int .i64 0, .int .u64 0, .int .i64 0] 24)
  have G := bel_alloc Gb (.cells #[.int .i64 0, .int .u64 0, .int .i64 0] 24)
  clear g0 g1 g2 g3 Gb
  generalize wb.alloc (.cells #[.int .i64 0, .int .u64 0, .int .i64 0] 24) = wc at *
  generalize wb.heap.size = pb at *
  rw [rounds_succ]
  obtain ⟨e0, e1, e2, e3⟩ := E
  obtain ⟨f0, f1, f2, f3⟩ := F
  go_wp2_with fail
  refine (mul_zero x s 6 _ XR (by omega) (by decide)).mono ?_
  rintro e wa ⟨rfl, ba⟩
  have E := (At3.mk e0 e1 e2 e3).step ba
  have F := (At3.mk f0 f1 f2 f3).step ba
  have Ga := G.trans (ba.mono G.size)
  clear e0 e1 e2 e3 f0 f1 f2 f3 ba G
  obtain ⟨f0, f1, f2, f3⟩ := F
  go_wp2_with fail
  refine (quo_none s 6 _ (by omega) (by decide)).mono ?_
  rintro e wb ⟨rfl, bb⟩
  have E := (E.alloc _).step bb
  have F := ((At3.mk f0 f1 f2 f3).alloc _).step bb
  obtain ⟨g0, g1, g2, g3⟩ := (at3_new wa _ _ _ _).step bb
  have Gb := Ga.trans ((below_over bb).mono Ga.size)
  clear f0 f1 f2 f3 bb Ga
  generalize wa.heap.size = pa at *
  go_wp2_with fail
  have E := E.alloc (.cells #[.int .i64 0, .int .u64 0, .int .i64 0] 24)
  have F := F.alloc (.cells #[.int .i64 0, .int .u64 0, .int .i64 0] 24)
  have G := bel_alloc Gb (.cells #[.int .i64 0, .int .u64 0, .int .i64 0] 24)
  clear g0 g1 g2 g3 Gb
  generalize wb.alloc (.cells #[.int .i64 0, .int .u64 0, .int .i64 0] 24) = wc at *
  generalize wb.heap.size = pb at *
  
  rw [rounds_succ]
  go_wp2_with fail
  refine bodyPost_ret (v := .bool true) (by simp [results, Try.results4, go_sem]) rfl ⟨rfl, ?_⟩
  exact G

set_option maxHeartbeats 1000000 in
set_option maxRecDepth 100000 in
theorem back_some (x y c : Int) (s : Nat) (hs : wrap64 ((IntKind.u64.wrap c).tmod 10) = (s : Int)) (hle : (s : Int) ≤ 9) (hx64 : wrap64 x = x) (hy64 : wrap64 y = y) (PR : InR (x * y)) (XR : InR x) (YR : InR y)
    (XB : Hid (-2147483648 ≤ x ∧ x ≤ 2147483647)) (YB : Hid (-2147483648 ≤ y ∧ y ≤ 2147483647)) (h0 : ¬ y = 0) (w : World) :
    Calls Try.prog 4 #[.int .i32 x, .int .i32 y, .int .i64 c] w fun e w' => e = .returned (.bool true) ∧ Below w.heap.size w w' := by
  go_enter Try.func4, Try.ntmps4
  go_wp2_with (go_at_call 9; refine (awake_any _).mono ?_; rintro e w1 ⟨rfl, b1⟩)
  refine (of_ok x s _ (by have := XB.out; omega) (by have := XB.out; omega) (by omega)).mono ?_
  rintro e w2 ⟨rfl, b2⟩
  have B2 : Below w.heap.size w w2 := b1.trans (b2.mono b1.size)
  clear b1 b2
  go_wp2_with fail
  refine (of_whole y _ (by have := YB.out; omega) (by have := YB.out; omega)).mono ?_
  rintro e w3 ⟨rfl, b3⟩
  have A1 := (at3_new w2 _ _ _ _).step b3
  have B3 : Below w.heap.size w w3 := B2.trans ((below_over b3).mono B2.size)
  clear b3 B2
  generalize w2.heap.size = p1 at *
  go_wp2_with fail
  refine wp_loop_rounds 8 ?_
  have E := A1.alloc (.cells #[.int .i64 (dhi y), .int .u64 (dlo y), .int .i64 0] 24)
  have F := at3_new w3 (.int .i64 (dhi y)) (.int .u64 (dlo y)) (.int .i64 0) 24
  have G : Below w.heap.size w _ := bel_alloc B3 (.cells #[.int .i64 (dhi y), .int .u64 (dlo y), .int .i64 0] 24)
  generalize w3.alloc (.cells #[.int .i64 (dhi y), .int .u64 (dlo y), .int .i64 0] 24) = w4 at *
  clear A1 B3
  generalize w3.heap.size = p2 at *
  rw [rounds_succ]
  obtain ⟨e0, e1, e2, e3⟩ := E
  obtain ⟨f0, f1, f2, f3⟩ := F
  go_wp2_with fail
  refine (mul_whole x y s 0 _ XR YR (by omega) (by decide) PR).mono ?_
  rintro e wa ⟨rfl, ba⟩
  have E := (At3.mk e0 e1 e2 e3).step ba
  have F := (At3.mk f0 f1 f2 f3).step ba
  have Ga := G.trans (ba.mono G.size)
  clear e0 e1 e2 e3 f0 f1 f2 f3 ba G
  obtain ⟨e0, e1, e2, e3⟩ := E
  obtain ⟨f0, f1, f2, f3⟩ := F
  go_wp2_with fail
  refine (quo_whole x y s 0 _ XR YR (by omega) (by decide) PR h0).mono ?_
  rintro e wb ⟨rfl, bb⟩
  have E := ((At3.mk e0 e1 e2 e3).alloc _).step bb
  have F := ((At3.mk f0 f1 f2 f3).alloc _).step bb
  have Gb := Ga.trans ((below_over bb).mono Ga.size)
  clear e0 e1 e2 e3 f0 f1 f2 f3 bb Ga
  obtain ⟨e0, e1, e2, e3⟩ := E
  generalize wa.heap.size = pa at *
  go_wp2_with fail
  have E := (At3.mk e0 e1 e2 e3).alloc (.cells #[.int .i64 (dhi x), .int .u64 (dlo x), .int .i64 s] 24)
  have F := F.alloc (.cells #[.int .i64 (dhi x), .int .u64 (dlo x), .int .i64 s] 24)
  have G := bel_alloc Gb (.cells #[.int .i64 (dhi x), .int .u64 (dlo x), .int .i64 s] 24)
  clear e0 e1 e2 e3 Gb
  generalize wb.alloc (.cells #[.int .i64 (dhi x), .int .u64 (dlo x), .int .i64 s] 24) = wc at *
  generalize wb.heap.size = pb at *
  rw [rounds_succ]
  obtain ⟨e0, e1, e2, e3⟩ := E
  obtain ⟨f0, f1, f2, f3⟩ := F
  go_wp2_with fail
  refine (mul_whole x y s 1 _ XR YR (by omega) (by decide) PR).mono ?_
  rintro e wa ⟨rfl, ba⟩
  have E := (At3.mk e0 e1 e2 e3).step ba
  have F := (At3.mk f0 f1 f2 f3).step ba
  have Ga := G.trans (ba.mono G.size)
  clear e0 e1 e2 e3 f0 f1 f2 f3 ba G
  obtain ⟨e0, e1, e2, e3⟩ := E
  obtain ⟨f0, f1, f2, f3⟩ := F
  go_wp2_with fail
  refine (quo_whole x y s 1 _ XR YR (by omega) (by decide) PR h0).mono ?_
  rintro e wb ⟨rfl, bb⟩
  have E := ((At3.mk e0 e1 e2 e3).alloc _).step bb
  have F := ((At3.mk f0 f1 f2 f3).alloc _).step bb
  have Gb := Ga.trans ((below_over bb).mono Ga.size)
  clear e0 e1 e2 e3 f0 f1 f2 f3 bb Ga
  obtain ⟨e0, e1, e2, e3⟩ := E
  generalize wa.heap.size = pa at *
  go_wp2_with fail
  have E := (At3.mk e0 e1 e2 e3).alloc (.cells #[.int .i64 (dhi x), .int .u64 (dlo x), .int .i64 s] 24)
  have F := F.alloc (.cells #[.int .i64 (dhi x), .int .u64 (dlo x), .int .i64 s] 24)
  have G := bel_alloc Gb (.cells #[.int .i64 (dhi x), .int .u64 (dlo x), .int .i64 s] 24)
  clear e0 e1 e2 e3 Gb
  generalize wb.alloc (.cells #[.int .i64 (dhi x), .int .u64 (dlo x), .int .i64 s] 24) = wc at *
  generalize wb.heap.size = pb at *
  rw [rounds_succ]
  obtain ⟨e0, e1, e2, e3⟩ := E
  obtain ⟨f0, f1, f2, f3⟩ := F
  go_wp2_with fail
  refine (mul_whole x y s 2 _ XR YR (by omega) (by decide) PR).mono ?_
  rintro e wa ⟨rfl, ba⟩
  have E := (At3.mk e0 e1 e2 e3).step ba
  have F := (At3.mk f0 f1 f2 f3).step ba
  have Ga := G.trans (ba.mono G.size)
  clear e0 e1 e2 e3 f0 f1 f2 f3 ba G
  obtain ⟨e0, e1, e2, e3⟩ := E
  obtain ⟨f0, f1, f2, f3⟩ := F
  go_wp2_with fail
  refine (quo_whole x y s 2 _ XR YR (by omega) (by decide) PR h0).mono ?_
  rintro e wb ⟨rfl, bb⟩
  have E := ((At3.mk e0 e1 e2 e3).alloc _).step bb
  have F := ((At3.mk f0 f1 f2 f3).alloc _).step bb
  have Gb := Ga.trans ((below_over bb).mono Ga.size)
  clear e0 e1 e2 e3 f0 f1 f2 f3 bb Ga
  obtain ⟨e0, e1, e2, e3⟩ := E
  generalize wa.heap.size = pa at *
  go_wp2_with fail
  have E := (At3.mk e0 e1 e2 e3).alloc (.cells #[.int .i64 (dhi x), .int .u64 (dlo x), .int .i64 s] 24)
  have F := F.alloc (.cells #[.int .i64 (dhi x), .int .u64 (dlo x), .int .i64 s] 24)
  have G := bel_alloc Gb (.cells #[.int .i64 (dhi x), .int .u64 (dlo x), .int .i64 s] 24)
  clear e0 e1 e2 e3 Gb
  generalize wb.alloc (.cells #[.int .i64 (dhi x), .int .u64 (dlo x), .int .i64 s] 24) = wc at *
  generalize wb.heap.size = pb at *
  rw [rounds_succ]
  obtain ⟨e0, e1, e2, e3⟩ := E
  obtain ⟨f0, f1, f2, f3⟩ := F
  go_wp2_with fail
  refine (mul_whole x y s 3 _ XR YR (by omega) (by decide) PR).mono ?_
  rintro e wa ⟨rfl, ba⟩
  have E := (At3.mk e0 e1 e2 e3).step ba
  have F := (At3.mk f0 f1 f2 f3).step ba
  have Ga := G.trans (ba.mono G.size)
  clear e0 e1 e2 e3 f0 f1 f2 f3 ba G
  obtain ⟨e0, e1, e2, e3⟩ := E
  obtain ⟨f0, f1, f2, f3⟩ := F
  go_wp2_with fail
  refine (quo_whole x y s 3 _ XR YR (by omega) (by decide) PR h0).mono ?_
  rintro e wb ⟨rfl, bb⟩
  have E := ((At3.mk e0 e1 e2 e3).alloc _).step bb
  have F := ((At3.mk f0 f1 f2 f3).alloc _).step bb
  have Gb := Ga.trans ((below_over bb).mono Ga.size)
  clear e0 e1 e2 e3 f0 f1 f2 f3 bb Ga
  obtain ⟨e0, e1, e2, e3⟩ := E
  generalize wa.heap.size = pa at *
  go_wp2_with fail
  have E := (At3.mk e0 e1 e2 e3).alloc (.cells #[.int .i64 (dhi x), .int .u64 (dlo x), .int .i64 s] 24)
  have F := F.alloc (.cells #[.int .i64 (dhi x), .int .u64 (dlo x), .int .i64 s] 24)
  have G := bel_alloc Gb (.cells #[.int .i64 (dhi x), .int .u64 (dlo x), .int .i64 s] 24)
  clear e0 e1 e2 e3 Gb
  generalize wb.alloc (.cells #[.int .i64 (dhi x), .int .u64 (dlo x), .int .i64 s] 24) = wc at *
  generalize wb.heap.size = pb at *
  rw [rounds_succ]
  obtain ⟨e0, e1, e2, e3⟩ := E
  obtain ⟨f0, f1, f2, f3⟩ := F
  go_wp2_with fail
  refine (mul_whole x y s 4 _ XR YR (by omega) (by decide) PR).mono ?_
  rintro e wa ⟨rfl, ba⟩
  have E := (At3.mk e0 e1 e2 e3).step ba
  have F := (At3.mk f0 f1 f2 f3).step ba
  have Ga := G.trans (ba.mono G.size)
  clear e0 e1 e2 e3 f0 f1 f2 f3 ba G
  obtain ⟨e0, e1, e2, e3⟩ := E
  obtain ⟨f0, f1, f2, f3⟩ := F
  go_wp2_with fail
  refine (quo_whole x y s 4 _ XR YR (by omega) (by decide) PR h0).mono ?_
  rintro e wb ⟨rfl, bb⟩
  have E := ((At3.mk e0 e1 e2 e3).alloc _).step bb
  have F := ((At3.mk f0 f1 f2 f3).alloc _).step bb
  have Gb := Ga.trans ((below_over bb).mono Ga.size)
  clear e0 e1 e2 e3 f0 f1 f2 f3 bb Ga
  obtain ⟨e0, e1, e2, e3⟩ := E
  generalize wa.heap.size = pa at *
  go_wp2_with fail
  have E := (At3.mk e0 e1 e2 e3).alloc (.cells #[.int .i64 (dhi x), .int .u64 (dlo x), .int .i64 s] 24)
  have F := F.alloc (.cells #[.int .i64 (dhi x), .int .u64 (dlo x), .int .i64 s] 24)
  have G := bel_alloc Gb (.cells #[.int .i64 (dhi x), .int .u64 (dlo x), .int .i64 s] 24)
  clear e0 e1 e2 e3 Gb
  generalize wb.alloc (.cells #[.int .i64 (dhi x), .int .u64 (dlo x), .int .i64 s] 24) = wc at *
  generalize wb.heap.size = pb at *
  rw [rounds_succ]
  obtain ⟨e0, e1, e2, e3⟩ := E
  obtain ⟨f0, f1, f2, f3⟩ := F
  go_wp2_with fail
  refine (mul_whole x y s 5 _ XR YR (by omega) (by decide) PR).mono ?_
  rintro e wa ⟨rfl, ba⟩
  have E := (At3.mk e0 e1 e2 e3).step ba
  have F := (At3.mk f0 f1 f2 f3).step ba
  have Ga := G.trans (ba.mono G.size)
  clear e0 e1 e2 e3 f0 f1 f2 f3 ba G
  obtain ⟨e0, e1, e2, e3⟩ := E
  obtain ⟨f0, f1, f2, f3⟩ := F
  go_wp2_with fail
  refine (quo_whole x y s 5 _ XR YR (by omega) (by decide) PR h0).mono ?_
  rintro e wb ⟨rfl, bb⟩
  have E := ((At3.mk e0 e1 e2 e3).alloc _).step bb
  have F := ((At3.mk f0 f1 f2 f3).alloc _).step bb
  have Gb := Ga.trans ((below_over bb).mono Ga.size)
  clear e0 e1 e2 e3 f0 f1 f2 f3 bb Ga
  obtain ⟨e0, e1, e2, e3⟩ := E
  generalize wa.heap.size = pa at *
  go_wp2_with fail
  have E := (At3.mk e0 e1 e2 e3).alloc (.cells #[.int .i64 (dhi x), .int .u64 (dlo x), .int .i64 s] 24)
  have F := F.alloc (.cells #[.int .i64 (dhi x), .int .u64 (dlo x), .int .i64 s] 24)
  have G := bel_alloc Gb (.cells #[.int .i64 (dhi x), .int .u64 (dlo x), .int .i64 s] 24)
  clear e0 e1 e2 e3 Gb
  generalize wb.alloc (.cells #[.int .i64 (dhi x), .int .u64 (dlo x), .int .i64 s] 24) = wc at *
  generalize wb.heap.size = pb at *
  rw [rounds_succ]
  obtain ⟨e0, e1, e2, e3⟩ := E
  obtain ⟨f0, f1, f2, f3⟩ := F
  go_wp2_with fail
  refine (mul_whole x y s 6 _ XR YR (by omega) (by decide) PR).mono ?_
  rintro e wa ⟨rfl, ba⟩
  have E := (At3.mk e0 e1 e2 e3).step ba
  have F := (At3.mk f0 f1 f2 f3).step ba
  have Ga := G.trans (ba.mono G.size)
  clear e0 e1 e2 e3 f0 f1 f2 f3 ba G
  obtain ⟨e0, e1, e2, e3⟩ := E
  obtain ⟨f0, f1, f2, f3⟩ := F
  go_wp2_with fail
  refine (quo_whole x y s 6 _ XR YR (by omega) (by decide) PR h0).mono ?_
  rintro e wb ⟨rfl, bb⟩
  have E := ((At3.mk e0 e1 e2 e3).alloc _).step bb
  have F := ((At3.mk f0 f1 f2 f3).alloc _).step bb
  have Gb := Ga.trans ((below_over bb).mono Ga.size)
  clear e0 e1 e2 e3 f0 f1 f2 f3 bb Ga
  obtain ⟨e0, e1, e2, e3⟩ := E
  generalize wa.heap.size = pa at *
  go_wp2_with fail
  have E := (At3.mk e0 e1 e2 e3).alloc (.cells #[.int .i64 (dhi x), .int .u64 (dlo x), .int .i64 s] 24)
  have F := F.alloc (.cells #[.int .i64 (dhi x), .int .u64 (dlo x), .int .i64 s] 24)
  have G := bel_alloc Gb (.cells #[.int .i64 (dhi x), .int .u64 (dlo x), .int .i64 s] 24)
  clear e0 e1 e2 e3 Gb
  generalize wb.alloc (.cells #[.int .i64 (dhi x), .int .u64 (dlo x), .int .i64 s] 24) = wc at *
  generalize wb.heap.size = pb at *
  
  rw [rounds_succ]
  go_wp2_with fail
  refine bodyPost_ret (v := .bool true) (by simp [results, Try.results4, go_sem]) rfl ⟨rfl, ?_⟩
  exact G

theorem back_walk (x y c : Int) (w0 : (Lit.int .i32 x).wf = true) (w1 : (Lit.int .i32 y).wf = true) (w : World) :
    Calls Try.prog 4 #[.int .i32 x, .int .i32 y, .int .i64 c] w fun e w' => e = .returned (.bool true) ∧ Below w.heap.size w w' := by
  obtain ⟨s, hs, hle⟩ := back_scale c
  have xr := bounds_i32 w0
  have yr := bounds_i32 w1
  have hx64 : wrap64 x = x := by unfold wrap64; omega
  have hy64 : wrap64 y = y := by unfold wrap64; omega
  have PR := small_in (mul_small xr yr).1 (mul_small xr yr).2
  have XR := small_in (x := x) (by omega) (by omega)
  have YR := small_in (x := y) (by omega) (by omega)
  by_cases h0 : y = 0
  · subst h0; exact back_none x c s hs hle hx64 XR xr w
  · exact back_some x y c s hs hle hx64 hy64 PR XR YR xr yr h0 w
end Go.Proofs.Ytponhogmbbjnbaa
