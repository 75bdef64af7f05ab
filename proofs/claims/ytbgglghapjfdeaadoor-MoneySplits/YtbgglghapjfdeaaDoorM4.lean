/- Decimals and numbers with a sign (package dec): what their values are, and the contracts of opposite, numberOf, number.dec and number.sign. -/
import Derived.Test.YtbgglghapjfdeaaDoorM6
import Derived.ChangeKeysEq
namespace Go.Proofs.YtbgglghapjfdeaaDoor
open Go.RowKit
set_option linter.unusedVariables false
attribute [local go_sem] ext_cell ext_frozen ext_drew ext_of_drew ext_of_drewN ext_setCell ext_lt ext_lt1 ext_lt2 ext_lt3 lt_n2 lt_n3 lt_n4 lt_n5 lt_n6

/-- The two words of a coefficient. -/
def dhi (c : Int) : Int := c / 18446744073709551616
def dlo (c : Int) : Int := c % 18446744073709551616
theorem dec_words (h l : Int) (hl : 0 ≤ l) (hl2 : l ≤ 18446744073709551615) : dhi (h * 18446744073709551616 + l) = h ∧ dlo (h * 18446744073709551616 + l) = l := by unfold dhi dlo; omega
structure IsD (c h l : Int) : Prop where
  eh : h = dhi c
  el : l = dlo c
theorem IsD.self (c : Int) : IsD c (dhi c) (dlo c) := ⟨rfl, rfl⟩
/-- 2^127, behind a name. -/
def M127 : Int := 170141183460469231731687303715884105728
theorem M127_eq : M127 = 170141183460469231731687303715884105728 := rfl
/-- A coefficient in range. -/
structure InR (c : Int) : Prop where
  lo : -M127 < c
  hi : c < M127
theorem dlo_bd (c : Int) : 0 ≤ dlo c ∧ dlo c ≤ 18446744073709551615 := by unfold dlo; omega
theorem dhi_bd {c : Int} (h : InR c) : -9223372036854775808 ≤ dhi c ∧ dhi c ≤ 9223372036854775807 := by
  have := h.lo; have := h.hi; rw [M127_eq] at *; unfold dhi; omega
theorem dhi_neg (c : Int) : dhi c < 0 ↔ c < 0 := by unfold dhi; omega

theorem opp_lo (c : Int) : (0 + 18446744073709551616 - dlo c - 0) % 18446744073709551616 = dlo (-c) := by unfold dlo; omega
def oborrow (c : Int) : Int := if 0 < dlo c + 0 then 1 else 0
theorem oborrow_bd (c : Int) : 0 ≤ oborrow c ∧ oborrow c ≤ 1 := by unfold oborrow; split <;> omega
def ohi (c : Int) : Int := (0 + 18446744073709551616 - IntKind.u64.wrap (dhi c) - oborrow c) % 18446744073709551616
def orest (c : Int) : Int := if 0 < IntKind.u64.wrap (dhi c) + oborrow c then 1 else 0
theorem opp_hi {c : Int} (h : InR c) : wrap64 (ohi c) = dhi (-c) := by
  have h1 := h.lo; have h2 := h.hi; rw [M127_eq] at *
  unfold ohi oborrow
  rw [IntKind.wrap_u64]
  unfold wrap64 dhi dlo
  split <;> omega
theorem wrapu_isWord (x : Int) : IsWord (IntKind.u64.wrap x) := by rw [IntKind.wrap_u64]; constructor <;> omega
theorem dlo_isWord (c : Int) : IsWord (dlo c) := ⟨(dlo_bd c).1, (dlo_bd c).2⟩

set_option maxHeartbeats 400000 in
set_option maxRecDepth 100000 in
theorem opposite_any (c h l s : Int) (w : World) (hd : IsD c h l) (hc : InR c) :
    Calls Tryd.prog 50 #[.agg #[.int .i64 h, .int .u64 l, .int .i64 s]] w
      fun e w' => e = .returned (.agg #[.int .i64 (dhi (-c)), .int .u64 (dlo (-c)), .int .i64 s]) ∧ Below w.heap.size w w' := by
  obtain ⟨rfl, rfl⟩ := hd
  have r1 : ∀ w, (callFunc 54 #[.int .u64 0, .int .u64 (dlo c), .int .u64 0]).run Tryd.prog w = .ok (.value (.tuple #[.int .u64 (dlo (-c)), .int .u64 (oborrow c)])) w := by
    intro w
    rw [run_Sub64 0 (dlo c) 0 ⟨by omega, by omega⟩ (dlo_isWord c) (by omega) (by omega), opp_lo]
    rfl
  have r2 : ∀ w, (callFunc 54 #[.int .u64 0, .int .u64 (IntKind.u64.wrap (dhi c)), .int .u64 (oborrow c)]).run Tryd.prog w = .ok (.value (.tuple #[.int .u64 (ohi c), .int .u64 (orest c)])) w := by
    intro w
    rw [run_Sub64 0 _ _ ⟨by omega, by omega⟩ (wrapu_isWord _) (oborrow_bd c).1 (oborrow_bd c).2]
    rfl
  have r3 := opp_hi hc
  go_enter Tryd.func50, Tryd.ntmps50
  go_wp2
  refine bodyPost_ret (v := .agg _) (by simp [results, Tryd.results50, go_sem]) rfl ⟨rfl, ?_⟩
  repeat (first | exact Below.refl _ _ | refine Below.drew ?_ | refine below_drewN ?_ _ | refine bel_alloc ?_ _ | refine bel_ext ?_ _ | (refine Below.setCell ?_ ?_ _; rotate_left; (simp <;> omega)))

/-! numberOf -/
theorem wd_small {n : Nat} (h : (n : Int) < 340282366920938463463374607431768211456) : wd n 0 = (n : Int) % 18446744073709551616 ∧ wd n 1 = (n : Int) / 18446744073709551616 ∧ wd n 2 = 0 ∧ wd n 3 = 0 ∧ wd n 4 = 0 := by
  have e2 : B ^ 2 = 340282366920938463463374607431768211456 := by rw [B_eq]
  have h3 : ∀ i, 2 ≤ i → n / B ^ i = 0 := fun i hi => Nat.div_eq_of_lt (Nat.lt_of_lt_of_le (by rw [e2]; omega : n < B ^ 2) (Nat.pow_le_pow_right B_pos hi))
  unfold wd
  refine ⟨?_, ?_, ?_, ?_, ?_⟩
  · simp [B_eq]
  · rw [Nat.pow_one, B_eq]; omega
  · rw [h3 2 (by omega)]; simp
  · rw [h3 3 (by omega)]; simp
  · rw [h3 4 (by omega)]; simp
theorem words_of {c : Int} (h0 : 0 ≤ c) (h : c < M127) : IntKind.u64.wrap (dhi c) = wd c.toNat 1 ∧ dlo c = wd c.toNat 0 ∧ wd c.toNat 2 = 0 ∧ wd c.toNat 3 = 0 ∧ wd c.toNat 4 = 0 := by
  rw [M127_eq] at h
  obtain ⟨n, rfl⟩ := Int.eq_ofNat_of_zero_le h0
  obtain ⟨e0, e1, e2, e3, e4⟩ := wd_small (n := n) (by omega)
  rw [Int.toNat_natCast, e0, e1]
  refine ⟨?_, rfl, e2, e3, e4⟩
  rw [IntKind.wrap_u64]; unfold dhi; omega
set_option maxHeartbeats 400000 in
set_option maxRecDepth 100000 in
theorem numberOf_any (c h l s : Int) (w : World) (hd : IsD c h l) (hc : InR c) :
    Calls Tryd.prog 48 #[.agg #[.int .i64 h, .int .u64 l, .int .i64 s]] w
      fun e w' => e = .returned (.agg #[.bool (decide (c < 0)), .int .u64 (wd (c.natAbs) 0), .int .u64 (wd (c.natAbs) 1), .int .u64 (wd (c.natAbs) 2), .int .u64 (wd (c.natAbs) 3), .int .u64 (wd (c.natAbs) 4)]) ∧ Below w.heap.size w w' := by
  obtain ⟨rfl, rfl⟩ := hd
  have h1 := hc.lo
  have h2 := hc.hi
  by_cases c0 : c < 0
  · have t : dhi c < 0 := (dhi_neg c).2 c0
    obtain ⟨e1, e0, e2, e3, e4⟩ := words_of (c := -c) (by omega) (by omega)
    have ht : (-c).toNat = c.natAbs := by omega
    rw [ht] at e1 e0 e2 e3 e4
    have HE : Hid (wd c.natAbs 2 = 0 ∧ wd c.natAbs 3 = 0 ∧ wd c.natAbs 4 = 0) := ⟨e2, e3, e4⟩
    have H0 := (show Hid _ from e0)
    clear e2 e3 e4 ht e0
    go_enter Tryd.func48, Tryd.ntmps48
    go_wp2_with (go_at_call 50; refine (opposite_any c _ _ _ _ (IsD.self _) hc).mono ?_; rintro e w1 ⟨rfl, hb1⟩; obtain ⟨x, rfl⟩ := ext_of_below hb1; clear hb1)
    refine bodyPost_ret (v := .agg #[.bool true, .int .u64 (dlo (-c)), .int .u64 (wd c.natAbs 1), .int .u64 0, .int .u64 0, .int .u64 0]) (by simp [results, Tryd.results48, go_sem]) rfl ⟨?_, ?_⟩
    · obtain ⟨e2, e3, e4⟩ := HE.out
      rw [H0.out, e2, e3, e4, show decide (c < 0) = true by simp [c0]]
    · repeat (first | exact Below.refl _ _ | refine Below.drew ?_ | refine below_drewN ?_ _ | refine bel_alloc ?_ _ | refine bel_ext ?_ _ | (refine Below.setCell ?_ ?_ _; rotate_left; (simp <;> omega)))
  · have t : ¬ dhi c < 0 := fun t => c0 ((dhi_neg c).1 t)
    obtain ⟨e1, e0, e2, e3, e4⟩ := words_of (c := c) (by omega) (by omega)
    have ht : c.toNat = c.natAbs := by omega
    rw [ht] at e1 e0 e2 e3 e4
    have HE : Hid (wd c.natAbs 2 = 0 ∧ wd c.natAbs 3 = 0 ∧ wd c.natAbs 4 = 0) := ⟨e2, e3, e4⟩
    have H0 := (show Hid _ from e0)
    clear e2 e3 e4 ht e0
    go_enter Tryd.func48, Tryd.ntmps48
    go_wp2
    refine bodyPost_ret (v := .agg #[.bool false, .int .u64 (dlo c), .int .u64 (wd c.natAbs 1), .int .u64 0, .int .u64 0, .int .u64 0]) (by simp [results, Tryd.results48, go_sem]) rfl ⟨?_, ?_⟩
    · obtain ⟨e2, e3, e4⟩ := HE.out
      rw [H0.out, e2, e3, e4, show decide (c < 0) = false by simp [c0]]
    · repeat (first | exact Below.refl _ _ | refine Below.drew ?_ | refine below_drewN ?_ _ | refine bel_alloc ?_ _ | refine bel_ext ?_ _ | (refine Below.setCell ?_ ?_ _; rotate_left; (simp <;> omega)))
end Go.Proofs.YtbgglghapjfdeaaDoor
/- The contracts of number.dec, number.sign, number.plus, raised and total (package dec). -/
namespace Go.Proofs.YtbgglghapjfdeaaDoor
open Go.RowKit
set_option linter.unusedVariables false
attribute [local go_sem] ext_cell ext_frozen ext_drew ext_of_drew ext_of_drewN ext_setCell ext_lt ext_lt1 ext_lt2 ext_lt3 lt_n2 lt_n3 lt_n4 lt_n5 lt_n6

/-- The whole number that a sign and a size are. -/
def sv (neg : Bool) (n : Nat) : Int := if neg then -(n : Int) else n
theorem sv_abs (c : Int) : sv (decide (c < 0)) c.natAbs = c := by unfold sv; by_cases h : c < 0 <;> simp [h] <;> omega

theorem low_words {n : Nat} (h : (n : Int) < M127) : dlo (n : Int) = wd n 0 ∧ dhi (n : Int) = wd n 1 ∧ wrap64 (wd n 1) = dhi (n : Int) := by
  rw [M127_eq] at h
  obtain ⟨e0, e1, -, -, -⟩ := wd_small (n := n) (by omega)
  rw [e0, e1]
  refine ⟨rfl, rfl, ?_⟩
  unfold wrap64 dhi; omega
theorem bl_127 (n : Nat) : bl n ≤ 127 ↔ (n : Int) < M127 := by
  rw [bl_le, M127_eq]
  omega

end Go.Proofs.YtbgglghapjfdeaaDoor
/- The contracts of number.sign, number.plus, raised and total (package dec). -/
namespace Go.Proofs.YtbgglghapjfdeaaDoor
open Go.RowKit
set_option linter.unusedVariables false
attribute [local go_sem] ext_cell ext_frozen ext_drew ext_of_drew ext_of_drewN ext_setCell ext_lt ext_lt1 ext_lt2 ext_lt3 lt_n2 lt_n3 lt_n4 lt_n5 lt_n6

/-- '==' between two arrays of five words. -/
theorem eq_wide (a0 a1 a2 a3 a4 b0 b1 b2 b3 b4 : Int) (w : World) :
    (Op.equalIn 10000 99 (.agg #[.int .u64 a0, .int .u64 a1, .int .u64 a2, .int .u64 a3, .int .u64 a4]) (.agg #[.int .u64 b0, .int .u64 b1, .int .u64 b2, .int .u64 b3, .int .u64 b4])).run Tryd.prog w = .ok ((a0 == b0) && ((a1 == b1) && ((a2 == b2) && ((a3 == b3) && (a4 == b4))))) w := by
  obtain ⟨i, hi⟩ : ∃ i, Tryd.prog.info? 42 = some i := Option.isSome_iff_exists.1 (by kernel_rfl)
  rw [show (10000 : Nat) = 9999 + 1 from rfl, run_equalIn_array (P := Tryd.prog) w 9999 _ _ Tryd.underlying99 hi]
  have hc : Tryd.prog.cellsOf 42 = 1 := by kernel_rfl
  rw [hc]
  simp [Op.eqItems, List.range, List.range.loop, go_sem]
  by_cases h0 : a0 = b0 <;> by_cases h1 : a1 = b1 <;> by_cases h2 : a2 = b2 <;> by_cases h3 : a3 = b3 <;> by_cases h4 : a4 = b4 <;> simp [h0, h1, h2, h3, h4]
theorem same_words {m n : Nat} (hm : m < B ^ 5) (hn : n < B ^ 5) : ((wd m 0 == wd n 0) && ((wd m 1 == wd n 1) && ((wd m 2 == wd n 2) && ((wd m 3 == wd n 3) && (wd m 4 == wd n 4))))) = decide (m = n) := by
  rw [Bool.eq_iff_iff]
  simp only [Bool.and_eq_true, beq_iff_eq, decide_eq_true_eq]
  constructor
  · rintro ⟨e0, e1, e2, e3, e4⟩
    have f : ∀ i, wd m i = wd n i → wn m i = wn n i := fun i h => by rw [wd_wn, wd_wn] at h; omega
    have t4 := eq_of_word (less_all hm hn) (f 4 e4)
    have t3 := eq_of_word t4 (f 3 e3)
    have t2 := eq_of_word t3 (f 2 e2)
    have t1 := eq_of_word t2 (f 1 e1)
    have t0 := eq_of_word t1 (f 0 e0)
    simpa using t0
  · rintro rfl; simp
theorem eq_zero {n : Nat} (hn : n < B ^ 5) (w : World) :
    (Op.equalIn 10000 99 (.agg #[.int .u64 (wd (n) 0), .int .u64 (wd (n) 1), .int .u64 (wd (n) 2), .int .u64 (wd (n) 3), .int .u64 (wd (n) 4)]) (.agg #[.int .u64 0, .int .u64 0, .int .u64 0, .int .u64 0, .int .u64 0])).run Tryd.prog w = .ok (decide (n = 0)) w := by
  have h := eq_wide (wd n 0) (wd n 1) (wd n 2) (wd n 3) (wd n 4) (wd 0 0) (wd 0 1) (wd 0 2) (wd 0 3) (wd 0 4) w
  rw [same_words hn (Nat.pow_pos B_pos)] at h
  rw [wd_zero, wd_zero, wd_zero, wd_zero, wd_zero] at h
  exact h
theorem eq_same {m n : Nat} (hm : m < B ^ 5) (hn : n < B ^ 5) (w : World) :
    (Op.equalIn 10000 99 (.agg #[.int .u64 (wd (m) 0), .int .u64 (wd (m) 1), .int .u64 (wd (m) 2), .int .u64 (wd (m) 3), .int .u64 (wd (m) 4)]) (.agg #[.int .u64 (wd (n) 0), .int .u64 (wd (n) 1), .int .u64 (wd (n) 2), .int .u64 (wd (n) 3), .int .u64 (wd (n) 4)])).run Tryd.prog w = .ok (decide (m = n)) w := by
  rw [eq_wide, same_words hm hn]

def sgn (c : Int) : Int := if c < 0 then -1 else if c = 0 then 0 else 1

set_option maxHeartbeats 400000 in
set_option maxRecDepth 100000 in
theorem sign_any (neg : Bool) (n : Nat) (w : World) (hn : n < B ^ 5) :
    Calls Tryd.prog 49 #[.agg #[.bool neg, .int .u64 (wd (n) 0), .int .u64 (wd (n) 1), .int .u64 (wd (n) 2), .int .u64 (wd (n) 3), .int .u64 (wd (n) 4)]] w
      fun e w' => e = .returned (.int .i64 (sgn (sv neg n))) ∧ Below w.heap.size w w' := by
  have he := fun w => eq_zero hn w
  by_cases h0 : n = 0
  · have hd : decide (n = 0) = true := by simp [h0]
    have fin : Hid (sgn (sv neg n) = 0) := by show _ = _; subst h0; cases neg <;> rfl
    clear h0 hn
    rw [fin.out]
    go_enter Tryd.func49, Tryd.ntmps49
    go_wp2
    go_ret
    refine ⟨rfl, ?_⟩
    repeat (first | exact Below.refl _ _ | refine Below.drew ?_ | refine below_drewN ?_ _ | refine bel_alloc ?_ _ | refine bel_ext ?_ _ | (refine Below.setCell ?_ ?_ _; rotate_left; (simp <;> omega)))
  · have hd : decide (n = 0) = false := by simp [h0]
    cases neg
    · have fin : Hid (sgn (sv false n) = 1) := by show _ = _; unfold sgn sv; simp; omega
      clear h0 hn
      rw [fin.out]
      go_enter Tryd.func49, Tryd.ntmps49
      go_wp2
      go_ret
      refine ⟨rfl, ?_⟩
      repeat (first | exact Below.refl _ _ | refine Below.drew ?_ | refine below_drewN ?_ _ | refine bel_alloc ?_ _ | refine bel_ext ?_ _ | (refine Below.setCell ?_ ?_ _; rotate_left; (simp <;> omega)))
    · have fin : Hid (sgn (sv true n) = -1) := by show _ = _; unfold sgn sv; simp; omega
      clear h0 hn
      rw [fin.out]
      go_enter Tryd.func49, Tryd.ntmps49
      go_wp2
      go_ret
      refine ⟨rfl, ?_⟩
      repeat (first | exact Below.refl _ _ | refine Below.drew ?_ | refine below_drewN ?_ _ | refine bel_alloc ?_ _ | refine bel_ext ?_ _ | (refine Below.setCell ?_ ?_ _; rotate_left; (simp <;> omega)))

/-! the sum of two numbers with a sign -/
def padd (a : Bool × Nat) (b : Bool × Nat) : Bool × Nat := if a.1 = b.1 then (a.1, a.2 + b.2) else if a.2 < b.2 then (b.1, b.2 - a.2) else (a.1, a.2 - b.2)
theorem padd_sv (a b : Bool × Nat) : sv (padd a b).1 (padd a b).2 = sv a.1 a.2 + sv b.1 b.2 := by
  obtain ⟨s, m⟩ := a
  obtain ⟨t, n⟩ := b
  unfold padd sv
  cases s <;> cases t <;> simp <;> (try split) <;> (try simp) <;> omega
theorem padd_le (a b : Bool × Nat) : (padd a b).2 ≤ a.2 + b.2 := by unfold padd; split <;> (try split) <;> simp <;> omega

end Go.Proofs.YtbgglghapjfdeaaDoor
/- The contracts of raised and total (package dec). -/
namespace Go.Proofs.YtbgglghapjfdeaaDoor
open Go.RowKit
set_option linter.unusedVariables false
attribute [local go_sem] ext_cell ext_frozen ext_drew ext_of_drew ext_of_drewN ext_setCell ext_lt ext_lt1 ext_lt2 ext_lt3 lt_n2 lt_n3 lt_n4 lt_n5 lt_n6

/-- A size at a greater scale. -/
def up10 (n s t : Nat) : Nat := n * 10 ^ (t - s)

theorem natAbs_lt {c : Int} (hc : InR c) : c.natAbs < 2 ^ 127 := by
  have := hc.lo; have := hc.hi; rw [M127_eq] at *; omega
theorem ten_lt {n u : Nat} (hn : n < 2 ^ 127) (hu : u ≤ 18) : n * 10 ^ u < B ^ 4 := by
  have h1 : 10 ^ u ≤ 10 ^ 18 := Nat.pow_le_pow_right (by decide) hu
  have h2 : n * 10 ^ u ≤ 2 ^ 127 * 10 ^ 18 := Nat.mul_le_mul (Nat.le_of_lt hn) h1
  exact Nat.lt_of_le_of_lt h2 (by decide)
theorem B45 {n : Nat} (h : n < B ^ 4) : n < B ^ 5 := Nat.lt_of_lt_of_le h (Nat.pow_le_pow_right B_pos (by decide))

/-- The sum's sign and size, and its scale. -/
def tot (ca : Int) (sa : Nat) (cb : Int) (sb : Nat) : Bool × Nat :=
  padd (decide (ca < 0), up10 ca.natAbs sa (max sa sb)) (decide (cb < 0), up10 cb.natAbs sb (max sa sb))

end Go.Proofs.YtbgglghapjfdeaaDoor
/- The contracts of awayFromNought and ratio (package dec). -/
namespace Go.Proofs.YtbgglghapjfdeaaDoor
open Go.RowKit
set_option linter.unusedVariables false
attribute [local go_sem] ext_cell ext_frozen ext_drew ext_of_drew ext_of_drewN ext_setCell ext_lt ext_lt1 ext_lt2 ext_lt3 lt_n2 lt_n3 lt_n4 lt_n5 lt_n6

/-- Is a quotient with that rest rounded away from nought? -/
def away (neg : Bool) (q r d mode : Nat) : Bool :=
  if r = 0 then false else
  match mode with
  | 1 => true
  | 2 => neg
  | 3 => !neg
  | 4 => !decide (r + r < d)
  | 5 => decide (d < r + r)
  | 6 => decide (d < r + r) || (decide (r + r = d) && decide (q % 2 = 1))
  | _ => false
theorem odd_word (q : Nat) : (bits .and .u64 (wd q 0) 1 == 1) = decide (q % 2 = 1) := by
  have h := bit_word q 0 0 (by decide)
  simp only [Int.pow_zero, Int.ediv_one, Nat.mul_zero, Nat.add_zero, Nat.pow_zero, Nat.div_one] at h
  rw [h, Bool.eq_iff_iff, beq_iff_eq, decide_eq_true_eq]
  omega

end Go.Proofs.YtbgglghapjfdeaaDoor
/- The contracts of ratio and of the checks (package dec). -/
namespace Go.Proofs.YtbgglghapjfdeaaDoor
open Go.RowKit
set_option linter.unusedVariables false
attribute [local go_sem] ext_cell ext_frozen ext_drew ext_of_drew ext_of_drewN ext_setCell ext_lt ext_lt1 ext_lt2 ext_lt3 lt_n2 lt_n3 lt_n4 lt_n5 lt_n6 ext_ext

/-- What is divided, and by what. -/
def rnum (n : Nat) (shift : Int) : Nat := n * 10 ^ shift.toNat
def rden (d : Nat) (shift : Int) : Nat := d * 10 ^ (-shift).toNat
/-- The size of the rounded quotient. -/
def rquo (neg : Bool) (n d : Nat) (shift : Int) (mode : Nat) : Nat :=
  rnum n shift / rden d shift + (if away neg (rnum n shift / rden d shift) (rnum n shift % rden d shift) (rden d shift) mode then 1 else 0)

theorem one_words : IsW 1 1 0 0 0 0 := by
  have h := fun i (hi : 0 < i) => wd_high 1 i (by decide) hi
  exact ⟨by rw [wd_low 1 (by decide)]; rfl, by rw [h 1 (by decide)], by rw [h 2 (by decide)], by rw [h 3 (by decide)], by rw [h 4 (by decide)]⟩

theorem ratio_core (neg : Bool) (n d mode : Nat) (shift : Int) (w : World) (hm : mode ≤ 6) (hn : rnum n shift < B ^ 5) (hd : 0 < rden d shift) (hd5 : 2 * rden d shift ≤ B ^ 5) :
    ∃ q r : Nat, q = rnum n shift / rden d shift ∧ r = rnum n shift % rden d shift ∧ q < B ^ 5 ∧ 2 * r < B ^ 5 ∧ rden d shift < B ^ 5 := by
  refine ⟨_, _, rfl, rfl, Nat.lt_of_le_of_lt (Nat.div_le_self _ _) hn, ?_, by omega⟩
  have := Nat.mod_lt (rnum n shift) hd
  omega

end Go.Proofs.YtbgglghapjfdeaaDoor
