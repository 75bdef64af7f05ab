/- Decimals and numbers with a sign (package dec): what their values are, and the contracts of opposite, numberOf, number.dec and number.sign. -/
import Derived.Test.YtlgcbbnnldlooaaDoorM6
import Derived.ChangeKeysEq
namespace Go.Proofs.YtlgcbbnnldlooaaDoor
open Go.RowKit
set_option linter.unusedVariables false
attribute [local go_sem] ext_cell ext_frozen ext_drew ext_of_drew ext_of_drewN ext_setCell ext_lt ext_lt1 ext_lt2 ext_lt3 lt_n2 lt_n3 lt_n4 lt_n5 lt_n6

/-- The two words of a coefficient. -/
def dhi (c : Int) : Int := c / 18446744073709551616
def dlo (c : Int) : Int := c % 18446744073709551616
theorem dec_words (h l : Int) (hl : 0 ≤ l) (hl2 : l ≤ 18446744073709551615) : dhi (h * 18446744073709551616 + l) = h ∧ dlo (h * 18446744073709551616 + l) = l := by unfold dhi dlo; omega
structure IsD (c h l : Int) : Prop where
  eh : h = dhi c
  el : l = dlo c
theorem IsD.self (c : Int) : IsD c (dhi c) (dlo c) := ⟨rfl, rfl⟩
/-- 2^127, behind a name. -/
def M127 : Int := 170141183460469231731687303715884105728
theorem M127_eq : M127 = 170141183460469231731687303715884105728 := rfl
/-- A coefficient in range. -/
structure InR (c : Int) : Prop where
  lo : -M127 < c
  hi : c < M127
theorem dlo_bd (c : Int) : 0 ≤ dlo c ∧ dlo c ≤ 18446744073709551615 := by unfold dlo; omega
theorem dhi_bd {c : Int} (h : InR c) : -9223372036854775808 ≤ dhi c ∧ dhi c ≤ 9223372036854775807 := by
  have := h.lo; have := h.hi; rw [M127_eq] at *; unfold dhi; omega
theorem dhi_neg (c : Int) : dhi c < 0 ↔ c < 0 := by unfold dhi; omega

theorem opp_lo (c : Int) : (0 + 18446744073709551616 - dlo c - 0) % 18446744073709551616 = dlo (-c) := by unfold dlo; omega
def oborrow (c : Int) : Int := if 0 < dlo c + 0 then 1 else 0
theorem oborrow_bd (c : Int) : 0 ≤ oborrow c ∧ oborrow c ≤ 1 := by unfold oborrow; split <;> omega
def ohi (c : Int) : Int := (0 + 18446744073709551616 - IntKind.u64.wrap (dhi c) - oborrow c) % 18446744073709551616
def orest (c : Int) : Int := if 0 < IntKind.u64.wrap (dhi c) + oborrow c then 1 else 0
theorem opp_hi {c : Int} (h : InR c) : wrap64 (ohi c) = dhi (-c) := by
  have h1 := h.lo; have h2 := h.hi; rw [M127_eq] at *
  unfold ohi oborrow
  rw [IntKind.wrap_u64]
  unfold wrap64 dhi dlo
  split <;> omega
theorem wrapu_isWord (x : Int) : IsWord (IntKind.u64.wrap x) := by rw [IntKind.wrap_u64]; constructor <;> omega
theorem dlo_isWord (c : Int) : IsWord (dlo c) := ⟨(dlo_bd c).1, (dlo_bd c).2⟩

set_option maxHeartbeats 400000 in
set_option maxRecDepth 100000 in
theorem opposite_any (c h l s : Int) (w : World) (hd : IsD c h l) (hc : InR c) :
    Calls Tryd.prog 46 #[.agg #[.int .i64 h, .int .u64 l, .int .i64 s]] w
      fun e w' => e = .returned (.agg #[.int .i64 (dhi (-c)), .int .u64 (dlo (-c)), .int .i64 s]) ∧ Below w.heap.size w w' := by
  obtain ⟨rfl, rfl⟩ := hd
  have r1 : ∀ w, (callFunc 63 #[.int .u64 0, .int .u64 (dlo c), .int .u64 0]).run Tryd.prog w = .ok (.value (.tuple #[.int .u64 (dlo (-c)), .int .u64 (oborrow c)])) w := by
    intro w
    rw [run_Sub64 0 (dlo c) 0 ⟨by omega, by omega⟩ (dlo_isWord c) (by omega) (by omega), opp_lo]
    rfl
  have r2 : ∀ w, (callFunc 63 #[.int .u64 0, .int .u64 (IntKind.u64.wrap (dhi c)), .int .u64 (oborrow c)]).run Tryd.prog w = .ok (.value (.tuple #[.int .u64 (ohi c), .int .u64 (orest c)])) w := by
    intro w
    rw [run_Sub64 0 _ _ ⟨by omega, by omega⟩ (wrapu_isWord _) (oborrow_bd c).1 (oborrow_bd c).2]
    rfl
  have r3 := opp_hi hc
  go_enter Tryd.func46, Tryd.ntmps46
  go_wp2
  refine bodyPost_ret (v := .agg _) (by simp [results, Tryd.results46, go_sem]) rfl ⟨rfl, ?_⟩
  repeat (first | exact Below.refl _ _ | refine Below.drew ?_ | refine below_drewN ?_ _ | refine bel_alloc ?_ _ | refine bel_ext ?_ _ | (refine Below.setCell ?_ ?_ _; rotate_left; (simp <;> omega)))

/-! numberOf -/
theorem wd_small {n : Nat} (h : (n : Int) < 340282366920938463463374607431768211456) : wd n 0 = (n : Int) % 18446744073709551616 ∧ wd n 1 = (n : Int) / 18446744073709551616 ∧ wd n 2 = 0 ∧ wd n 3 = 0 ∧ wd n 4 = 0 := by
  have e2 : B ^ 2 = 340282366920938463463374607431768211456 := by rw [B_eq]
  have h3 : ∀ i, 2 ≤ i → n / B ^ i = 0 := fun i hi => Nat.div_eq_of_lt (Nat.lt_of_lt_of_le (by rw [e2]; omega : n < B ^ 2) (Nat.pow_le_pow_right B_pos hi))
  unfold wd
  refine ⟨?_, ?_, ?_, ?_, ?_⟩
  · simp [B_eq]
  · rw [Nat.pow_one, B_eq]; omega
  · rw [h3 2 (by omega)]; simp
  · rw [h3 3 (by omega)]; simp
  · rw [h3 4 (by omega)]; simp
theorem words_of {c : Int} (h0 : 0 ≤ c) (h : c < M127) : IntKind.u64.wrap (dhi c) = wd c.toNat 1 ∧ dlo c = wd c.toNat 0 ∧ wd c.toNat 2 = 0 ∧ wd c.toNat 3 = 0 ∧ wd c.toNat 4 = 0 := by
  rw [M127_eq] at h
  obtain ⟨n, rfl⟩ := Int.eq_ofNat_of_zero_le h0
  obtain ⟨e0, e1, e2, e3, e4⟩ := wd_small (n := n) (by omega)
  rw [Int.toNat_natCast, e0, e1]
  refine ⟨?_, rfl, e2, e3, e4⟩
  rw [IntKind.wrap_u64]; unfold dhi; omega
set_option maxHeartbeats 400000 in
set_option maxRecDepth 100000 in
theorem numberOf_any (c h l s : Int) (w : World) (hd : IsD c h l) (hc : InR c) :
    Calls Tryd.prog 72 #[.agg #[.int .i64 h, .int .u64 l, .int .i64 s]] w
      fun e w' => e = .returned (.agg #[.bool (decide (c < 0)), .int .u64 (wd (c.natAbs) 0), .int .u64 (wd (c.natAbs) 1), .int .u64 (wd (c.natAbs) 2), .int .u64 (wd (c.natAbs) 3), .int .u64 (wd (c.natAbs) 4)]) ∧ Below w.heap.size w w' := by
  obtain ⟨rfl, rfl⟩ := hd
  have h1 := hc.lo
  have h2 := hc.hi
  by_cases c0 : c < 0
  · have t : dhi c < 0 := (dhi_neg c).2 c0
    obtain ⟨e1, e0, e2, e3, e4⟩ := words_of (c := -c) (by omega) (by omega)
    have ht : (-c).toNat = c.natAbs := by omega
    rw [ht] at e1 e0 e2 e3 e4
    have HE : Hid (wd c.natAbs 2 = 0 ∧ wd c.natAbs 3 = 0 ∧ wd c.natAbs 4 = 0) := ⟨e2, e3, e4⟩
    have H0 := (show Hid _ from e0)
    clear e2 e3 e4 ht e0
    go_enter Tryd.func72, Tryd.ntmps72
    go_wp2_with (go_at_call 46; refine (opposite_any c _ _ _ _ (IsD.self _) hc).mono ?_; rintro e w1 ⟨rfl, hb1⟩; obtain ⟨x, rfl⟩ := ext_of_below hb1; clear hb1)
    refine bodyPost_ret (v := .agg #[.bool true, .int .u64 (dlo (-c)), .int .u64 (wd c.natAbs 1), .int .u64 0, .int .u64 0, .int .u64 0]) (by simp [results, Tryd.results72, go_sem]) rfl ⟨?_, ?_⟩
    · obtain ⟨e2, e3, e4⟩ := HE.out
      rw [H0.out, e2, e3, e4, show decide (c < 0) = true by simp [c0]]
    · repeat (first | exact Below.refl _ _ | refine Below.drew ?_ | refine below_drewN ?_ _ | refine bel_alloc ?_ _ | refine bel_ext ?_ _ | (refine Below.setCell ?_ ?_ _; rotate_left; (simp <;> omega)))
  · have t : ¬ dhi c < 0 := fun t => c0 ((dhi_neg c).1 t)
    obtain ⟨e1, e0, e2, e3, e4⟩ := words_of (c := c) (by omega) (by omega)
    have ht : c.toNat = c.natAbs := by omega
    rw [ht] at e1 e0 e2 e3 e4
    have HE : Hid (wd c.natAbs 2 = 0 ∧ wd c.natAbs 3 = 0 ∧ wd c.natAbs 4 = 0) := ⟨e2, e3, e4⟩
    have H0 := (show Hid _ from e0)
    clear e2 e3 e4 ht e0
    go_enter Tryd.func72, Tryd.ntmps72
    go_wp2
    refine bodyPost_ret (v := .agg #[.bool false, .int .u64 (dlo c), .int .u64 (wd c.natAbs 1), .int .u64 0, .int .u64 0, .int .u64 0]) (by simp [results, Tryd.results72, go_sem]) rfl ⟨?_, ?_⟩
    · obtain ⟨e2, e3, e4⟩ := HE.out
      rw [H0.out, e2, e3, e4, show decide (c < 0) = false by simp [c0]]
    · repeat (first | exact Below.refl _ _ | refine Below.drew ?_ | refine below_drewN ?_ _ | refine bel_alloc ?_ _ | refine bel_ext ?_ _ | (refine Below.setCell ?_ ?_ _; rotate_left; (simp <;> omega)))
end Go.Proofs.YtlgcbbnnldlooaaDoor
/- The contracts of number.dec, number.sign, number.plus, raised and total (package dec). -/
namespace Go.Proofs.YtlgcbbnnldlooaaDoor
open Go.RowKit
set_option linter.unusedVariables false
attribute [local go_sem] ext_cell ext_frozen ext_drew ext_of_drew ext_of_drewN ext_setCell ext_lt ext_lt1 ext_lt2 ext_lt3 lt_n2 lt_n3 lt_n4 lt_n5 lt_n6

/-- The whole number that a sign and a size are. -/
def sv (neg : Bool) (n : Nat) : Int := if neg then -(n : Int) else n
theorem sv_abs (c : Int) : sv (decide (c < 0)) c.natAbs = c := by unfold sv; by_cases h : c < 0 <;> simp [h] <;> omega

theorem low_words {n : Nat} (h : (n : Int) < M127) : dlo (n : Int) = wd n 0 ∧ dhi (n : Int) = wd n 1 ∧ wrap64 (wd n 1) = dhi (n : Int) := by
  rw [M127_eq] at h
  obtain ⟨e0, e1, -, -, -⟩ := wd_small (n := n) (by omega)
  rw [e0, e1]
  refine ⟨rfl, rfl, ?_⟩
  unfold wrap64 dhi; omega
theorem bl_127 (n : Nat) : bl n ≤ 127 ↔ (n : Int) < M127 := by
  rw [bl_le, M127_eq]
  omega

set_option maxHeartbeats 400000 in
set_option maxRecDepth 100000 in
theorem dec_big (neg : Bool) (n : Nat) (s : Int) (w : World) (hn5 : n < B ^ 5) (hn : M127 ≤ (n : Int)) :
    Calls Tryd.prog 44 #[.agg #[.bool neg, .int .u64 (wd (n) 0), .int .u64 (wd (n) 1), .int .u64 (wd (n) 2), .int .u64 (wd (n) 3), .int .u64 (wd (n) 4)], .int .i64 s] w
      fun e w' => e = .returned (.tuple #[.agg #[.int .i64 0, .int .u64 0, .int .i64 0], .int .i64 4]) ∧ Below w.heap.size w w' := by
  have hb : (127 : Int) < (bl n : Int) := by
    rcases Nat.lt_or_ge 127 (bl n) with c | c
    · omega
    · have := (bl_127 n).1 c; omega
  have h3 : (bl n : Int) ≤ 320 := by have := bl_wide hn5; omega
  go_enter Tryd.func44, Tryd.ntmps44
  go_wp2_with (go_at_call 61; refine (bits_any n _ _ _ _ _ _ (IsW.self _) hn5).mono ?_; rintro e w1 ⟨rfl, hb1⟩; obtain ⟨x, rfl⟩ := ext_of_below hb1; clear hb1)
  refine bodyPost_ret (v := .tuple #[.agg #[.int .i64 0, .int .u64 0, .int .i64 0], .int .i64 4]) (by simp [results, Tryd.results44, go_sem]) rfl ⟨rfl, ?_⟩
  repeat (first | exact Below.refl _ _ | refine Below.drew ?_ | refine below_drewN ?_ _ | refine bel_alloc ?_ _ | refine bel_ext ?_ _ | (refine Below.setCell ?_ ?_ _; rotate_left; (simp <;> omega)))
set_option maxHeartbeats 400000 in
set_option maxRecDepth 100000 in
theorem dec_ok (neg : Bool) (n : Nat) (s : Int) (w : World) (hn5 : n < B ^ 5) (hn : (n : Int) < M127) :
    Calls Tryd.prog 44 #[.agg #[.bool neg, .int .u64 (wd (n) 0), .int .u64 (wd (n) 1), .int .u64 (wd (n) 2), .int .u64 (wd (n) 3), .int .u64 (wd (n) 4)], .int .i64 s] w
      fun e w' => e = .returned (.tuple #[.agg #[.int .i64 (dhi (sv neg n)), .int .u64 (dlo (sv neg n)), .int .i64 s], .int .i64 0]) ∧ Below w.heap.size w w' := by
  have hb : (bl n : Int) ≤ 127 := by have := (bl_127 n).2 hn; omega
  obtain ⟨e0, e1, e2⟩ := low_words hn
  have HE : Hid (dlo (n : Int) = wd n 0) := e0
  have hc : InR (n : Int) := ⟨by have := M127_eq; omega, hn⟩
  clear e1
  cases neg
  · have es : sv false n = (n : Int) := rfl
    rw [es]
    clear es hn hc e0
    go_enter Tryd.func44, Tryd.ntmps44
    go_wp2_with (go_at_call 61; refine (bits_any n _ _ _ _ _ _ (IsW.self _) hn5).mono ?_; rintro e w1 ⟨rfl, hb1⟩; obtain ⟨x, rfl⟩ := ext_of_below hb1; clear hb1)
    refine bodyPost_ret (v := .tuple #[.agg #[.int .i64 (dhi n), .int .u64 (wd n 0), .int .i64 s], .int .i64 0]) (by simp [results, Tryd.results44, go_sem]) rfl ⟨by rw [HE.out], ?_⟩
    repeat (first | exact Below.refl _ _ | refine Below.drew ?_ | refine below_drewN ?_ _ | refine bel_alloc ?_ _ | refine bel_ext ?_ _ | (refine Below.setCell ?_ ?_ _; rotate_left; (simp <;> omega)))
  · have es : sv true n = -(n : Int) := rfl
    rw [es]
    have HD : Hid (IsD (n : Int) (dhi n) (wd n 0)) := ⟨rfl, e0.symm⟩
    have HC : Hid (InR (n : Int)) := hc
    clear e0 es hn hc
    go_enter Tryd.func44, Tryd.ntmps44
    go_wp2_with (first | (go_at_call 61; refine (bits_any n _ _ _ _ _ _ (IsW.self _) hn5).mono ?_; rintro e w1 ⟨rfl, hb1⟩; obtain ⟨x, rfl⟩ := ext_of_below hb1; clear hb1) | (go_at_call 46; refine (opposite_any (n : Int) _ _ _ _ HD.out HC.out).mono ?_; rintro e w1 ⟨rfl, hb1⟩; obtain ⟨y, rfl⟩ := ext_of_below hb1; clear hb1))
    refine bodyPost_ret (v := .tuple #[.agg #[.int .i64 (dhi (-n)), .int .u64 (dlo (-n)), .int .i64 s], .int .i64 0]) (by simp [results, Tryd.results44, go_sem]) rfl ⟨rfl, ?_⟩
    repeat (first | exact Below.refl _ _ | refine Below.drew ?_ | refine below_drewN ?_ _ | refine bel_alloc ?_ _ | refine bel_ext ?_ _ | (refine Below.setCell ?_ ?_ _; rotate_left; (simp <;> omega)))
end Go.Proofs.YtlgcbbnnldlooaaDoor
/- The contracts of number.sign, number.plus, raised and total (package dec). -/
namespace Go.Proofs.YtlgcbbnnldlooaaDoor
open Go.RowKit
set_option linter.unusedVariables false
attribute [local go_sem] ext_cell ext_frozen ext_drew ext_of_drew ext_of_drewN ext_setCell ext_lt ext_lt1 ext_lt2 ext_lt3 lt_n2 lt_n3 lt_n4 lt_n5 lt_n6

/-- '==' between two arrays of five words. -/
theorem eq_wide (a0 a1 a2 a3 a4 b0 b1 b2 b3 b4 : Int) (w : World) :
    (Op.equalIn 10000 85 (.agg #[.int .u64 a0, .int .u64 a1, .int .u64 a2, .int .u64 a3, .int .u64 a4]) (.agg #[.int .u64 b0, .int .u64 b1, .int .u64 b2, .int .u64 b3, .int .u64 b4])).run Tryd.prog w = .ok ((a0 == b0) && ((a1 == b1) && ((a2 == b2) && ((a3 == b3) && (a4 == b4))))) w := by
  obtain ⟨i, hi⟩ : ∃ i, Tryd.prog.info? 35 = some i := Option.isSome_iff_exists.1 (by kernel_rfl)
  rw [show (10000 : Nat) = 9999 + 1 from rfl, run_equalIn_array (P := Tryd.prog) w 9999 _ _ Tryd.underlying85 hi]
  have hc : Tryd.prog.cellsOf 35 = 1 := by kernel_rfl
  rw [hc]
  simp [Op.eqItems, List.range, List.range.loop, go_sem]
  by_cases h0 : a0 = b0 <;> by_cases h1 : a1 = b1 <;> by_cases h2 : a2 = b2 <;> by_cases h3 : a3 = b3 <;> by_cases h4 : a4 = b4 <;> simp [h0, h1, h2, h3, h4]
theorem same_words {m n : Nat} (hm : m < B ^ 5) (hn : n < B ^ 5) : ((wd m 0 == wd n 0) && ((wd m 1 == wd n 1) && ((wd m 2 == wd n 2) && ((wd m 3 == wd n 3) && (wd m 4 == wd n 4))))) = decide (m = n) := by
  rw [Bool.eq_iff_iff]
  simp only [Bool.and_eq_true, beq_iff_eq, decide_eq_true_eq]
  constructor
  · rintro ⟨e0, e1, e2, e3, e4⟩
    have f : ∀ i, wd m i = wd n i → wn m i = wn n i := fun i h => by rw [wd_wn, wd_wn] at h; omega
    have t4 := eq_of_word (less_all hm hn) (f 4 e4)
    have t3 := eq_of_word t4 (f 3 e3)
    have t2 := eq_of_word t3 (f 2 e2)
    have t1 := eq_of_word t2 (f 1 e1)
    have t0 := eq_of_word t1 (f 0 e0)
    simpa using t0
  · rintro rfl; simp
theorem eq_zero {n : Nat} (hn : n < B ^ 5) (w : World) :
    (Op.equalIn 10000 85 (.agg #[.int .u64 (wd (n) 0), .int .u64 (wd (n) 1), .int .u64 (wd (n) 2), .int .u64 (wd (n) 3), .int .u64 (wd (n) 4)]) (.agg #[.int .u64 0, .int .u64 0, .int .u64 0, .int .u64 0, .int .u64 0])).run Tryd.prog w = .ok (decide (n = 0)) w := by
  have h := eq_wide (wd n 0) (wd n 1) (wd n 2) (wd n 3) (wd n 4) (wd 0 0) (wd 0 1) (wd 0 2) (wd 0 3) (wd 0 4) w
  rw [same_words hn (Nat.pow_pos B_pos)] at h
  rw [wd_zero, wd_zero, wd_zero, wd_zero, wd_zero] at h
  exact h
theorem eq_same {m n : Nat} (hm : m < B ^ 5) (hn : n < B ^ 5) (w : World) :
    (Op.equalIn 10000 85 (.agg #[.int .u64 (wd (m) 0), .int .u64 (wd (m) 1), .int .u64 (wd (m) 2), .int .u64 (wd (m) 3), .int .u64 (wd (m) 4)]) (.agg #[.int .u64 (wd (n) 0), .int .u64 (wd (n) 1), .int .u64 (wd (n) 2), .int .u64 (wd (n) 3), .int .u64 (wd (n) 4)])).run Tryd.prog w = .ok (decide (m = n)) w := by
  rw [eq_wide, same_words hm hn]

def sgn (c : Int) : Int := if c < 0 then -1 else if c = 0 then 0 else 1

set_option maxHeartbeats 400000 in
set_option maxRecDepth 100000 in
theorem sign_any (neg : Bool) (n : Nat) (w : World) (hn : n < B ^ 5) :
    Calls Tryd.prog 64 #[.agg #[.bool neg, .int .u64 (wd (n) 0), .int .u64 (wd (n) 1), .int .u64 (wd (n) 2), .int .u64 (wd (n) 3), .int .u64 (wd (n) 4)]] w
      fun e w' => e = .returned (.int .i64 (sgn (sv neg n))) ∧ Below w.heap.size w w' := by
  have he := fun w => eq_zero hn w
  by_cases h0 : n = 0
  · have hd : decide (n = 0) = true := by simp [h0]
    have fin : Hid (sgn (sv neg n) = 0) := by show _ = _; subst h0; cases neg <;> rfl
    clear h0 hn
    rw [fin.out]
    go_enter Tryd.func64, Tryd.ntmps64
    go_wp2
    go_ret
    refine ⟨rfl, ?_⟩
    repeat (first | exact Below.refl _ _ | refine Below.drew ?_ | refine below_drewN ?_ _ | refine bel_alloc ?_ _ | refine bel_ext ?_ _ | (refine Below.setCell ?_ ?_ _; rotate_left; (simp <;> omega)))
  · have hd : decide (n = 0) = false := by simp [h0]
    cases neg
    · have fin : Hid (sgn (sv false n) = 1) := by show _ = _; unfold sgn sv; simp; omega
      clear h0 hn
      rw [fin.out]
      go_enter Tryd.func64, Tryd.ntmps64
      go_wp2
      go_ret
      refine ⟨rfl, ?_⟩
      repeat (first | exact Below.refl _ _ | refine Below.drew ?_ | refine below_drewN ?_ _ | refine bel_alloc ?_ _ | refine bel_ext ?_ _ | (refine Below.setCell ?_ ?_ _; rotate_left; (simp <;> omega)))
    · have fin : Hid (sgn (sv true n) = -1) := by show _ = _; unfold sgn sv; simp; omega
      clear h0 hn
      rw [fin.out]
      go_enter Tryd.func64, Tryd.ntmps64
      go_wp2
      go_ret
      refine ⟨rfl, ?_⟩
      repeat (first | exact Below.refl _ _ | refine Below.drew ?_ | refine below_drewN ?_ _ | refine bel_alloc ?_ _ | refine bel_ext ?_ _ | (refine Below.setCell ?_ ?_ _; rotate_left; (simp <;> omega)))

/-! the sum of two numbers with a sign -/
def padd (a : Bool × Nat) (b : Bool × Nat) : Bool × Nat := if a.1 = b.1 then (a.1, a.2 + b.2) else if a.2 < b.2 then (b.1, b.2 - a.2) else (a.1, a.2 - b.2)
theorem padd_sv (a b : Bool × Nat) : sv (padd a b).1 (padd a b).2 = sv a.1 a.2 + sv b.1 b.2 := by
  obtain ⟨s, m⟩ := a
  obtain ⟨t, n⟩ := b
  unfold padd sv
  cases s <;> cases t <;> simp <;> (try split) <;> (try simp) <;> omega
theorem padd_le (a b : Bool × Nat) : (padd a b).2 ≤ a.2 + b.2 := by unfold padd; split <;> (try split) <;> simp <;> omega

set_option maxHeartbeats 1000000 in
set_option maxRecDepth 100000 in
theorem nplus_any (s t : Bool) (m n : Nat) (w : World) (hm : m < B ^ 5) (hn : n < B ^ 5) :
    Calls Tryd.prog 60 #[.agg #[.bool s, .int .u64 (wd (m) 0), .int .u64 (wd (m) 1), .int .u64 (wd (m) 2), .int .u64 (wd (m) 3), .int .u64 (wd (m) 4)], .agg #[.bool t, .int .u64 (wd (n) 0), .int .u64 (wd (n) 1), .int .u64 (wd (n) 2), .int .u64 (wd (n) 3), .int .u64 (wd (n) 4)]] w
      fun e w' => e = .returned (.agg #[.bool (padd (s, m) (t, n)).1, .int .u64 (wd ((padd (s, m) (t, n)).2) 0), .int .u64 (wd ((padd (s, m) (t, n)).2) 1), .int .u64 (wd ((padd (s, m) (t, n)).2) 2), .int .u64 (wd ((padd (s, m) (t, n)).2) 3), .int .u64 (wd ((padd (s, m) (t, n)).2) 4)]) ∧ Below w.heap.size w w' := by
  by_cases hs : s = t
  · have hb : (s == t) = true := by simp [hs]
    have e : padd (s, m) (t, n) = (s, m + n) := by unfold padd; simp [hs]
    rw [e]
    clear e hs
    go_enter Tryd.func60, Tryd.ntmps60
    go_wp2
    refine wp_region_ext 8 (by kernel_rfl) (by kernel_rfl) ?_
    iterate 8 (refine wpQuiet_step (fun K hK => ?_); go_simp; first | (refine hK _ ?_; clear hK K) | (apply Exists.intro; refine ⟨fun xq => ?_, hK _ ?_⟩; (go_at_call 74; exact calls_ext (plus_any m n _ _ _ _ _ _ _ _ _ _ _ (IsW.self _) (IsW.self _))); clear hK K))
    refine wpQuiet_nil ?_
    intro xq
    simp only [List.drop_succ_cons, List.drop_zero]
    go_wp2
    refine bodyPost_ret (v := .agg _) (by simp [results, Tryd.results60, go_sem]) rfl ⟨rfl, ?_⟩
    repeat (first | exact Below.refl _ _ | refine Below.drew ?_ | refine below_drewN ?_ _ | refine bel_alloc ?_ _ | refine bel_ext ?_ _ | (refine Below.setCell ?_ ?_ _; rotate_left; (simp <;> omega)))
  · have hb : (s == t) = false := by simp [hs]
    by_cases hl : m < n
    · have hd : decide (m < n) = true := by simp [hl]
      have e : padd (s, m) (t, n) = (t, n - m) := by unfold padd; simp [hs, hl]
      rw [e]
      clear e hs
      go_enter Tryd.func60, Tryd.ntmps60
      go_wp2_with (go_at_call 75; refine (below_any m n _ _ _ _ _ _ _ _ _ _ _ (IsW.self _) (IsW.self _) hm hn).mono ?_; rintro e w1 ⟨rfl, hb1⟩; obtain ⟨x, rfl⟩ := ext_of_below hb1; clear hb1)
      refine wp_region_ext 8 (by kernel_rfl) (by kernel_rfl) ?_
      iterate 8 (refine wpQuiet_step (fun K hK => ?_); go_simp; first | (refine hK _ ?_; clear hK K) | (apply Exists.intro; refine ⟨fun xq => ?_, hK _ ?_⟩; (go_at_call 76; exact calls_ext (minus_any n m _ _ _ _ _ _ _ _ _ _ _ (IsW.self _) (IsW.self _) (Nat.le_of_lt hl))); clear hK K))
      refine wpQuiet_nil ?_
      intro xq
      simp only [List.drop_succ_cons, List.drop_zero]
      go_wp2
      refine bodyPost_ret (v := .agg _) (by simp [results, Tryd.results60, go_sem]) rfl ⟨rfl, ?_⟩
      repeat (first | exact Below.refl _ _ | refine Below.drew ?_ | refine below_drewN ?_ _ | refine bel_alloc ?_ _ | refine bel_ext ?_ _ | (refine Below.setCell ?_ ?_ _; rotate_left; (simp <;> omega)))
    · have hd : decide (m < n) = false := by simp [hl]
      have e : padd (s, m) (t, n) = (s, m - n) := by unfold padd; simp [hs, hl]
      rw [e]
      have hl2 : n ≤ m := by omega
      clear e hs hl
      go_enter Tryd.func60, Tryd.ntmps60
      go_wp2_with (go_at_call 75; refine (below_any m n _ _ _ _ _ _ _ _ _ _ _ (IsW.self _) (IsW.self _) hm hn).mono ?_; rintro e w1 ⟨rfl, hb1⟩; obtain ⟨x, rfl⟩ := ext_of_below hb1; clear hb1)
      refine wp_region_ext 8 (by kernel_rfl) (by kernel_rfl) ?_
      iterate 8 (refine wpQuiet_step (fun K hK => ?_); go_simp; first | (refine hK _ ?_; clear hK K) | (apply Exists.intro; refine ⟨fun xq => ?_, hK _ ?_⟩; (go_at_call 76; exact calls_ext (minus_any m n _ _ _ _ _ _ _ _ _ _ _ (IsW.self _) (IsW.self _) hl2)); clear hK K))
      refine wpQuiet_nil ?_
      intro xq
      simp only [List.drop_succ_cons, List.drop_zero]
      go_wp2
      refine bodyPost_ret (v := .agg _) (by simp [results, Tryd.results60, go_sem]) rfl ⟨rfl, ?_⟩
      repeat (first | exact Below.refl _ _ | refine Below.drew ?_ | refine below_drewN ?_ _ | refine bel_alloc ?_ _ | refine bel_ext ?_ _ | (refine Below.setCell ?_ ?_ _; rotate_left; (simp <;> omega)))
end Go.Proofs.YtlgcbbnnldlooaaDoor
/- The contracts of raised and total (package dec). -/
namespace Go.Proofs.YtlgcbbnnldlooaaDoor
open Go.RowKit
set_option linter.unusedVariables false
attribute [local go_sem] ext_cell ext_frozen ext_drew ext_of_drew ext_of_drewN ext_setCell ext_lt ext_lt1 ext_lt2 ext_lt3 lt_n2 lt_n3 lt_n4 lt_n5 lt_n6

/-- A size at a greater scale. -/
def up10 (n s t : Nat) : Nat := n * 10 ^ (t - s)

set_option maxHeartbeats 1000000 in
set_option maxRecDepth 100000 in
theorem raised_any (c h l : Int) (s t : Nat) (w : World) (hd : IsD c h l) (hc : InR c) (hs : (s : Int) ≤ 18) (ht : (t : Int) ≤ 18) (hst : (s : Int) ≤ (t : Int)) :
    Calls Tryd.prog 59 #[.agg #[.int .i64 h, .int .u64 l, .int .i64 s], .int .i64 t] w
      fun e w' => e = .returned (.agg #[.bool (decide (c < 0)), .int .u64 (wd (up10 c.natAbs s t) 0), .int .u64 (wd (up10 c.natAbs s t) 1), .int .u64 (wd (up10 c.natAbs s t) 2), .int .u64 (wd (up10 c.natAbs s t) 3), .int .u64 (wd (up10 c.natAbs s t) 4)]) ∧ Below w.heap.size w w' := by
  obtain ⟨rfl, rfl⟩ := hd
  obtain ⟨u, hu⟩ : ∃ u, u = t - s := ⟨_, rfl⟩
  have eu : (t : Int) - (s : Int) = (u : Int) := by omega
  have hu3 : u ≤ 1000 := by omega
  have hup : up10 c.natAbs s t = c.natAbs * 10 ^ u := by rw [hu]; rfl
  rw [hup]
  clear hu hup
  go_enter Tryd.func59, Tryd.ntmps59
  go_wp2_with (first | (go_at_call 72; refine (numberOf_any c _ _ _ _ (IsD.self _) hc).mono ?_; rintro e w1 ⟨rfl, hb1⟩; obtain ⟨x, rfl⟩ := ext_of_below hb1; clear hb1) | (go_at_call 73; refine (ten_any c.natAbs u _ _ _ _ _ _ (IsW.self _) hu3).mono ?_; rintro e w1 ⟨rfl, hb1⟩; obtain ⟨y, rfl⟩ := ext_of_below hb1; clear hb1))
  refine bodyPost_ret (v := .agg _) (by simp [results, Tryd.results59, go_sem]) rfl ⟨rfl, ?_⟩
  repeat (first | exact Below.refl _ _ | refine Below.drew ?_ | refine below_drewN ?_ _ | refine bel_alloc ?_ _ | refine bel_ext ?_ _ | (refine Below.setCell ?_ ?_ _; rotate_left; (simp <;> omega)))

theorem natAbs_lt {c : Int} (hc : InR c) : c.natAbs < 2 ^ 127 := by
  have := hc.lo; have := hc.hi; rw [M127_eq] at *; omega
theorem ten_lt {n u : Nat} (hn : n < 2 ^ 127) (hu : u ≤ 18) : n * 10 ^ u < B ^ 4 := by
  have h1 : 10 ^ u ≤ 10 ^ 18 := Nat.pow_le_pow_right (by decide) hu
  have h2 : n * 10 ^ u ≤ 2 ^ 127 * 10 ^ 18 := Nat.mul_le_mul (Nat.le_of_lt hn) h1
  exact Nat.lt_of_le_of_lt h2 (by decide)
theorem B45 {n : Nat} (h : n < B ^ 4) : n < B ^ 5 := Nat.lt_of_lt_of_le h (Nat.pow_le_pow_right B_pos (by decide))

/-- The sum's sign and size, and its scale. -/
def tot (ca : Int) (sa : Nat) (cb : Int) (sb : Nat) : Bool × Nat :=
  padd (decide (ca < 0), up10 ca.natAbs sa (max sa sb)) (decide (cb < 0), up10 cb.natAbs sb (max sa sb))

set_option maxHeartbeats 1000000 in
set_option maxRecDepth 100000 in
theorem total_le (ca cb : Int) (sa sb : Nat) (w : World) (ia : InR ca) (ib : InR cb) (hsa : (sa : Int) ≤ 18) (hsb : (sb : Int) ≤ 18) (hc : (sa : Int) < (sb : Int)) :
    Calls Tryd.prog 43 #[.agg #[.int .i64 (dhi ca), .int .u64 (dlo ca), .int .i64 sa], .agg #[.int .i64 (dhi cb), .int .u64 (dlo cb), .int .i64 sb]] w
      fun e w' => e = .returned (.tuple #[.agg #[.bool (tot ca sa cb sb).1, .int .u64 (wd ((tot ca sa cb sb).2) 0), .int .u64 (wd ((tot ca sa cb sb).2) 1), .int .u64 (wd ((tot ca sa cb sb).2) 2), .int .u64 (wd ((tot ca sa cb sb).2) 3), .int .u64 (wd ((tot ca sa cb sb).2) 4)], .int .i64 ((max sa sb : Nat) : Int)]) ∧ Below w.heap.size w w' := by
  have HA : Hid (up10 ca.natAbs sa sb < B ^ 5) := B45 (ten_lt (natAbs_lt ia) (show sb - sa ≤ 18 by omega))
  have HB : Hid (up10 cb.natAbs sb sb < B ^ 5) := B45 (ten_lt (natAbs_lt ib) (show sb - sb ≤ 18 by omega))
  unfold tot
  have HT : max sa sb = sb := by omega
  rw [HT]
  clear HT
  go_enter Tryd.func43, Tryd.ntmps43
  go_wp2
  refine wp_region_any (by kernel_rfl) ?_
  refine wpAny_take (i := 7) rfl (by kernel_rfl) (by kernel_rfl) (by kernel_rfl) (fun _ _ _ h => h) (Or.inl ⟨rfl, fun _ => rfl⟩) ?_
  refine wpAny_exti 8 [7] [0, 1, 2, 3, 4, 5, 6] (by kernel_rfl) (by kernel_rfl) rfl (ext_drawn _) ?_
  iterate 2 (refine wpQuiet_step (fun K hK => ?_); go_simp; refine hK _ ?_; clear hK K)
  refine wpQuiet_step (fun K hK => ?_)
  go_simp
  apply Exists.intro
  refine ⟨fun xq => ?_, hK _ ?_⟩
  · exact calls_ext (raised_any ca _ _ sa sb _ (IsD.self _) ia hsa hsb (Int.le_of_lt hc))
  clear hK K
  iterate 2 (refine wpQuiet_step (fun K hK => ?_); go_simp; refine hK _ ?_; clear hK K)
  refine wpQuiet_step (fun K hK => ?_)
  go_simp
  apply Exists.intro
  refine ⟨fun xq => ?_, hK _ ?_⟩
  · exact calls_ext (raised_any cb _ _ sb sb _ (IsD.self _) ib hsb hsb (Int.le_refl _))
  clear hK K
  refine wpQuiet_step (fun K hK => ?_)
  go_simp
  apply Exists.intro
  refine ⟨fun xq => ?_, hK _ ?_⟩
  · exact calls_ext (nplus_any _ _ _ _ _ HA.out HB.out)
  clear hK K
  refine wpQuiet_nil ?_
  intro xq
  simp only [List.drop_succ_cons, List.drop_zero]
  go_wp2
  refine bodyPost_ret (v := .tuple #[.agg _, .int .i64 _]) (by simp [results, Tryd.results43, go_sem]) rfl ⟨rfl, ?_⟩
  repeat (first | exact Below.refl _ _ | refine Below.drew ?_ | refine below_drewN ?_ _ | refine bel_alloc ?_ _ | refine bel_ext ?_ _ | (refine Below.setCell ?_ ?_ _; rotate_left; (simp <;> omega)))
set_option maxHeartbeats 1000000 in
set_option maxRecDepth 100000 in
theorem total_gt (ca cb : Int) (sa sb : Nat) (w : World) (ia : InR ca) (ib : InR cb) (hsa : (sa : Int) ≤ 18) (hsb : (sb : Int) ≤ 18) (hc : (sb : Int) ≤ (sa : Int)) :
    Calls Tryd.prog 43 #[.agg #[.int .i64 (dhi ca), .int .u64 (dlo ca), .int .i64 sa], .agg #[.int .i64 (dhi cb), .int .u64 (dlo cb), .int .i64 sb]] w
      fun e w' => e = .returned (.tuple #[.agg #[.bool (tot ca sa cb sb).1, .int .u64 (wd ((tot ca sa cb sb).2) 0), .int .u64 (wd ((tot ca sa cb sb).2) 1), .int .u64 (wd ((tot ca sa cb sb).2) 2), .int .u64 (wd ((tot ca sa cb sb).2) 3), .int .u64 (wd ((tot ca sa cb sb).2) 4)], .int .i64 ((max sa sb : Nat) : Int)]) ∧ Below w.heap.size w w' := by
  have HA : Hid (up10 ca.natAbs sa sa < B ^ 5) := B45 (ten_lt (natAbs_lt ia) (show sa - sa ≤ 18 by omega))
  have HB : Hid (up10 cb.natAbs sb sa < B ^ 5) := B45 (ten_lt (natAbs_lt ib) (show sa - sb ≤ 18 by omega))
  unfold tot
  have HT : max sa sb = sa := by omega
  rw [HT]
  clear HT
  go_enter Tryd.func43, Tryd.ntmps43
  go_wp2
  refine wp_region_any (by kernel_rfl) ?_
  refine wpAny_take (i := 7) rfl (by kernel_rfl) (by kernel_rfl) (by kernel_rfl) (fun _ _ _ h => h) (Or.inl ⟨rfl, fun _ => rfl⟩) ?_
  refine wpAny_exti 8 [7] [0, 1, 2, 3, 4, 5, 6] (by kernel_rfl) (by kernel_rfl) rfl (ext_drawn _) ?_
  iterate 2 (refine wpQuiet_step (fun K hK => ?_); go_simp; refine hK _ ?_; clear hK K)
  refine wpQuiet_step (fun K hK => ?_)
  go_simp
  apply Exists.intro
  refine ⟨fun xq => ?_, hK _ ?_⟩
  · exact calls_ext (raised_any ca _ _ sa sa _ (IsD.self _) ia hsa hsa (Int.le_refl _))
  clear hK K
  iterate 2 (refine wpQuiet_step (fun K hK => ?_); go_simp; refine hK _ ?_; clear hK K)
  refine wpQuiet_step (fun K hK => ?_)
  go_simp
  apply Exists.intro
  refine ⟨fun xq => ?_, hK _ ?_⟩
  · exact calls_ext (raised_any cb _ _ sb sa _ (IsD.self _) ib hsb hsa hc)
  clear hK K
  refine wpQuiet_step (fun K hK => ?_)
  go_simp
  apply Exists.intro
  refine ⟨fun xq => ?_, hK _ ?_⟩
  · exact calls_ext (nplus_any _ _ _ _ _ HA.out HB.out)
  clear hK K
  refine wpQuiet_nil ?_
  intro xq
  simp only [List.drop_succ_cons, List.drop_zero]
  go_wp2
  refine bodyPost_ret (v := .tuple #[.agg _, .int .i64 _]) (by simp [results, Tryd.results43, go_sem]) rfl ⟨rfl, ?_⟩
  repeat (first | exact Below.refl _ _ | refine Below.drew ?_ | refine below_drewN ?_ _ | refine bel_alloc ?_ _ | refine bel_ext ?_ _ | (refine Below.setCell ?_ ?_ _; rotate_left; (simp <;> omega)))
theorem total_any (ca ha la cb hb lb : Int) (sa sb : Nat) (w : World) (da : IsD ca ha la) (db : IsD cb hb lb) (ia : InR ca) (ib : InR cb) (hsa : (sa : Int) ≤ 18) (hsb : (sb : Int) ≤ 18) :
    Calls Tryd.prog 43 #[.agg #[.int .i64 ha, .int .u64 la, .int .i64 sa], .agg #[.int .i64 hb, .int .u64 lb, .int .i64 sb]] w
      fun e w' => e = .returned (.tuple #[.agg #[.bool (tot ca sa cb sb).1, .int .u64 (wd ((tot ca sa cb sb).2) 0), .int .u64 (wd ((tot ca sa cb sb).2) 1), .int .u64 (wd ((tot ca sa cb sb).2) 2), .int .u64 (wd ((tot ca sa cb sb).2) 3), .int .u64 (wd ((tot ca sa cb sb).2) 4)], .int .i64 ((max sa sb : Nat) : Int)]) ∧ Below w.heap.size w w' := by
  obtain ⟨rfl, rfl⟩ := da
  obtain ⟨rfl, rfl⟩ := db
  rcases Int.lt_or_le (sa : Int) (sb : Int) with c | c
  · exact total_le ca cb sa sb w ia ib hsa hsb c
  · exact total_gt ca cb sa sb w ia ib hsa hsb c
end Go.Proofs.YtlgcbbnnldlooaaDoor
/- The contracts of awayFromNought and ratio (package dec). -/
namespace Go.Proofs.YtlgcbbnnldlooaaDoor
open Go.RowKit
set_option linter.unusedVariables false
attribute [local go_sem] ext_cell ext_frozen ext_drew ext_of_drew ext_of_drewN ext_setCell ext_lt ext_lt1 ext_lt2 ext_lt3 lt_n2 lt_n3 lt_n4 lt_n5 lt_n6

/-- Is a quotient with that rest rounded away from nought? -/
def away (neg : Bool) (q r d mode : Nat) : Bool :=
  if r = 0 then false else
  match mode with
  | 1 => true
  | 2 => neg
  | 3 => !neg
  | 4 => !decide (r + r < d)
  | 5 => decide (d < r + r)
  | 6 => decide (d < r + r) || (decide (r + r = d) && decide (q % 2 = 1))
  | _ => false
theorem odd_word (q : Nat) : (bits .and .u64 (wd q 0) 1 == 1) = decide (q % 2 = 1) := by
  have h := bit_word q 0 0 (by decide)
  simp only [Int.pow_zero, Int.ediv_one, Nat.mul_zero, Nat.add_zero, Nat.pow_zero, Nat.div_one] at h
  rw [h, Bool.eq_iff_iff, beq_iff_eq, decide_eq_true_eq]
  omega

end Go.Proofs.YtlgcbbnnldlooaaDoor
/- The contracts of ratio and of the checks (package dec). -/
namespace Go.Proofs.YtlgcbbnnldlooaaDoor
open Go.RowKit
set_option linter.unusedVariables false
attribute [local go_sem] ext_cell ext_frozen ext_drew ext_of_drew ext_of_drewN ext_setCell ext_lt ext_lt1 ext_lt2 ext_lt3 lt_n2 lt_n3 lt_n4 lt_n5 lt_n6 ext_ext

/-- What is divided, and by what. -/
def rnum (n : Nat) (shift : Int) : Nat := n * 10 ^ shift.toNat
def rden (d : Nat) (shift : Int) : Nat := d * 10 ^ (-shift).toNat
/-- The size of the rounded quotient. -/
def rquo (neg : Bool) (n d : Nat) (shift : Int) (mode : Nat) : Nat :=
  rnum n shift / rden d shift + (if away neg (rnum n shift / rden d shift) (rnum n shift % rden d shift) (rden d shift) mode then 1 else 0)

theorem one_words : IsW 1 1 0 0 0 0 := by
  have h := fun i (hi : 0 < i) => wd_high 1 i (by decide) hi
  exact ⟨by rw [wd_low 1 (by decide)]; rfl, by rw [h 1 (by decide)], by rw [h 2 (by decide)], by rw [h 3 (by decide)], by rw [h 4 (by decide)]⟩

theorem ratio_core (neg : Bool) (n d mode : Nat) (shift : Int) (w : World) (hm : mode ≤ 6) (hn : rnum n shift < B ^ 5) (hd : 0 < rden d shift) (hd5 : 2 * rden d shift ≤ B ^ 5) :
    ∃ q r : Nat, q = rnum n shift / rden d shift ∧ r = rnum n shift % rden d shift ∧ q < B ^ 5 ∧ 2 * r < B ^ 5 ∧ rden d shift < B ^ 5 := by
  refine ⟨_, _, rfl, rfl, Nat.lt_of_le_of_lt (Nat.div_le_self _ _) hn, ?_, by omega⟩
  have := Nat.mod_lt (rnum n shift) hd
  omega

end Go.Proofs.YtlgcbbnnldlooaaDoor
