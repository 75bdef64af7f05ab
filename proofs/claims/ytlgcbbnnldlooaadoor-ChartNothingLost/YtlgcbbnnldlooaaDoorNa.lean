/- Decimals and numbers with a sign (package dec): what their values are, and the contracts of opposite, numberOf, number.dec and number.sign. -/
import Derived.Test.YtlgcbbnnldlooaaDoorWk
import Derived.Test.YtlgcbbnnldlooaaDoorWg
import Derived.Test.YtlgcbbnnldlooaaDoorWf
namespace Go.Proofs.YtlgcbbnnldlooaaDoor
open Go.RowKit
set_option linter.unusedVariables false
attribute [local go_sem] ext_cell ext_frozen ext_drew ext_of_drew ext_of_drewN ext_setCell ext_lt ext_lt1 ext_lt2 ext_lt3 lt_n2 lt_n3 lt_n4 lt_n5 lt_n6

/-- The two words of a coefficient. -/
def dhi (c : Int) : Int := c / 18446744073709551616
def dlo (c : Int) : Int := c % 18446744073709551616
theorem dec_words (h l : Int) (hl : 0 ≤ l) (hl2 : l ≤ 18446744073709551615) : dhi (h * 18446744073709551616 + l) = h ∧ dlo (h * 18446744073709551616 + l) = l := by unfold dhi dlo; omega
structure IsD (c h l : Int) : Prop where
  eh : h = dhi c
  el : l = dlo c
theorem IsD.self (c : Int) : IsD c (dhi c) (dlo c) := ⟨rfl, rfl⟩
/-- 2^127, behind a name. -/
def M127 : Int := 170141183460469231731687303715884105728
theorem M127_eq : M127 = 170141183460469231731687303715884105728 := rfl
/-- A coefficient in range. -/
structure InR (c : Int) : Prop where
  lo : -M127 < c
  hi : c < M127
theorem dlo_bd (c : Int) : 0 ≤ dlo c ∧ dlo c ≤ 18446744073709551615 := by unfold dlo; omega
theorem dhi_bd {c : Int} (h : InR c) : -9223372036854775808 ≤ dhi c ∧ dhi c ≤ 9223372036854775807 := by
  have := h.lo; have := h.hi; rw [M127_eq] at *; unfold dhi; omega
theorem dhi_neg (c : Int) : dhi c < 0 ↔ c < 0 := by unfold dhi; omega

theorem opp_lo (c : Int) : (0 + 18446744073709551616 - dlo c - 0) % 18446744073709551616 = dlo (-c) := by unfold dlo; omega
def oborrow (c : Int) : Int := if 0 < dlo c + 0 then 1 else 0
theorem oborrow_bd (c : Int) : 0 ≤ oborrow c ∧ oborrow c ≤ 1 := by unfold oborrow; split <;> omega
def ohi (c : Int) : Int := (0 + 18446744073709551616 - IntKind.u64.wrap (dhi c) - oborrow c) % 18446744073709551616
def orest (c : Int) : Int := if 0 < IntKind.u64.wrap (dhi c) + oborrow c then 1 else 0
theorem opp_hi {c : Int} (h : InR c) : wrap64 (ohi c) = dhi (-c) := by
  have h1 := h.lo; have h2 := h.hi; rw [M127_eq] at *
  unfold ohi oborrow
  rw [IntKind.wrap_u64]
  unfold wrap64 dhi dlo
  split <;> omega
theorem wrapu_isWord (x : Int) : IsWord (IntKind.u64.wrap x) := by rw [IntKind.wrap_u64]; constructor <;> omega
theorem dlo_isWord (c : Int) : IsWord (dlo c) := ⟨(dlo_bd c).1, (dlo_bd c).2⟩

set_option maxHeartbeats 400000 in
set_option maxRecDepth 100000 in
theorem opposite_any (c h l s : Int) (w : World) (hd : IsD c h l) (hc : InR c) :
    Calls Tryd.prog 46 #[.agg #[.int .i64 h, .int .u64 l, .int .i64 s]] w
      fun e w' => e = .returned (.agg #[.int .i64 (dhi (-c)), .int .u64 (dlo (-c)), .int .i64 s]) ∧ Below w.heap.size w w' := by
  obtain ⟨rfl, rfl⟩ := hd
  have r1 : ∀ w, (callFunc 63 #[.int .u64 0, .int .u64 (dlo c), .int .u64 0]).run Tryd.prog w = .ok (.value (.tuple #[.int .u64 (dlo (-c)), .int .u64 (oborrow c)])) w := by
    intro w
    rw [run_Sub64 0 (dlo c) 0 ⟨by omega, by omega⟩ (dlo_isWord c) (by omega) (by omega), opp_lo]
    rfl
  have r2 : ∀ w, (callFunc 63 #[.int .u64 0, .int .u64 (IntKind.u64.wrap (dhi c)), .int .u64 (oborrow c)]).run Tryd.prog w = .ok (.value (.tuple #[.int .u64 (ohi c), .int .u64 (orest c)])) w := by
    intro w
    rw [run_Sub64 0 _ _ ⟨by omega, by omega⟩ (wrapu_isWord _) (oborrow_bd c).1 (oborrow_bd c).2]
    rfl
  have r3 := opp_hi hc
  go_enter Tryd.func46, Tryd.ntmps46
  go_wp2
  refine bodyPost_ret (v := .agg _) (by simp [results, Tryd.results46, go_sem]) rfl ⟨rfl, ?_⟩
  repeat (first | exact Below.refl _ _ | refine Below.drew ?_ | refine below_drewN ?_ _ | refine bel_alloc ?_ _ | refine bel_ext ?_ _ | (refine Below.setCell ?_ ?_ _; rotate_left; (simp <;> omega)))

/-! numberOf -/
theorem wd_small {n : Nat} (h : (n : Int) < 340282366920938463463374607431768211456) : wd n 0 = (n : Int) % 18446744073709551616 ∧ wd n 1 = (n : Int) / 18446744073709551616 ∧ wd n 2 = 0 ∧ wd n 3 = 0 ∧ wd n 4 = 0 := by
  have e2 : B ^ 2 = 340282366920938463463374607431768211456 := by rw [B_eq]
  have h3 : ∀ i, 2 ≤ i → n / B ^ i = 0 := fun i hi => Nat.div_eq_of_lt (Nat.lt_of_lt_of_le (by rw [e2]; omega : n < B ^ 2) (Nat.pow_le_pow_right B_pos hi))
  unfold wd
  refine ⟨?_, ?_, ?_, ?_, ?_⟩
  · simp [B_eq]
  · rw [Nat.pow_one, B_eq]; omega
  · rw [h3 2 (by omega)]; simp
  · rw [h3 3 (by omega)]; simp
  · rw [h3 4 (by omega)]; simp
theorem words_of {c : Int} (h0 : 0 ≤ c) (h : c < M127) : IntKind.u64.wrap (dhi c) = wd c.toNat 1 ∧ dlo c = wd c.toNat 0 ∧ wd c.toNat 2 = 0 ∧ wd c.toNat 3 = 0 ∧ wd c.toNat 4 = 0 := by
  rw [M127_eq] at h
  obtain ⟨n, rfl⟩ := Int.eq_ofNat_of_zero_le h0
  obtain ⟨e0, e1, e2, e3, e4⟩ := wd_small (n := n) (by omega)
  rw [Int.toNat_natCast, e0, e1]
  refine ⟨?_, rfl, e2, e3, e4⟩
  rw [IntKind.wrap_u64]; unfold dhi; omega
set_option maxHeartbeats 400000 in
set_option maxRecDepth 100000 in
theorem numberOf_any (c h l s : Int) (w : World) (hd : IsD c h l) (hc : InR c) :
    Calls Tryd.prog 72 #[.agg #[.int .i64 h, .int .u64 l, .int .i64 s]] w
      fun e w' => e = .returned (.agg #[.bool (decide (c < 0)), .int .u64 (wd (c.natAbs) 0), .int .u64 (wd (c.natAbs) 1), .int .u64 (wd (c.natAbs) 2), .int .u64 (wd (c.natAbs) 3), .int .u64 (wd (c.natAbs) 4)]) ∧ Below w.heap.size w w' := by
  obtain ⟨rfl, rfl⟩ := hd
  have h1 := hc.lo
  have h2 := hc.hi
  by_cases c0 : c < 0
  · have t : dhi c < 0 := (dhi_neg c).2 c0
    obtain ⟨e1, e0, e2, e3, e4⟩ := words_of (c := -c) (by omega) (by omega)
    have ht : (-c).toNat = c.natAbs := by omega
    rw [ht] at e1 e0 e2 e3 e4
    have HE : Hid (wd c.natAbs 2 = 0 ∧ wd c.natAbs 3 = 0 ∧ wd c.natAbs 4 = 0) := ⟨e2, e3, e4⟩
    have H0 := (show Hid _ from e0)
    clear e2 e3 e4 ht e0
    go_enter Tryd.func72, Tryd.ntmps72
    go_wp2_with (go_at_call 46; refine (opposite_any c _ _ _ _ (IsD.self _) hc).mono ?_; rintro e w1 ⟨rfl, hb1⟩; obtain ⟨x, rfl⟩ := ext_of_below hb1; clear hb1)
    refine bodyPost_ret (v := .agg #[.bool true, .int .u64 (dlo (-c)), .int .u64 (wd c.natAbs 1), .int .u64 0, .int .u64 0, .int .u64 0]) (by simp [results, Tryd.results72, go_sem]) rfl ⟨?_, ?_⟩
    · obtain ⟨e2, e3, e4⟩ := HE.out
      rw [H0.out, e2, e3, e4, show decide (c < 0) = true by simp [c0]]
    · repeat (first | exact Below.refl _ _ | refine Below.drew ?_ | refine below_drewN ?_ _ | refine bel_alloc ?_ _ | refine bel_ext ?_ _ | (refine Below.setCell ?_ ?_ _; rotate_left; (simp <;> omega)))
  · have t : ¬ dhi c < 0 := fun t => c0 ((dhi_neg c).1 t)
    obtain ⟨e1, e0, e2, e3, e4⟩ := words_of (c := c) (by omega) (by omega)
    have ht : c.toNat = c.natAbs := by omega
    rw [ht] at e1 e0 e2 e3 e4
    have HE : Hid (wd c.natAbs 2 = 0 ∧ wd c.natAbs 3 = 0 ∧ wd c.natAbs 4 = 0) := ⟨e2, e3, e4⟩
    have H0 := (show Hid _ from e0)
    clear e2 e3 e4 ht e0
    go_enter Tryd.func72, Tryd.ntmps72
    go_wp2
    refine bodyPost_ret (v := .agg #[.bool false, .int .u64 (dlo c), .int .u64 (wd c.natAbs 1), .int .u64 0, .int .u64 0, .int .u64 0]) (by simp [results, Tryd.results72, go_sem]) rfl ⟨?_, ?_⟩
    · obtain ⟨e2, e3, e4⟩ := HE.out
      rw [H0.out, e2, e3, e4, show decide (c < 0) = false by simp [c0]]
    · repeat (first | exact Below.refl _ _ | refine Below.drew ?_ | refine below_drewN ?_ _ | refine bel_alloc ?_ _ | refine bel_ext ?_ _ | (refine Below.setCell ?_ ?_ _; rotate_left; (simp <;> omega)))
end Go.Proofs.YtlgcbbnnldlooaaDoor
