/- Rounded quotients under a common factor; the contracts of way, and of Rounded by whole numbers. -/
import Derived.Test.YteohncnjjgoemaaGreatDoorUt
import Derived.Test.YteohncnjjgoemaaGreatDoorVa
namespace Go.Proofs.YteohncnjjgoemaaGreatDoor
open Go.RowKit
set_option linter.unusedVariables false
attribute [local go_sem ↓] Go.wp_at_zero Go.wp_at_succ

theorem away_scale (neg : Bool) (q r d k mode : Nat) (hk : 0 < k) : away neg q (r * k) (d * k) mode = away neg q r d mode := by
  have e0 : r * k = 0 ↔ r = 0 := by
    constructor
    · intro h; rcases Nat.mul_eq_zero.1 h with h | h <;> omega
    · intro h; rw [h, Nat.zero_mul]
  have es : r * k + r * k = (r + r) * k := by rw [Nat.add_mul]
  have e1 : (r + r) * k < d * k ↔ r + r < d := Nat.mul_lt_mul_right hk
  have e2 : d * k < (r + r) * k ↔ d < r + r := Nat.mul_lt_mul_right hk
  have e3 : (r + r) * k = d * k ↔ r + r = d := Nat.mul_right_cancel_iff hk
  unfold away
  rw [es]
  simp only [e0, e1, e2, e3]
theorem rnd_scale (neg : Bool) (n d k mode : Nat) (hk : 0 < k) : rnd neg (n * k) (d * k) mode = rnd neg n d mode := by
  unfold rnd
  rw [Nat.mul_div_mul_right _ _ hk, Nat.mul_mod_mul_right, away_scale _ _ _ _ _ _ hk]
theorem rquo_rnd (neg : Bool) (n d : Nat) (shift : Int) (mode : Nat) : rquo neg n d shift mode = rnd neg (rnum n shift) (rden d shift) mode := rfl
/-- n 10^u over d 10^v, as the program has it -/
theorem rnd_shift (neg : Bool) (n d u v mode : Nat) : rnd neg (n * 10 ^ u) (d * 10 ^ v) mode = rquo neg n d ((u : Int) - v) mode := by
  rw [rquo_rnd]
  unfold rnum rden
  rcases Nat.le_total v u with h | h
  · rw [show ((u : Int) - v).toNat = u - v by omega, show (-((u : Int) - v)).toNat = 0 by omega, Nat.pow_zero, Nat.mul_one]
    have e : n * 10 ^ u = n * 10 ^ (u - v) * 10 ^ v := by rw [Nat.mul_assoc, ← Nat.pow_add, show u - v + v = u by omega]
    rw [e, rnd_scale _ _ _ _ _ (Nat.pow_pos (by decide))]
  · rw [show ((u : Int) - v).toNat = 0 by omega, show (-((u : Int) - v)).toNat = v - u by omega, Nat.pow_zero, Nat.mul_one]
    have e : d * 10 ^ v = d * 10 ^ (v - u) * 10 ^ u := by rw [Nat.mul_assoc, ← Nat.pow_add, show v - u + u = v by omega]
    rw [e, rnd_scale _ _ _ _ _ (Nat.pow_pos (by decide))]
theorem rnd_zero (neg : Bool) (d mode : Nat) : rnd neg 0 d mode = 0 := by rw [rnd_exact _ _ _ _ (Nat.zero_mod d), Nat.zero_div]
theorem rounded_in (v u : Value) (z : Int) (y mode : Nat) (w : World) (h : In w v z) (h2 : Nm w u y) (hz : Mi z) (hy : Md y) (hy0 : 0 < y) (hm : mode ≤ 6) :
    Calls Tryz.prog 51 #[v, u, .int .i64 mode] w fun e w' => (∃ r, e = .returned r ∧ In w' r (sv (decide (z < 0)) (rnd (decide (z < 0)) z.natAbs y mode))) ∧ Below w.heap.size w w' := by
  obtain ⟨m, hw, a, b⟩ := h
  have key : Calls Tryz.prog 51 #[v, u, .int .i64 mode] w fun e w' => (∃ r, e = .returned r ∧ Wn w' r m (rnd m z.natAbs y mode)) ∧ Below w.heap.size w w' := by
    by_cases h0 : z.natAbs % y = 0
    · rw [rnd_exact _ _ _ _ h0]
      exact rounded_none v u m _ y mode w hw h2 hz hy hy0 h0
    · exact rounded_some v u m _ y mode w hw h2 hz hy hy0 (by omega) hm
  refine key.mono ?_
  rintro e w1 ⟨⟨r, rfl, hr⟩, hb⟩
  refine ⟨⟨r, rfl, m, ?_, ?_, ?_⟩, hb⟩
  · rcases (show z = 0 ∨ 0 < z ∨ z < 0 by omega) with rfl | h | h
    · rw [show (0 : Int).natAbs = 0 from rfl, rnd_zero] at hr
      rw [show (0 : Int).natAbs = 0 from rfl, rnd_zero]
      simpa [sv] using hr
    · have e := a h
      subst e
      rw [decide_eq_false (by omega)]
      simpa [sv] using hr
    · have e := b h
      subst e
      rw [decide_eq_true h]
      simpa [sv] using hr
  · intro h
    rcases (show z = 0 ∨ 0 < z ∨ z < 0 by omega) with rfl | h1 | h1
    · rw [show (0 : Int).natAbs = 0 from rfl, rnd_zero] at h; simp [sv] at h
    · exact a h1
    · rw [decide_eq_true h1] at h; simp [sv] at h; omega
  · intro h
    rcases (show z = 0 ∨ 0 < z ∨ z < 0 by omega) with rfl | h1 | h1
    · rw [show (0 : Int).natAbs = 0 from rfl, rnd_zero] at h; simp [sv] at h
    · rw [decide_eq_false (by omega)] at h; simp [sv] at h; omega
    · exact b h1
theorem neg_scale (c : Int) (k : Nat) : decide (c * 10 ^ k < 0) = decide (c < 0) := by
  have hk := ten_pos k
  rw [Bool.eq_iff_iff]
  simp only [decide_eq_true_eq]
  constructor
  · intro h
    rcases Int.lt_or_le c 0 with h1 | h1
    · exact h1
    · have := Int.mul_nonneg h1 (Int.le_of_lt hk); omega
  · intro h
    exact Int.mul_neg_of_neg_of_pos h hk
theorem rv_eq (c : Int) (s t mode : Nat) : sv (decide (c * 10 ^ t < 0)) (rnd (decide (c * 10 ^ t < 0)) (c * 10 ^ t).natAbs (10 ^ s) mode) = rv c s t mode := by
  rw [neg_scale, Int.natAbs_mul, ten_abs]
  have := rnd_shift (decide (c < 0)) c.natAbs 1 t s mode
  rw [Nat.one_mul] at this
  rw [this]
  rfl
end Go.Proofs.YteohncnjjgoemaaGreatDoor
