/- The plain arithmetic under the long division, bit by bit. No program's run in this text. -/
import Derived.Test.YtlgcbbnnldlooaaDoorMd
namespace Go.Proofs.YtlgcbbnnldlooaaDoor
open Go.RowKit
set_option linter.unusedVariables false

theorem B_two (i : Nat) : B ^ i = 2 ^ (64 * i) := by rw [show B = 2 ^ 64 from rfl, ← Nat.pow_mul]
theorem bl_wide {m : Nat} (h : m < B ^ 5) : bl m ≤ 64 * 5 := (bl_le m _).2 (B_two 5 ▸ h)
theorem two_pow_up (x k : Nat) : x * 2 ^ (k + 1) = 2 * x * 2 ^ k := by rw [Nat.pow_succ, Nat.mul_comm (2 ^ k) 2, ← Nat.mul_assoc, Nat.mul_comm x 2]
theorem mod_bit (x t : Nat) (ht : t < 64) : x % B / 2 ^ t % 2 = x / 2 ^ t % 2 := by
  have e : B = 2 ^ t * (2 * 2 ^ (63 - t)) := by rw [show B = 2 ^ 64 from rfl, ← Nat.pow_succ', ← Nat.pow_add]; congr 1; omega
  have h := Nat.div_add_mod x B
  have : x / 2 ^ t = x % B / 2 ^ t + 2 * (2 ^ (63 - t) * (x / B)) := by
    have h2 : x = x % B + 2 ^ t * (2 * (2 ^ (63 - t) * (x / B))) := by
      rw [← Nat.mul_assoc 2, ← Nat.mul_assoc (2 ^ t), ← e]; omega
    conv => lhs; rw [h2]
    rw [Nat.add_mul_div_left _ _ (Nat.pow_pos (by decide))]
  rw [this]; omega
/-- The bit number k of a number, out of its word. -/
theorem bit_word (a j t : Nat) (ht : t < 64) : bits .and .u64 (wd a j / 2 ^ t) 1 = ((a / 2 ^ (64 * j + t) % 2 : Nat) : Int) := by
  have hw := wn_lt a j
  rw [B_eq] at hw
  have hle : wn a j / 2 ^ t ≤ wn a j := Nat.div_le_self _ _
  have e : wd a j / 2 ^ t = ((wn a j / 2 ^ t : Nat) : Int) := by rw [wd_wn, castpow, ← Int.natCast_ediv]
  rw [e]
  have h := bits_and_u64_nat (wn a j / 2 ^ t) 1 (by omega) (by omega)
  rw [Nat.and_one_is_mod] at h
  rw [show (1 : Int) = ((1 : Nat) : Int) from rfl, h]
  congr 1
  unfold wn
  rw [Nat.pow_add, ← Nat.div_div_eq_div_mul, ← B_two]
  exact mod_bit _ _ ht

/-- One bit more of the quotient. -/
theorem quo_step {a d k : Nat} (hd : 0 < d) :
    let r := 2 * (a / 2 ^ (k + 1) % d) + a / 2 ^ k % 2
    (r < d → a / 2 ^ k / d = 2 * (a / 2 ^ (k + 1) / d) ∧ a / 2 ^ k % d = r) ∧ (d ≤ r → a / 2 ^ k / d = 2 * (a / 2 ^ (k + 1) / d) + 1 ∧ a / 2 ^ k % d = r - d) := by
  intro r
  have hX := Nat.div_add_mod (a / 2 ^ (k + 1)) d
  have hR := Nat.mod_lt (a / 2 ^ (k + 1)) hd
  have e : a / 2 ^ k = 2 * (a / 2 ^ (k + 1)) + a / 2 ^ k % 2 := by
    rw [Nat.pow_succ, ← Nat.div_div_eq_div_mul]; omega
  have e2 : a / 2 ^ k = r + d * (2 * (a / 2 ^ (k + 1) / d)) := by
    have : d * (2 * (a / 2 ^ (k + 1) / d)) = 2 * (d * (a / 2 ^ (k + 1) / d)) := Nat.mul_left_comm _ _ _
    omega
  constructor
  · intro h
    rw [e2, Nat.add_mul_div_left _ _ hd, Nat.add_mul_mod_self_left, Nat.div_eq_of_lt h, Nat.mod_eq_of_lt h]
    omega
  · intro h
    have h2 : r - d < d := by omega
    have e3 : a / 2 ^ k = (r - d) + d * (2 * (a / 2 ^ (k + 1) / d) + 1) := by rw [Nat.mul_add, Nat.mul_one]; omega
    rw [e3, Nat.add_mul_div_left _ _ hd, Nat.add_mul_mod_self_left, Nat.div_eq_of_lt h2, Nat.mod_eq_of_lt h2]
    omega

/-- One bit laid into a number that ends in noughts: the word that turns. -/
theorem bit_in (Q j t : Nat) (ht : t < 64) : wn (Q * 2 ^ (64 * j + t + 1) + 2 ^ (64 * j + t)) j = wn (Q * 2 ^ (64 * j + t + 1)) j ||| 2 ^ t ∧
    ∀ i, i ≠ j → wn (Q * 2 ^ (64 * j + t + 1) + 2 ^ (64 * j + t)) i = wn (Q * 2 ^ (64 * j + t + 1)) i := by
  constructor
  · unfold wn
    have eM : Q * 2 ^ (64 * j + t + 1) = B ^ j * (Q * 2 ^ (t + 1)) := by rw [B_two, Nat.mul_left_comm, ← Nat.pow_add, Nat.add_assoc]
    have eP : 2 ^ (64 * j + t) = B ^ j * 2 ^ t := by rw [B_two, ← Nat.pow_add]
    have hB : 0 < B ^ j := Nat.pow_pos B_pos
    rw [eM, eP, ← Nat.mul_add, Nat.mul_div_cancel_left _ hB, Nat.mul_div_cancel_left _ hB]
    have e64 : B = 2 ^ (t + 1) * 2 ^ (63 - t) := by rw [show B = 2 ^ 64 from rfl, ← Nat.pow_add]; congr 1; omega
    have hx : Q * 2 ^ (t + 1) % B = 2 ^ (t + 1) * (Q % 2 ^ (63 - t)) := by rw [e64, Nat.mul_comm Q, Nat.mul_mod_mul_left]
    have hlt : Q % 2 ^ (63 - t) + 1 ≤ 2 ^ (63 - t) := Nat.mod_lt _ (Nat.pow_pos (by decide))
    have hp : 2 ^ t < 2 ^ (t + 1) := Nat.pow_lt_pow_right (by decide) (by omega)
    have hsum : Q * 2 ^ (t + 1) % B + 2 ^ t < B := by
      have : 2 ^ (t + 1) * (Q % 2 ^ (63 - t) + 1) ≤ 2 ^ (t + 1) * 2 ^ (63 - t) := Nat.mul_le_mul_left _ hlt
      rw [hx]
      rw [← e64, Nat.mul_add, Nat.mul_one] at this
      omega
    have hpB : 2 ^ t < B := by omega
    rw [Nat.add_mod, Nat.mod_eq_of_lt hpB, Nat.mod_eq_of_lt hsum, hx]
    exact Nat.two_pow_add_eq_or_of_lt hp _
  · intro i hi
    unfold wn
    have hB : 0 < B ^ i := Nat.pow_pos B_pos
    rcases Nat.lt_or_ge i j with c | c
    · have eP : 2 ^ (64 * j + t) = B ^ i * (B * 2 ^ (64 * j + t - 64 * i - 64)) := by
        rw [B_two, show B = 2 ^ 64 from rfl, ← Nat.pow_add, ← Nat.pow_add]; congr 1; omega
      rw [eP, Nat.add_mul_div_left _ _ hB, Nat.add_mul_mod_self_left]
    · have hik : 64 * j + t + 1 ≤ 64 * i := by omega
      have eB : B ^ i = 2 ^ (64 * j + t + 1) * 2 ^ (64 * i - (64 * j + t + 1)) := by rw [B_two, ← Nat.pow_add]; congr 1; omega
      have h2 : 2 ^ (64 * j + t) < 2 ^ (64 * j + t + 1) := Nat.pow_lt_pow_right (by decide) (by omega)
      congr 1
      rw [eB, ← Nat.div_div_eq_div_mul, ← Nat.div_div_eq_div_mul, Nat.mul_comm Q]
      rw [Nat.add_comm, Nat.add_mul_div_left _ _ (Nat.pow_pos (by decide)), Nat.div_eq_of_lt h2, Nat.zero_add, Nat.mul_div_cancel_left _ (Nat.pow_pos (by decide))]
theorem bit_or (Q j t : Nat) (ht : t < 64) : bits .or .u64 (wd (Q * 2 ^ (64 * j + t + 1)) j) ((2 ^ t : Nat) : Int) = wd (Q * 2 ^ (64 * j + t + 1) + 2 ^ (64 * j + t)) j := by
  have h1 := wn_lt (Q * 2 ^ (64 * j + t + 1)) j
  have h2 : 2 ^ t < 2 ^ 64 := Nat.pow_lt_pow_right (by decide) ht
  rw [wd_wn, wd_wn, (bit_in Q j t ht).1, bits_or_u64_nat _ _ h1 (by omega)]
theorem wrap_pow (t : Nat) (ht : t < 64) : IntKind.u64.wrap ((2 : Int) ^ t) = ((2 ^ t : Nat) : Int) := by
  have h2 : 2 ^ t < 2 ^ 64 := Nat.pow_lt_pow_right (by decide) ht
  rw [castpow, IntKind.wrap_u64]
  generalize 2 ^ t = x at *
  omega
/-- The word with its bit, and the other words. -/
theorem bit_laid (Q k j t : Nat) (hk : k = 64 * j + t) (ht : t < 64) : bits .or .u64 (wd (Q * 2 ^ (k + 1)) j) (IntKind.u64.wrap ((2 : Int) ^ t)) = wd (Q * 2 ^ (k + 1) + 2 ^ k) j ∧
    ∀ i, i ≠ j → wd (Q * 2 ^ (k + 1) + 2 ^ k) i = wd (Q * 2 ^ (k + 1)) i := by
  subst hk
  rw [wrap_pow t ht]
  exact ⟨bit_or Q j t ht, fun i hi => by rw [wd_wn, wd_wn, (bit_in Q j t ht).2 i hi]⟩
end Go.Proofs.YtlgcbbnnldlooaaDoor
