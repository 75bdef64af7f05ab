/- The plain arithmetic under a division of two words by one (Knuth's step by halves). No program's run in this text. -/
import Derived.Test.YtlgcbbnnldlooaaDoorWc
namespace Go.Proofs.YtlgcbbnnldlooaaDoor
open Go.RowKit
set_option linter.unusedVariables false

def H : Nat := 4294967296
theorem H_eq : H = 4294967296 := rfl

/-- The guess is not below the true digit. -/
theorem guess_ge {N Y1 Y0 L1 : Nat} (h1 : 2147483648 ≤ Y1) (hl : L1 < 4294967296) :
    (N * 4294967296 + L1) / (Y1 * 4294967296 + Y0) ≤ N / Y1 := by
  rw [Nat.le_div_iff_mul_le (by omega)]
  have h := Nat.div_mul_le_self (N * 4294967296 + L1) (Y1 * 4294967296 + Y0)
  generalize (N * 4294967296 + L1) / (Y1 * 4294967296 + Y0) = Q at *
  rw [Nat.mul_add, ← Nat.mul_assoc] at h
  generalize Q * Y1 = z at *
  omega
/-- The test says no: it is the digit. -/
theorem guess_eq {N Y1 Y0 L1 q r : Nat} (h1 : 2147483648 ≤ Y1) (hq : q * Y1 + r = N) (hle : (N * 4294967296 + L1) / (Y1 * 4294967296 + Y0) ≤ q) (ht : q * Y0 ≤ 4294967296 * r + L1) :
    q = (N * 4294967296 + L1) / (Y1 * 4294967296 + Y0) := by
  apply Nat.le_antisymm _ hle
  rw [Nat.le_div_iff_mul_le (by omega), Nat.mul_add, ← Nat.mul_assoc, ← hq]
  generalize q * Y1 = z at *
  omega
/-- It says yes: the digit is less. -/
theorem guess_lt {N Y1 Y0 L1 q r : Nat} (h1 : 2147483648 ≤ Y1) (hq : q * Y1 + r = N) (hN : N < Y1 * 4294967296 + Y0) (hl : L1 < 4294967296) (ht : 4294967296 ≤ q ∨ 4294967296 * r + L1 < q * Y0) :
    (N * 4294967296 + L1) / (Y1 * 4294967296 + Y0) + 1 ≤ q := by
  apply Nat.succ_le_of_lt
  rw [Nat.div_lt_iff_lt_mul (by omega)]
  rcases ht with ht | ht
  · have : 4294967296 * (Y1 * 4294967296 + Y0) ≤ q * (Y1 * 4294967296 + Y0) := Nat.mul_le_mul_right _ ht
    omega
  · rw [Nat.mul_add, ← Nat.mul_assoc]
    generalize q * Y1 = z at *
    omega
/-- The rest has grown beyond a half: it is the digit. -/
theorem guess_big {N Y1 Y0 L1 q r : Nat} (h1 : 2147483648 ≤ Y1) (hq : q * Y1 + r = N) (hN : N < Y1 * 4294967296 + Y0) (h0 : Y0 < 4294967296) (hle : (N * 4294967296 + L1) / (Y1 * 4294967296 + Y0) ≤ q) (hr : 4294967296 ≤ r) :
    q = (N * 4294967296 + L1) / (Y1 * 4294967296 + Y0) := by
  apply guess_eq h1 hq hle
  have hq32 : q < 4294967296 := by
    rcases Nat.lt_or_ge q 4294967296 with c | c
    · exact c
    · have := Nat.mul_le_mul_right Y1 c
      omega
  have : q * Y0 ≤ 4294967296 * 4294967295 := Nat.mul_le_mul (by omega) (by omega)
  omega
theorem digit_lt {N Y L1 : Nat} (hN : N < Y) (hl : L1 < 4294967296) : (N * 4294967296 + L1) / Y < 4294967296 := by
  apply Nat.div_lt_of_lt_mul
  have : (N + 1) * 4294967296 ≤ Y * 4294967296 := Nat.mul_le_mul_right _ hN
  omega
/-- Two digits make the quotient. -/
theorem two_digits {N Y L1 L0 : Nat} (hY : 0 < Y) (hN : N < Y) (h1 : L1 < 4294967296) (h0 : L0 < 4294967296) :
    (N * 18446744073709551616 + (L1 * 4294967296 + L0)) / Y = (N * 4294967296 + L1) / Y * 4294967296 + ((N * 4294967296 + L1) % Y * 4294967296 + L0) / Y ∧
    (N * 18446744073709551616 + (L1 * 4294967296 + L0)) % Y = ((N * 4294967296 + L1) % Y * 4294967296 + L0) % Y := by
  have e : N * 18446744073709551616 + (L1 * 4294967296 + L0) = ((N * 4294967296 + L1) % Y * 4294967296 + L0) + Y * ((N * 4294967296 + L1) / Y * 4294967296) := by
    have h := Nat.div_add_mod (N * 4294967296 + L1) Y
    rw [← Nat.mul_assoc]
    generalize Y * ((N * 4294967296 + L1) / Y) = a at *
    omega
  rw [e, Nat.add_mul_div_left _ _ hY, Nat.add_mul_mod_self_left]
  exact ⟨Nat.add_comm _ _, rfl⟩
/-- What is left, in words that wrap. -/
theorem left_wrap {N Y L1 Q : Nat} (hY : Y < 18446744073709551616) (hQ : Q = (N * 4294967296 + L1) / Y) (h : 0 < Y) :
    IntKind.u64.wrap (IntKind.u64.wrap (IntKind.u64.wrap ((N : Int) * 4294967296) + (L1 : Int)) - IntKind.u64.wrap ((Q : Int) * (Y : Int))) = (((N * 4294967296 + L1) % Y : Nat) : Int) := by
  have hm := Nat.div_add_mod (N * 4294967296 + L1) Y
  have hl := Nat.mod_lt (N * 4294967296 + L1) h
  rw [← hQ] at hm
  rw [show (Q : Int) * (Y : Int) = ((Y * Q : Nat) : Int) by rw [Int.natCast_mul, Int.mul_comm]]
  generalize Y * Q = a at *
  generalize (N * 4294967296 + L1) % Y = b at *
  simp only [IntKind.wrap_u64]
  omega
theorem mul_le_word {a b : Nat} (ha : a < 4294967296) (hb : b < 4294967296) : a * b < 18446744073709551616 := by
  have : a * b ≤ 4294967295 * 4294967295 := Nat.mul_le_mul (by omega) (by omega)
  omega
theorem wrap_mul {a b : Nat} (ha : a < 4294967296) (hb : b < 4294967296) : IntKind.u64.wrap ((a : Int) * (b : Int)) = ((a * b : Nat) : Int) := by
  have := mul_le_word ha hb
  rw [← Int.natCast_mul, IntKind.wrap_u64]
  omega
theorem wrap_div {a b : Nat} (ha : a < 18446744073709551616) : IntKind.u64.wrap ((a : Int).tdiv (b : Int)) = ((a / b : Nat) : Int) := by
  have : a / b ≤ a := Nat.div_le_self _ _
  rw [← Int.ofNat_tdiv, IntKind.wrap_u64]
  generalize a / b = c at *
  omega
theorem wrap_ediv {a b : Nat} (ha : a < 18446744073709551616) : IntKind.u64.wrap ((a : Int) / (b : Int)) = ((a / b : Nat) : Int) := by
  have : a / b ≤ a := Nat.div_le_self _ _
  rw [← Int.natCast_ediv, IntKind.wrap_u64]
  generalize a / b = c at *
  omega
theorem wrap_rest {a b : Nat} (ha : a < 18446744073709551616) : IntKind.u64.wrap ((a : Int) - IntKind.u64.wrap (((a / b : Nat) : Int) * (b : Int))) = ((a % b : Nat) : Int) := by
  have h := Nat.div_add_mod a b
  rw [← Int.natCast_mul, Nat.mul_comm]
  generalize b * (a / b) = c at *
  generalize a % b = d at *
  simp only [IntKind.wrap_u64]
  omega
theorem maskN (a : Nat) (ha : a < 18446744073709551616) : bits .and .u64 (a : Int) 4294967295 = ((a % 4294967296 : Nat) : Int) := by
  have h := bits_and_u64_nat a 4294967295 ha (by omega)
  have e : a &&& 4294967295 = a % 4294967296 := Nat.and_two_pow_sub_one_eq_mod a 32
  rw [e] at h
  exact h
theorem halfN (a : Nat) : (a : Int) / 4294967296 = ((a / 4294967296 : Nat) : Int) := by omega

/-! how it begins: all is shifted up till the divisor fills its word -/
theorem pow_split {y : Nat} (h : 0 < y) (hy : y < 18446744073709551616) : 2 ^ bl y * 2 ^ (64 - bl y) = 18446744073709551616 ∧ y < 2 ^ bl y ∧ 2 ^ bl y ≤ 2 * y := by
  have hb := bl_le64 y hy
  refine ⟨?_, (bl_le y _).1 (Nat.le_refl _), ?_⟩
  · rw [← Nat.pow_add, show bl y + (64 - bl y) = 64 by omega]
  · have hpos : 0 < bl y := by
      rcases Nat.eq_zero_or_pos (bl y) with c | c
      · have := (bl_le y 0).1 (by omega); simp at this; omega
      · exact c
    rcases Nat.lt_or_ge y (2 ^ (bl y - 1)) with c | c
    · have := (bl_le y _).2 c; omega
    · have : 2 ^ bl y = 2 * 2 ^ (bl y - 1) := by rw [← Nat.pow_succ']; congr 1; omega
      omega
structure Begun (hi lo y Y N L : Nat) : Prop where
  eY : IntKind.u64.wrap ((y : Int) * 2 ^ (64 - bl y)) = (Y : Int)
  eN : bits .or .u64 (IntKind.u64.wrap ((hi : Int) * 2 ^ (64 - bl y))) ((lo : Int) / 2 ^ (64 - (64 - bl y))) = (N : Int)
  eL : IntKind.u64.wrap ((lo : Int) * 2 ^ (64 - bl y)) = (L : Int)
  Ylo : 9223372036854775808 ≤ Y
  Yhi : Y < 18446744073709551616
  hL : L < 18446744073709551616
  hN : N < Y
  quo : (N * 18446744073709551616 + L) / Y = (hi * 18446744073709551616 + lo) / y
  rem : (N * 18446744073709551616 + L) % Y / 2 ^ (64 - bl y) = (hi * 18446744073709551616 + lo) % y
theorem castpow (k : Nat) : ((2 : Int) ^ k) = ((2 ^ k : Nat) : Int) := by simp
theorem begin_div {hi lo y : Nat} (h1 : hi < y) (h2 : y < 18446744073709551616) (h3 : lo < 18446744073709551616) : ∃ Y N L, Begun hi lo y Y N L := by
  obtain ⟨e, l, g⟩ := pow_split (y := y) (by omega) h2
  have hb := bl_le64 y h2
  have ex : 64 - (64 - bl y) = bl y := by omega
  have hP : 0 < 2 ^ (64 - bl y) := Nat.pow_pos (by decide)
  have hQ : 0 < 2 ^ bl y := Nat.pow_pos (by decide)
  have hYlt : y * 2 ^ (64 - bl y) < 18446744073709551616 := by rw [← e]; exact Nat.mul_lt_mul_of_pos_right l hP
  have hYge : 18446744073709551616 ≤ 2 * (y * 2 ^ (64 - bl y)) := by rw [← e, ← Nat.mul_assoc]; exact Nat.mul_le_mul_right _ g
  have hHlt : hi * 2 ^ (64 - bl y) < y * 2 ^ (64 - bl y) := Nat.mul_lt_mul_of_pos_right h1 hP
  have hlo : lo / 2 ^ bl y < 2 ^ (64 - bl y) := Nat.div_lt_of_lt_mul (by rw [e]; exact h3)
  have elo : lo * 2 ^ (64 - bl y) = lo / 2 ^ bl y * 18446744073709551616 + lo * 2 ^ (64 - bl y) % 18446744073709551616 := by
    have : lo * 2 ^ (64 - bl y) / 18446744073709551616 = lo / 2 ^ bl y := by rw [← e, Nat.mul_div_mul_right _ _ hP]
    have hd := Nat.div_add_mod (lo * 2 ^ (64 - bl y)) 18446744073709551616
    rw [this] at hd
    omega
  have eU : (hi * 2 ^ (64 - bl y) + lo / 2 ^ bl y) * 18446744073709551616 + lo * 2 ^ (64 - bl y) % 18446744073709551616 = (hi * 18446744073709551616 + lo) * 2 ^ (64 - bl y) := by
    rw [Nat.add_mul, Nat.add_mul, Nat.mul_right_comm hi 18446744073709551616]
    omega
  refine ⟨y * 2 ^ (64 - bl y), hi * 2 ^ (64 - bl y) + lo / 2 ^ bl y, lo * 2 ^ (64 - bl y) % 18446744073709551616, ?_, ?_, ?_, by omega, hYlt, Nat.mod_lt _ (by decide), ?_, ?_, ?_⟩
  · rw [castpow, ← Int.natCast_mul, IntKind.wrap_u64]; omega
  · rw [ex, castpow, castpow, ← Int.natCast_mul, ← Int.natCast_ediv]
    rw [show IntKind.u64.wrap ((hi * 2 ^ (64 - bl y) : Nat) : Int) = ((hi * 2 ^ (64 - bl y) : Nat) : Int) by rw [IntKind.wrap_u64]; omega]
    rw [bits_or_u64_nat _ _ (by omega) (Nat.lt_of_le_of_lt (Nat.div_le_self _ _) h3)]
    have := Nat.two_pow_add_eq_or_of_lt hlo hi
    rw [Nat.mul_comm hi, ← this]
  · rw [castpow, ← Int.natCast_mul, IntKind.wrap_u64]; omega
  · have : (hi + 1) * 2 ^ (64 - bl y) ≤ y * 2 ^ (64 - bl y) := Nat.mul_le_mul_right _ h1
    rw [Nat.add_mul, Nat.one_mul] at this
    omega
  · rw [eU, Nat.mul_div_mul_right _ _ hP]
  · rw [eU, Nat.mul_mod_mul_right, Nat.mul_div_cancel _ hP]
end Go.Proofs.YtlgcbbnnldlooaaDoor
