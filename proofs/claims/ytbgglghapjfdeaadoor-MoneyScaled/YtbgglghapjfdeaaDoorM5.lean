/- The plain arithmetic under the wide numbers of package dec: words of 64 bits, their sums, differences, products, quotients. No program's run in this text. -/
import Derived.Lib.BitFns
import Derived.Test.YtbgglghapjfdeaaDoorProg
import Derived.WalkKit
import Derived.WalkSpells
import Derived.WalkLawsBesides
import Derived.BigRegion
import Derived.BigQuiet
import Derived.Deep.QuietTactic
import Derived.Laws.Externs
import Derived.Shelf.Spec.BitsCarry
import Derived.Laws.Bits64b
import Derived.Shelf.Bits.Mul64
namespace Go.Proofs.YtbgglghapjfdeaaDoor

/-- Two to the 64th, behind a name. -/
def B : Nat := 18446744073709551616
theorem B_eq : B = 18446744073709551616 := rfl
theorem B_pos : 0 < B := by decide

/-- The word number i of a natural number. -/
def wd (n i : Nat) : Int := ((n / B ^ i % B : Nat) : Int)

structure IsWord (x : Int) : Prop where
  lo : 0 ≤ x
  hi : x ≤ 18446744073709551615

theorem wd_isWord (n i : Nat) : IsWord (wd n i) := by
  have h : n / B ^ i % B < B := Nat.mod_lt _ B_pos
  rw [B_eq] at h
  constructor
  · exact Int.natCast_nonneg _
  · unfold wd; rw [B_eq] at *; omega

theorem split_mod (p m : Nat) : m % (p * B) = m % p + p * (m / p % B) := Nat.mod_mul

/-! sums -/
theorem plus_step (p m n : Nat) (hp : 0 < p) :
    (m / p % B + n / p % B + (m % p + n % p) / p) % B = (m + n) / p % B ∧
    (m / p % B + n / p % B + (m % p + n % p) / p) / B = (m % (p * B) + n % (p * B)) / (p * B) := by
  have e : (m + n) / p = m / p + n / p + (m % p + n % p) / p := by
    have h1 := Nat.div_add_mod m p
    have h2 := Nat.div_add_mod n p
    have : m + n = (m % p + n % p) + p * (m / p + n / p) := by rw [Nat.mul_add]; omega
    rw [this, Nat.add_mul_div_left _ _ hp]; omega
  constructor
  · rw [e]; simp [Nat.add_mod]
  · rw [split_mod, split_mod, ← Nat.div_div_eq_div_mul]
    have : m % p + p * (m / p % B) + (n % p + p * (n / p % B)) = (m % p + n % p) + p * (m / p % B + n / p % B) := by rw [Nat.mul_add]; omega
    rw [this, Nat.add_mul_div_left _ _ hp, Nat.add_comm ((m % p + n % p) / p)]

/-- The carry into word i of a sum. -/
def car (m n i : Nat) : Int := (((m % B ^ i + n % B ^ i) / B ^ i : Nat) : Int)
theorem car_zero (m n : Nat) : car m n 0 = 0 := by simp [car, Nat.mod_one]
theorem car_bd (m n i : Nat) : 0 ≤ car m n i ∧ car m n i ≤ 1 := by
  have hp : 0 < B ^ i := Nat.pow_pos B_pos
  have h1 := Nat.mod_lt m hp
  have h2 := Nat.mod_lt n hp
  have h : (m % B ^ i + n % B ^ i) / B ^ i < 2 := Nat.div_lt_of_lt_mul (by omega)
  unfold car
  generalize (m % B ^ i + n % B ^ i) / B ^ i = z at h
  omega
theorem plus_lo (m n i : Nat) : (wd m i + wd n i + car m n i) % 18446744073709551616 = wd (m + n) i := by
  have h := (plus_step (B ^ i) m n (Nat.pow_pos B_pos)).1
  unfold wd car
  rw [← h, B_eq]; omega
theorem plus_hi (m n i : Nat) : (wd m i + wd n i + car m n i) / 18446744073709551616 = car m n (i + 1) := by
  have h := (plus_step (B ^ i) m n (Nat.pow_pos B_pos)).2
  unfold wd car
  rw [Nat.pow_succ, ← h, B_eq]; omega

/-! differences -/
theorem minus_step (p m n : Nat) (hp : 0 < p) (h : n ≤ m) :
    (m / p % B + B - n / p % B - (if m % p < n % p then 1 else 0)) % B = (m - n) / p % B ∧
    (m / p % B < n / p % B + (if m % p < n % p then 1 else 0) ↔ m % (p * B) < n % (p * B)) := by
  have h1 := Nat.div_add_mod m p
  have h2 := Nat.div_add_mod n p
  have l1 := Nat.mod_lt m hp
  have l2 := Nat.mod_lt n hp
  have hB : 0 < B := B_pos
  generalize hM : m / p = M at *
  generalize hN : n / p = N at *
  generalize m % p = r at *
  generalize n % p = s at *
  have x1 := Nat.mod_lt M hB
  have y1 := Nat.mod_lt N hB
  have hle : N ≤ M := by rw [← hM, ← hN]; exact Nat.div_le_div_right h
  constructor
  · by_cases c : r < s
    · rw [if_pos c]
      have hlt : N + 1 ≤ M := by
        apply Nat.lt_of_le_of_ne hle
        intro e; subst e; omega
      have e : (m - n) / p = M - N - 1 := by
        have : m - n = (p + r - s) + p * (M - N - 1) := by
          have : p * M = p * N + p * (M - N - 1) + p := by
            rw [← Nat.mul_add, ← Nat.mul_succ]; congr 1; omega
          omega
        rw [this, Nat.add_mul_div_left _ _ hp, Nat.div_eq_of_lt (by omega)]; omega
      rw [e]
      have em := Nat.div_add_mod M B
      have en := Nat.div_add_mod N B
      generalize M % B = x at *
      generalize N % B = y at *
      have : M - N - 1 = B * (M / B) - B * (N / B) + x - y - 1 ∨ True := Or.inr trivial
      have key : (x + B - y - 1) + B * (M / B) = (M - N - 1) + B * (N / B + 1) := by rw [Nat.mul_add]; omega
      have := congrArg (· % B) key
      simpa [Nat.add_mul_mod_self_left] using this
    · rw [if_neg c]
      have e : (m - n) / p = M - N := by
        have : m - n = (r - s) + p * (M - N) := by
          have : p * M = p * N + p * (M - N) := by rw [← Nat.mul_add]; congr 1; omega
          omega
        rw [this, Nat.add_mul_div_left _ _ hp, Nat.div_eq_of_lt (by omega)]; omega
      rw [e]
      have em := Nat.div_add_mod M B
      have en := Nat.div_add_mod N B
      generalize M % B = x at *
      generalize N % B = y at *
      have key : (x + B - y - 0) + B * (M / B) = (M - N) + B * (N / B + 1) := by rw [Nat.mul_add]; omega
      have := congrArg (· % B) key
      simpa [Nat.add_mul_mod_self_left] using this
  · rw [split_mod, split_mod, hM, hN]
    have l1' : m % p < p := Nat.mod_lt m hp
    have l2' : n % p < p := Nat.mod_lt n hp
    have er : m % p = r := by
      have := Nat.div_add_mod m p; rw [hM] at this; omega
    have es : n % p = s := by
      have := Nat.div_add_mod n p; rw [hN] at this; omega
    rw [er, es]
    generalize M % B = x at *
    generalize N % B = y at *
    rcases Nat.lt_trichotomy x y with c | c | c
    · have : p * x + p ≤ p * y := by rw [← Nat.mul_succ]; exact Nat.mul_le_mul_left p c
      split <;> omega
    · subst c; split <;> omega
    · have : p * y + p ≤ p * x := by rw [← Nat.mul_succ]; exact Nat.mul_le_mul_left p c
      split <;> omega

/-- The borrow into word i of a difference. -/
def bor (m n i : Nat) : Int := if m % B ^ i < n % B ^ i then 1 else 0
theorem bor_zero (m n : Nat) : bor m n 0 = 0 := by simp [bor, Nat.mod_one]
theorem bor_bd (m n i : Nat) : 0 ≤ bor m n i ∧ bor m n i ≤ 1 := by unfold bor; split <;> omega
theorem minus_lo (m n i : Nat) (h : n ≤ m) : (wd m i + 18446744073709551616 - wd n i - bor m n i) % 18446744073709551616 = wd (m - n) i := by
  have e := (minus_step (B ^ i) m n (Nat.pow_pos B_pos) h).1
  have x1 := Nat.mod_lt (m / B ^ i) B_pos
  have y1 := Nat.mod_lt (n / B ^ i) B_pos
  unfold wd bor
  rw [← e, B_eq] at *
  split <;> omega
theorem minus_hi (m n i : Nat) (h : n ≤ m) : (if wd m i < wd n i + bor m n i then (1 : Int) else 0) = bor m n (i + 1) := by
  have e := (minus_step (B ^ i) m n (Nat.pow_pos B_pos) h).2
  unfold wd bor
  rw [Nat.pow_succ]
  have : (((m / B ^ i % B : Nat) : Int) < ((n / B ^ i % B : Nat) : Int) + (if m % B ^ i < n % B ^ i then 1 else 0)) ↔ m / B ^ i % B < n / B ^ i % B + (if m % B ^ i < n % B ^ i then 1 else 0) := by
    split <;> omega
  simp only [this, e]

/-! a word times a number -/
theorem times_step (p m x : Nat) (hp : 0 < p) :
    (m / p % B * x + m % p * x / p) % B = m * x / p % B ∧
    (m / p % B * x + m % p * x / p) / B = m % (p * B) * x / (p * B) := by
  constructor
  · have e : m * x / p = m / p * x + m % p * x / p := by
      have h1 := Nat.div_add_mod m p
      have : m * x = m % p * x + p * (m / p * x) := by
        rw [← Nat.mul_assoc, ← Nat.add_mul, Nat.add_comm (m % p), h1]
      rw [this, Nat.add_mul_div_left _ _ hp]; omega
    rw [e]; simp [Nat.add_mod, Nat.mul_mod]
  · rw [split_mod, ← Nat.div_div_eq_div_mul]
    have : (m % p + p * (m / p % B)) * x = m % p * x + p * (m / p % B * x) := by rw [Nat.add_mul, Nat.mul_assoc]
    rw [this, Nat.add_mul_div_left _ _ hp, Nat.add_comm (m % p * x / p)]

/-- The carry into word i of a product by a word. -/
def tcar (m x i : Nat) : Nat := m % B ^ i * x / B ^ i
theorem tcar_zero (m x : Nat) : tcar m x 0 = 0 := by simp [tcar, Nat.mod_one]
theorem tcar_lt (m x i : Nat) (hx : x < B) : tcar m x i < B := by
  have hp : 0 < B ^ i := Nat.pow_pos B_pos
  have h1 := Nat.mod_lt m hp
  unfold tcar
  apply Nat.div_lt_of_lt_mul
  by_cases x0 : x = 0
  · subst x0; rw [Nat.mul_zero]; exact Nat.mul_pos hp B_pos
  · exact Nat.lt_of_lt_of_le (Nat.mul_lt_mul_of_pos_right h1 (by omega)) (Nat.mul_le_mul_left _ (by omega))
def wn (n i : Nat) : Nat := n / B ^ i % B
theorem wn_lt (n i : Nat) : wn n i < B := Nat.mod_lt _ B_pos
theorem wd_wn (n i : Nat) : wd n i = (wn n i : Int) := rfl
theorem tword_lo (m x i : Nat) : (wn m i * x + tcar m x i) % B = wn (m * x) i := (times_step (B ^ i) m x (Nat.pow_pos B_pos)).1
theorem tword_hi (m x i : Nat) : (wn m i * x + tcar m x i) / B = tcar m x (i + 1) := by
  have := (times_step (B ^ i) m x (Nat.pow_pos B_pos)).2
  unfold tcar; rw [Nat.pow_succ]; exact this
/-- Mul64's two words and a carry, put together. -/
theorem mulAdd (a x c : Nat) : (a * x % B + c) % B = (a * x + c) % B ∧ a * x / B + (a * x % B + c) / B = (a * x + c) / B := by
  constructor
  · simp [Nat.add_mod]
  · have h := Nat.div_add_mod (a * x) B
    have : a * x + c = (a * x % B + c) + B * (a * x / B) := by omega
    rw [this, Nat.add_mul_div_left _ _ B_pos]; omega

/-! one bit shifted in -/
theorem shift_step (p m b : Nat) (hp : 0 < p) (hb : (2 * (m % p) + b) / p ≤ 1) :
    (2 * (m / p % B) + (2 * (m % p) + b) / p) % B = (2 * m + b) / p % B ∧
    m / p % B / 9223372036854775808 = (2 * (m % (p * B)) + b) / (p * B) := by
  have e : (2 * m + b) / p = 2 * (m / p) + (2 * (m % p) + b) / p := by
    have h1 := Nat.div_add_mod m p
    have : 2 * m + b = (2 * (m % p) + b) + p * (2 * (m / p)) := by
      have : p * (2 * (m / p)) = 2 * (p * (m / p)) := by rw [Nat.mul_left_comm]
      omega
    rw [this, Nat.add_mul_div_left _ _ hp]; omega
  constructor
  · rw [e]
    generalize (2 * (m % p) + b) / p = z at *
    rw [B_eq]; omega
  · rw [split_mod, ← Nat.div_div_eq_div_mul]
    have : 2 * (m % p + p * (m / p % B)) + b = (2 * (m % p) + b) + p * (2 * (m / p % B)) := by
      have : p * (2 * (m / p % B)) = 2 * (p * (m / p % B)) := by rw [Nat.mul_left_comm]
      omega
    rw [this, Nat.add_mul_div_left _ _ hp]
    generalize (2 * (m % p) + b) / p = z at *
    rw [B_eq]; omega
/-- The bit that goes into word i. -/
def sbit (m b i : Nat) : Nat := (2 * (m % B ^ i) + b) / B ^ i
theorem sbit_zero (m b : Nat) : sbit m b 0 = b := by simp [sbit, Nat.mod_one]
theorem sbit_le (m b i : Nat) (hb : b ≤ 1) : sbit m b i ≤ 1 := by
  have hp : 0 < B ^ i := Nat.pow_pos B_pos
  have h1 := Nat.mod_lt m hp
  have : sbit m b i < 2 := Nat.div_lt_of_lt_mul (by omega)
  omega
theorem shift_lo (m b i : Nat) (hb : b ≤ 1) : (2 * wn m i + sbit m b i) % B = wn (2 * m + b) i :=
  (shift_step (B ^ i) m b (Nat.pow_pos B_pos) (sbit_le m b i hb)).1
theorem shift_hi (m b i : Nat) (hb : b ≤ 1) : wn m i / 9223372036854775808 = sbit m b (i + 1) := by
  have := (shift_step (B ^ i) m b (Nat.pow_pos B_pos) (sbit_le m b i hb)).2
  unfold sbit; rw [Nat.pow_succ]; exact this

/-! a number over a word, from the top -/
theorem div_step (p m d : Nat) (hd : 0 < d) :
    ((m / (p * B) % d) * B + m / p % B) / d = m / d / p % B ∧ ((m / (p * B) % d) * B + m / p % B) % d = m / p % d := by
  have e : m / p = B * (m / (p * B)) + m / p % B := by rw [← Nat.div_div_eq_div_mul]; exact (Nat.div_add_mod _ _).symm
  have hR := Nat.mod_lt (m / (p * B)) hd
  have hX := Nat.div_add_mod (m / (p * B)) d
  have hw : m / p % B < B := Nat.mod_lt _ B_pos
  have e2 : m / p = (m / (p * B) % d * B + m / p % B) + d * (B * (m / (p * B) / d)) := by
    have h3 : B * (m / (p * B)) = B * (d * (m / (p * B) / d)) + B * (m / (p * B) % d) := by rw [← Nat.mul_add, hX]
    have h4 : B * (d * (m / (p * B) / d)) = d * (B * (m / (p * B) / d)) := Nat.mul_left_comm _ _ _
    have h5 : B * (m / (p * B) % d) = m / (p * B) % d * B := Nat.mul_comm _ _
    omega
  constructor
  · have : m / d / p = m / p / d := by rw [Nat.div_div_eq_div_mul, Nat.div_div_eq_div_mul, Nat.mul_comm]
    rw [this]
    have h6 : m / p / d = (m / (p * B) % d * B + m / p % B) / d + B * (m / (p * B) / d) := by
      conv => lhs; rw [e2]
      rw [Nat.add_mul_div_left _ _ hd]
    rw [h6, Nat.add_mul_mod_self_left]
    symm
    apply Nat.mod_eq_of_lt
    apply Nat.div_lt_of_lt_mul
    calc m / (p * B) % d * B + m / p % B < m / (p * B) % d * B + B := by omega
      _ = (m / (p * B) % d + 1) * B := by rw [Nat.add_mul, Nat.one_mul]
      _ ≤ d * B := Nat.mul_le_mul_right _ (by omega)
  · conv => rhs; rw [e2]
    rw [Nat.add_mul_mod_self_left]
theorem dword (m d i : Nat) (hd : 0 < d) : (m / B ^ (i + 1) % d * B + wn m i) / d = wn (m / d) i ∧ (m / B ^ (i + 1) % d * B + wn m i) % d = m / B ^ i % d := by
  have := div_step (B ^ i) m d hd
  rw [Nat.pow_succ]; exact this

/-! order, by the top words first -/
theorem top_split (m i : Nat) : m / B ^ i = B * (m / B ^ (i + 1)) + wn m i := by
  rw [Nat.pow_succ, ← Nat.div_div_eq_div_mul]; exact (Nat.div_add_mod _ _).symm
theorem lt_of_word {m n i : Nat} (h : m / B ^ (i + 1) = n / B ^ (i + 1)) (hw : wn m i < wn n i) : m < n := by
  have h1 := top_split m i
  have h2 := top_split n i
  rw [h] at h1
  exact Nat.lt_of_div_lt_div (c := B ^ i) (by omega)
theorem eq_of_word {m n i : Nat} (h : m / B ^ (i + 1) = n / B ^ (i + 1)) (hw : wn m i = wn n i) : m / B ^ i = n / B ^ i := by
  rw [top_split m i, top_split n i, h, hw]

/-! how many bits -/
def bl (n : Nat) : Nat := if n = 0 then 0 else n.log2 + 1
theorem bl_le (n k : Nat) : bl n ≤ k ↔ n < 2 ^ k := by
  unfold bl
  by_cases h : n = 0
  · subst h; simp; exact Nat.pow_pos (by decide)
  · rw [if_neg h, ← Nat.log2_lt h]; omega
theorem bl_unique {n k : Nat} (h : ∀ j, k ≤ j ↔ n < 2 ^ j) : bl n = k := by
  apply Nat.le_antisymm
  · exact (bl_le n k).2 ((h k).1 (Nat.le_refl _))
  · exact (h _).2 ((bl_le n _).1 (Nat.le_refl _))
theorem bitLen_bl : ∀ n, n < 2 ^ 64 → Lib.bitLen n = bl n := by
  intro n
  induction n using Nat.strongRecOn with
  | _ n ih =>
    intro h
    by_cases h0 : n = 0
    · subst h0; rfl
    · rw [Lib.bitLen_half n h0 h, ih (n / 2) (by omega) (by omega)]
      unfold bl
      rw [if_neg h0]
      by_cases h1 : n / 2 = 0
      · have : n = 1 := by omega
        subst this; rfl
      · rw [if_neg h1, Nat.log2_def n, if_pos (by omega)]; omega
/-- The top word that is not nought tells the bits. -/
theorem bl_word {n i : Nat} (h : n / B ^ (i + 1) = 0) (h0 : wn n i ≠ 0) : bl n = i * 64 + bl (wn n i) := by
  have e : n / B ^ i = wn n i := by rw [top_split, h]; simp
  have eB : B ^ i = 2 ^ (64 * i) := by rw [show B = 2 ^ 64 from rfl, ← Nat.pow_mul]
  apply bl_unique
  intro j
  constructor
  · intro hj
    have : wn n i < 2 ^ (j - i * 64) := (bl_le _ _).1 (by omega)
    rw [← e, eB, Nat.div_lt_iff_lt_mul (Nat.pow_pos (by decide)), ← Nat.pow_add] at this
    rw [show j - i * 64 + 64 * i = j by omega] at this
    exact this
  · intro hj
    by_cases c : i * 64 ≤ j
    · have : wn n i < 2 ^ (j - i * 64) := by
        rw [← e, eB, Nat.div_lt_iff_lt_mul (Nat.pow_pos (by decide)), ← Nat.pow_add, show j - i * 64 + 64 * i = j by omega]
        exact hj
      have := (bl_le _ _).2 this
      omega
    · exfalso
      apply h0
      rw [← e, eB]
      apply Nat.div_eq_of_lt
      exact Nat.lt_of_lt_of_le hj (Nat.pow_le_pow_right (by decide) (by omega))
theorem bl_zero {n : Nat} (h : n = 0) : bl n = 0 := by subst h; rfl
end Go.Proofs.YtbgglghapjfdeaaDoor
/- The contracts of the wide numbers' sums, differences, order, bits, shifts and products by a word (package dec), and of the library's functions beneath them. -/
namespace Go.Proofs.YtbgglghapjfdeaaDoor
open Go.RowKit

/-- The five words of a wide number. -/
structure IsW (m : Nat) (a0 a1 a2 a3 a4 : Int) : Prop where
  e0 : a0 = wd m 0
  e1 : a1 = wd m 1
  e2 : a2 = wd m 2
  e3 : a3 = wd m 3
  e4 : a4 = wd m 4
theorem IsW.self (m : Nat) : IsW m (wd m 0) (wd m 1) (wd m 2) (wd m 3) (wd m 4) := ⟨rfl, rfl, rfl, rfl, rfl⟩

theorem bel_alloc {a w : World} (h : Below a.heap.size a w) (o : Obj) : Below a.heap.size a (w.alloc o) := h.alloc h.size o

/-! the library's words -/
theorem run_Sub64 (x y b : Int) (hx : IsWord x) (hy : IsWord y) (hb0 : 0 ≤ b) (hb : b ≤ 1) (w : World) :
    (callFunc 54 #[.int .u64 x, .int .u64 y, .int .u64 b]).run Tryd.prog w = .ok (.value (.tuple #[.int .u64 ((x + 18446744073709551616 - y - b) % 18446744073709551616), .int .u64 (if x < y + b then 1 else 0)])) w := by
  have hx0 := hx.lo; have hx1 := hx.hi; have hy0 := hy.lo; have hy1 := hy.hi
  obtain ⟨X, rfl⟩ := Int.eq_ofNat_of_zero_le hx0
  obtain ⟨Y, rfl⟩ := Int.eq_ofNat_of_zero_le hy0
  obtain ⟨b, rfl⟩ := Int.eq_ofNat_of_zero_le hb0
  rw [run_callFunc_extern Tryd.func54 (by kernel_rfl) (by kernel_rfl) (by kernel_rfl) (e := sub64Entry) (by kernel_rfl), run_sub64 X Y b (by omega)]
  simp only [Result.andThen]
  have e1 : (((X + 18446744073709551616 - Y - b) % 18446744073709551616 : Nat) : Int) = ((X : Int) + 18446744073709551616 - (Y : Int) - (b : Int)) % 18446744073709551616 := by omega
  have e2 : ((if X < Y + b then 1 else 0 : Nat) : Int) = if (X : Int) < (Y : Int) + (b : Int) then 1 else 0 := by
    by_cases c : X < Y + b
    · rw [if_pos c, if_pos (by omega)]; rfl
    · rw [if_neg c, if_neg (by omega)]; rfl
  rw [e1, e2]

/-! plus -/
/-! minus -/
end Go.Proofs.YtbgglghapjfdeaaDoor
/- The contracts of math/bits' Len64, LeadingZeros64 and Mul64 (package dec calls them). -/
namespace Go.Proofs.YtbgglghapjfdeaaDoor
open Go.RowKit
set_option linter.unusedVariables false

theorem bl_shift (n k : Nat) (h : 2 ^ k ≤ n) : bl n = k + bl (n / 2 ^ k) := by
  apply bl_unique
  intro j
  constructor
  · intro hj
    have := (bl_le (n / 2 ^ k) (j - k)).1 (by omega)
    rw [Nat.div_lt_iff_lt_mul (Nat.pow_pos (by decide)), ← Nat.pow_add, show j - k + k = j by omega] at this
    exact this
  · intro hj
    have hk : k < j := by
      rcases Nat.lt_or_ge k j with c | c
      · exact c
      · have := Nat.pow_le_pow_right (show 0 < 2 by decide) c; omega
    have := (bl_le (n / 2 ^ k) (j - k)).2 (by rw [Nat.div_lt_iff_lt_mul (Nat.pow_pos (by decide)), ← Nat.pow_add, show j - k + k = j by omega]; exact hj)
    omega
theorem bl_le64 (n : Nat) (h : n < 18446744073709551616) : bl n ≤ 64 := (bl_le n 64).2 (by omega)
theorem len_end (x u : Int) (k : Nat) (h0 : 0 ≤ x) (h1 : x ≤ 18446744073709551615) (hu : u.toNat = x.toNat / 2 ^ k) (hk : k = 0 ∨ 2 ^ k ≤ x.toNat) (u0 : 0 ≤ u) (u1 : u ≤ 255) : (k : Int) + Lib.len8 u = (bl x.toNat : Int) := by
  rw [Lib.len8_of u u0 u1, bitLen_bl _ (by omega), hu]
  rcases hk with rfl | hk
  · simp
  · rw [bl_shift _ k hk]; omega
theorem len8_bd (u : Int) (u0 : 0 ≤ u) (u1 : u ≤ 255) : 0 ≤ Lib.len8 u ∧ Lib.len8 u ≤ 8 := by
  rw [Lib.len8_of u u0 u1]
  have := Lib.bitLen_le8' u u0 u1
  omega

set_option maxHeartbeats 1000000 in
set_option maxRecDepth 100000 in
theorem len64_000 (x : Int) (w : World) (h0 : 0 ≤ x) (h1 : x ≤ 18446744073709551615) (c1 : x < 4294967296) (c2 : x < 65536) (c3 : x < 256) :
    Calls Tryd.prog 51 #[.int .u64 x] w fun e w' => e = .returned (.int .i64 (bl x.toNat)) ∧ w' = w := by
  have u0 : 0 ≤ x := by omega
  have u1 : x ≤ 255 := by omega
  have l := len8_bd (x) u0 u1
  obtain ⟨l0, l1⟩ := l
  have fin : Hid (((0 : Nat) : Int) + Lib.len8 (x) = (bl x.toNat : Int)) := len_end x (x) 0 h0 h1 (by omega) (by omega) u0 u1
  go_enter Tryd.func51, Tryd.ntmps51
  go_wp2
  go_ret
  refine ⟨congrArg Ending.returned (congrArg (Value.int IntKind.i64) ?_), rfl⟩
  rw [← fin.out]
  first | rfl | omega | simp

set_option maxHeartbeats 1000000 in
set_option maxRecDepth 100000 in
theorem len64_001 (x : Int) (w : World) (h0 : 0 ≤ x) (h1 : x ≤ 18446744073709551615) (c1 : x < 4294967296) (c2 : x < 65536) (c3 : 256 ≤ x) :
    Calls Tryd.prog 51 #[.int .u64 x] w fun e w' => e = .returned (.int .i64 (bl x.toNat)) ∧ w' = w := by
  have u0 : 0 ≤ x / 256 := by omega
  have u1 : x / 256 ≤ 255 := by omega
  have l := len8_bd (x / 256) u0 u1
  obtain ⟨l0, l1⟩ := l
  have fin : Hid (((8 : Nat) : Int) + Lib.len8 (x / 256) = (bl x.toNat : Int)) := len_end x (x / 256) 8 h0 h1 (by omega) (by omega) u0 u1
  go_enter Tryd.func51, Tryd.ntmps51
  go_wp2
  go_ret
  refine ⟨congrArg Ending.returned (congrArg (Value.int IntKind.i64) ?_), rfl⟩
  rw [← fin.out]
  first | rfl | omega | simp

set_option maxHeartbeats 1000000 in
set_option maxRecDepth 100000 in
theorem len64_010 (x : Int) (w : World) (h0 : 0 ≤ x) (h1 : x ≤ 18446744073709551615) (c1 : x < 4294967296) (c2 : 65536 ≤ x) (c3 : x / 65536 < 256) :
    Calls Tryd.prog 51 #[.int .u64 x] w fun e w' => e = .returned (.int .i64 (bl x.toNat)) ∧ w' = w := by
  have u0 : 0 ≤ x / 65536 := by omega
  have u1 : x / 65536 ≤ 255 := by omega
  have l := len8_bd (x / 65536) u0 u1
  obtain ⟨l0, l1⟩ := l
  have fin : Hid (((16 : Nat) : Int) + Lib.len8 (x / 65536) = (bl x.toNat : Int)) := len_end x (x / 65536) 16 h0 h1 (by omega) (by omega) u0 u1
  go_enter Tryd.func51, Tryd.ntmps51
  go_wp2
  go_ret
  refine ⟨congrArg Ending.returned (congrArg (Value.int IntKind.i64) ?_), rfl⟩
  rw [← fin.out]
  first | rfl | omega | simp

set_option maxHeartbeats 1000000 in
set_option maxRecDepth 100000 in
theorem len64_011 (x : Int) (w : World) (h0 : 0 ≤ x) (h1 : x ≤ 18446744073709551615) (c1 : x < 4294967296) (c2 : 65536 ≤ x) (c3 : 256 ≤ x / 65536) :
    Calls Tryd.prog 51 #[.int .u64 x] w fun e w' => e = .returned (.int .i64 (bl x.toNat)) ∧ w' = w := by
  have u0 : 0 ≤ x / 65536 / 256 := by omega
  have u1 : x / 65536 / 256 ≤ 255 := by omega
  have l := len8_bd (x / 65536 / 256) u0 u1
  obtain ⟨l0, l1⟩ := l
  have fin : Hid (((24 : Nat) : Int) + Lib.len8 (x / 65536 / 256) = (bl x.toNat : Int)) := len_end x (x / 65536 / 256) 24 h0 h1 (by omega) (by omega) u0 u1
  go_enter Tryd.func51, Tryd.ntmps51
  go_wp2
  go_ret
  refine ⟨congrArg Ending.returned (congrArg (Value.int IntKind.i64) ?_), rfl⟩
  rw [← fin.out]
  first | rfl | omega | simp

set_option maxHeartbeats 1000000 in
set_option maxRecDepth 100000 in
theorem len64_100 (x : Int) (w : World) (h0 : 0 ≤ x) (h1 : x ≤ 18446744073709551615) (c1 : 4294967296 ≤ x) (c2 : x / 4294967296 < 65536) (c3 : x / 4294967296 < 256) :
    Calls Tryd.prog 51 #[.int .u64 x] w fun e w' => e = .returned (.int .i64 (bl x.toNat)) ∧ w' = w := by
  have u0 : 0 ≤ x / 4294967296 := by omega
  have u1 : x / 4294967296 ≤ 255 := by omega
  have l := len8_bd (x / 4294967296) u0 u1
  obtain ⟨l0, l1⟩ := l
  have fin : Hid (((32 : Nat) : Int) + Lib.len8 (x / 4294967296) = (bl x.toNat : Int)) := len_end x (x / 4294967296) 32 h0 h1 (by omega) (by omega) u0 u1
  go_enter Tryd.func51, Tryd.ntmps51
  go_wp2
  go_ret
  refine ⟨congrArg Ending.returned (congrArg (Value.int IntKind.i64) ?_), rfl⟩
  rw [← fin.out]
  first | rfl | omega | simp

set_option maxHeartbeats 1000000 in
set_option maxRecDepth 100000 in
theorem len64_101 (x : Int) (w : World) (h0 : 0 ≤ x) (h1 : x ≤ 18446744073709551615) (c1 : 4294967296 ≤ x) (c2 : x / 4294967296 < 65536) (c3 : 256 ≤ x / 4294967296) :
    Calls Tryd.prog 51 #[.int .u64 x] w fun e w' => e = .returned (.int .i64 (bl x.toNat)) ∧ w' = w := by
  have u0 : 0 ≤ x / 4294967296 / 256 := by omega
  have u1 : x / 4294967296 / 256 ≤ 255 := by omega
  have l := len8_bd (x / 4294967296 / 256) u0 u1
  obtain ⟨l0, l1⟩ := l
  have fin : Hid (((40 : Nat) : Int) + Lib.len8 (x / 4294967296 / 256) = (bl x.toNat : Int)) := len_end x (x / 4294967296 / 256) 40 h0 h1 (by omega) (by omega) u0 u1
  go_enter Tryd.func51, Tryd.ntmps51
  go_wp2
  go_ret
  refine ⟨congrArg Ending.returned (congrArg (Value.int IntKind.i64) ?_), rfl⟩
  rw [← fin.out]
  first | rfl | omega | simp

set_option maxHeartbeats 1000000 in
set_option maxRecDepth 100000 in
theorem len64_110 (x : Int) (w : World) (h0 : 0 ≤ x) (h1 : x ≤ 18446744073709551615) (c1 : 4294967296 ≤ x) (c2 : 65536 ≤ x / 4294967296) (c3 : x / 4294967296 / 65536 < 256) :
    Calls Tryd.prog 51 #[.int .u64 x] w fun e w' => e = .returned (.int .i64 (bl x.toNat)) ∧ w' = w := by
  have u0 : 0 ≤ x / 4294967296 / 65536 := by omega
  have u1 : x / 4294967296 / 65536 ≤ 255 := by omega
  have l := len8_bd (x / 4294967296 / 65536) u0 u1
  obtain ⟨l0, l1⟩ := l
  have fin : Hid (((48 : Nat) : Int) + Lib.len8 (x / 4294967296 / 65536) = (bl x.toNat : Int)) := len_end x (x / 4294967296 / 65536) 48 h0 h1 (by omega) (by omega) u0 u1
  go_enter Tryd.func51, Tryd.ntmps51
  go_wp2
  go_ret
  refine ⟨congrArg Ending.returned (congrArg (Value.int IntKind.i64) ?_), rfl⟩
  rw [← fin.out]
  first | rfl | omega | simp

set_option maxHeartbeats 1000000 in
set_option maxRecDepth 100000 in
theorem len64_111 (x : Int) (w : World) (h0 : 0 ≤ x) (h1 : x ≤ 18446744073709551615) (c1 : 4294967296 ≤ x) (c2 : 65536 ≤ x / 4294967296) (c3 : 256 ≤ x / 4294967296 / 65536) :
    Calls Tryd.prog 51 #[.int .u64 x] w fun e w' => e = .returned (.int .i64 (bl x.toNat)) ∧ w' = w := by
  have u0 : 0 ≤ x / 4294967296 / 65536 / 256 := by omega
  have u1 : x / 4294967296 / 65536 / 256 ≤ 255 := by omega
  have l := len8_bd (x / 4294967296 / 65536 / 256) u0 u1
  obtain ⟨l0, l1⟩ := l
  have fin : Hid (((56 : Nat) : Int) + Lib.len8 (x / 4294967296 / 65536 / 256) = (bl x.toNat : Int)) := len_end x (x / 4294967296 / 65536 / 256) 56 h0 h1 (by omega) (by omega) u0 u1
  go_enter Tryd.func51, Tryd.ntmps51
  go_wp2
  go_ret
  refine ⟨congrArg Ending.returned (congrArg (Value.int IntKind.i64) ?_), rfl⟩
  rw [← fin.out]
  first | rfl | omega | simp

theorem len64_any (x : Int) (w : World) (hx : IsWord x) :
    Calls Tryd.prog 51 #[.int .u64 x] w fun e w' => e = .returned (.int .i64 (bl x.toNat)) ∧ w' = w := by
  have h0 := hx.lo
  have h1 := hx.hi
  rcases Int.lt_or_le x 4294967296 with c1 | c1
  · rcases Int.lt_or_le x 65536 with c2 | c2
    · rcases Int.lt_or_le x 256 with c3 | c3
      · exact len64_000 x w h0 h1 c1 c2 c3
      · exact len64_001 x w h0 h1 c1 c2 c3
    · rcases Int.lt_or_le (x / 65536) 256 with c3 | c3
      · exact len64_010 x w h0 h1 c1 c2 c3
      · exact len64_011 x w h0 h1 c1 c2 c3
  · rcases Int.lt_or_le (x / 4294967296) 65536 with c2 | c2
    · rcases Int.lt_or_le (x / 4294967296) 256 with c3 | c3
      · exact len64_100 x w h0 h1 c1 c2 c3
      · exact len64_101 x w h0 h1 c1 c2 c3
    · rcases Int.lt_or_le (x / 4294967296 / 65536) 256 with c3 | c3
      · exact len64_110 x w h0 h1 c1 c2 c3
      · exact len64_111 x w h0 h1 c1 c2 c3

set_option maxHeartbeats 400000 in
theorem lead64_any (x : Int) (w : World) (hx : IsWord x) :
    Calls Tryd.prog 42 #[.int .u64 x] w fun e w' => e = .returned (.int .i64 (64 - bl x.toNat)) ∧ w' = w := by
  have h0 := hx.lo
  have h1 := hx.hi
  have hb := bl_le64 x.toNat (by omega)
  go_enter Tryd.func42, Tryd.ntmps42
  go_wp2_with (go_at_call 51; refine (len64_any _ _ hx).mono ?_; rintro e w' ⟨rfl, rfl⟩)
  go_ret
  exact ⟨rfl, rfl⟩

/-! Mul64 -/
/-- The numbers at which the shelf's contract lies here. -/
def renMul : Go.Shelf.Ren := ⟨fun | 264 => 31 | n => n, fun | 53 => 42 | 46 => 35 | n => n, fun | n => n⟩
theorem laysMul : Go.Proofs.Lays.n264 Tryd.prog renMul := {
  mixed := by kernel_rfl
  f264 := Tryd.func31.trans (congrArg some (by kernel_rfl))
  t46 := Tryd.underlying35
  a46 := Tryd.isAgg35
  z46 := Tryd.sizeOf35
  v46 := Tryd.zeroValue35
  t53 := Tryd.underlying42
  a53 := Tryd.isAgg42
  z53 := Tryd.sizeOf42
  v53 := Tryd.zeroValue42 }
theorem mul64_any (x y : Nat) (w : World) (hx : x < 18446744073709551616) (hy : y < 18446744073709551616) :
    Calls Tryd.prog 31 #[.int .u64 x, .int .u64 y] w fun e w' => e = .returned (.tuple #[.int .u64 ((x * y / 18446744073709551616 : Nat) : Int), .int .u64 ((x * y % 18446744073709551616 : Nat) : Int)]) ∧ w' = w :=
  Any.bits_Mul64 laysMul x y hx hy w
end Go.Proofs.YtbgglghapjfdeaaDoor
/- The plain arithmetic under a division of two words by one (Knuth's step by halves). No program's run in this text. -/
namespace Go.Proofs.YtbgglghapjfdeaaDoor
open Go.RowKit
set_option linter.unusedVariables false

def H : Nat := 4294967296
theorem H_eq : H = 4294967296 := rfl

/-- The guess is not below the true digit. -/
theorem guess_ge {N Y1 Y0 L1 : Nat} (h1 : 2147483648 ≤ Y1) (hl : L1 < 4294967296) :
    (N * 4294967296 + L1) / (Y1 * 4294967296 + Y0) ≤ N / Y1 := by
  rw [Nat.le_div_iff_mul_le (by omega)]
  have h := Nat.div_mul_le_self (N * 4294967296 + L1) (Y1 * 4294967296 + Y0)
  generalize (N * 4294967296 + L1) / (Y1 * 4294967296 + Y0) = Q at *
  rw [Nat.mul_add, ← Nat.mul_assoc] at h
  generalize Q * Y1 = z at *
  omega
/-- The test says no: it is the digit. -/
theorem guess_eq {N Y1 Y0 L1 q r : Nat} (h1 : 2147483648 ≤ Y1) (hq : q * Y1 + r = N) (hle : (N * 4294967296 + L1) / (Y1 * 4294967296 + Y0) ≤ q) (ht : q * Y0 ≤ 4294967296 * r + L1) :
    q = (N * 4294967296 + L1) / (Y1 * 4294967296 + Y0) := by
  apply Nat.le_antisymm _ hle
  rw [Nat.le_div_iff_mul_le (by omega), Nat.mul_add, ← Nat.mul_assoc, ← hq]
  generalize q * Y1 = z at *
  omega
/-- It says yes: the digit is less. -/
theorem guess_lt {N Y1 Y0 L1 q r : Nat} (h1 : 2147483648 ≤ Y1) (hq : q * Y1 + r = N) (hN : N < Y1 * 4294967296 + Y0) (hl : L1 < 4294967296) (ht : 4294967296 ≤ q ∨ 4294967296 * r + L1 < q * Y0) :
    (N * 4294967296 + L1) / (Y1 * 4294967296 + Y0) + 1 ≤ q := by
  apply Nat.succ_le_of_lt
  rw [Nat.div_lt_iff_lt_mul (by omega)]
  rcases ht with ht | ht
  · have : 4294967296 * (Y1 * 4294967296 + Y0) ≤ q * (Y1 * 4294967296 + Y0) := Nat.mul_le_mul_right _ ht
    omega
  · rw [Nat.mul_add, ← Nat.mul_assoc]
    generalize q * Y1 = z at *
    omega
/-- The rest has grown beyond a half: it is the digit. -/
theorem guess_big {N Y1 Y0 L1 q r : Nat} (h1 : 2147483648 ≤ Y1) (hq : q * Y1 + r = N) (hN : N < Y1 * 4294967296 + Y0) (h0 : Y0 < 4294967296) (hle : (N * 4294967296 + L1) / (Y1 * 4294967296 + Y0) ≤ q) (hr : 4294967296 ≤ r) :
    q = (N * 4294967296 + L1) / (Y1 * 4294967296 + Y0) := by
  apply guess_eq h1 hq hle
  have hq32 : q < 4294967296 := by
    rcases Nat.lt_or_ge q 4294967296 with c | c
    · exact c
    · have := Nat.mul_le_mul_right Y1 c
      omega
  have : q * Y0 ≤ 4294967296 * 4294967295 := Nat.mul_le_mul (by omega) (by omega)
  omega
theorem digit_lt {N Y L1 : Nat} (hN : N < Y) (hl : L1 < 4294967296) : (N * 4294967296 + L1) / Y < 4294967296 := by
  apply Nat.div_lt_of_lt_mul
  have : (N + 1) * 4294967296 ≤ Y * 4294967296 := Nat.mul_le_mul_right _ hN
  omega
/-- Two digits make the quotient. -/
theorem two_digits {N Y L1 L0 : Nat} (hY : 0 < Y) (hN : N < Y) (h1 : L1 < 4294967296) (h0 : L0 < 4294967296) :
    (N * 18446744073709551616 + (L1 * 4294967296 + L0)) / Y = (N * 4294967296 + L1) / Y * 4294967296 + ((N * 4294967296 + L1) % Y * 4294967296 + L0) / Y ∧
    (N * 18446744073709551616 + (L1 * 4294967296 + L0)) % Y = ((N * 4294967296 + L1) % Y * 4294967296 + L0) % Y := by
  have e : N * 18446744073709551616 + (L1 * 4294967296 + L0) = ((N * 4294967296 + L1) % Y * 4294967296 + L0) + Y * ((N * 4294967296 + L1) / Y * 4294967296) := by
    have h := Nat.div_add_mod (N * 4294967296 + L1) Y
    rw [← Nat.mul_assoc]
    generalize Y * ((N * 4294967296 + L1) / Y) = a at *
    omega
  rw [e, Nat.add_mul_div_left _ _ hY, Nat.add_mul_mod_self_left]
  exact ⟨Nat.add_comm _ _, rfl⟩
/-- What is left, in words that wrap. -/
theorem left_wrap {N Y L1 Q : Nat} (hY : Y < 18446744073709551616) (hQ : Q = (N * 4294967296 + L1) / Y) (h : 0 < Y) :
    IntKind.u64.wrap (IntKind.u64.wrap (IntKind.u64.wrap ((N : Int) * 4294967296) + (L1 : Int)) - IntKind.u64.wrap ((Q : Int) * (Y : Int))) = (((N * 4294967296 + L1) % Y : Nat) : Int) := by
  have hm := Nat.div_add_mod (N * 4294967296 + L1) Y
  have hl := Nat.mod_lt (N * 4294967296 + L1) h
  rw [← hQ] at hm
  rw [show (Q : Int) * (Y : Int) = ((Y * Q : Nat) : Int) by rw [Int.natCast_mul, Int.mul_comm]]
  generalize Y * Q = a at *
  generalize (N * 4294967296 + L1) % Y = b at *
  simp only [IntKind.wrap_u64]
  omega
theorem mul_le_word {a b : Nat} (ha : a < 4294967296) (hb : b < 4294967296) : a * b < 18446744073709551616 := by
  have : a * b ≤ 4294967295 * 4294967295 := Nat.mul_le_mul (by omega) (by omega)
  omega
theorem wrap_mul {a b : Nat} (ha : a < 4294967296) (hb : b < 4294967296) : IntKind.u64.wrap ((a : Int) * (b : Int)) = ((a * b : Nat) : Int) := by
  have := mul_le_word ha hb
  rw [← Int.natCast_mul, IntKind.wrap_u64]
  omega
theorem wrap_div {a b : Nat} (ha : a < 18446744073709551616) : IntKind.u64.wrap ((a : Int).tdiv (b : Int)) = ((a / b : Nat) : Int) := by
  have : a / b ≤ a := Nat.div_le_self _ _
  rw [← Int.ofNat_tdiv, IntKind.wrap_u64]
  generalize a / b = c at *
  omega
theorem wrap_ediv {a b : Nat} (ha : a < 18446744073709551616) : IntKind.u64.wrap ((a : Int) / (b : Int)) = ((a / b : Nat) : Int) := by
  have : a / b ≤ a := Nat.div_le_self _ _
  rw [← Int.natCast_ediv, IntKind.wrap_u64]
  generalize a / b = c at *
  omega
theorem wrap_rest {a b : Nat} (ha : a < 18446744073709551616) : IntKind.u64.wrap ((a : Int) - IntKind.u64.wrap (((a / b : Nat) : Int) * (b : Int))) = ((a % b : Nat) : Int) := by
  have h := Nat.div_add_mod a b
  rw [← Int.natCast_mul, Nat.mul_comm]
  generalize b * (a / b) = c at *
  generalize a % b = d at *
  simp only [IntKind.wrap_u64]
  omega
theorem maskN (a : Nat) (ha : a < 18446744073709551616) : bits .and .u64 (a : Int) 4294967295 = ((a % 4294967296 : Nat) : Int) := by
  have h := bits_and_u64_nat a 4294967295 ha (by omega)
  have e : a &&& 4294967295 = a % 4294967296 := Nat.and_two_pow_sub_one_eq_mod a 32
  rw [e] at h
  exact h
theorem halfN (a : Nat) : (a : Int) / 4294967296 = ((a / 4294967296 : Nat) : Int) := by omega

/-! how it begins: all is shifted up till the divisor fills its word -/
theorem pow_split {y : Nat} (h : 0 < y) (hy : y < 18446744073709551616) : 2 ^ bl y * 2 ^ (64 - bl y) = 18446744073709551616 ∧ y < 2 ^ bl y ∧ 2 ^ bl y ≤ 2 * y := by
  have hb := bl_le64 y hy
  refine ⟨?_, (bl_le y _).1 (Nat.le_refl _), ?_⟩
  · rw [← Nat.pow_add, show bl y + (64 - bl y) = 64 by omega]
  · have hpos : 0 < bl y := by
      rcases Nat.eq_zero_or_pos (bl y) with c | c
      · have := (bl_le y 0).1 (by omega); simp at this; omega
      · exact c
    rcases Nat.lt_or_ge y (2 ^ (bl y - 1)) with c | c
    · have := (bl_le y _).2 c; omega
    · have : 2 ^ bl y = 2 * 2 ^ (bl y - 1) := by rw [← Nat.pow_succ']; congr 1; omega
      omega
structure Begun (hi lo y Y N L : Nat) : Prop where
  eY : IntKind.u64.wrap ((y : Int) * 2 ^ (64 - bl y)) = (Y : Int)
  eN : bits .or .u64 (IntKind.u64.wrap ((hi : Int) * 2 ^ (64 - bl y))) ((lo : Int) / 2 ^ (64 - (64 - bl y))) = (N : Int)
  eL : IntKind.u64.wrap ((lo : Int) * 2 ^ (64 - bl y)) = (L : Int)
  Ylo : 9223372036854775808 ≤ Y
  Yhi : Y < 18446744073709551616
  hL : L < 18446744073709551616
  hN : N < Y
  quo : (N * 18446744073709551616 + L) / Y = (hi * 18446744073709551616 + lo) / y
  rem : (N * 18446744073709551616 + L) % Y / 2 ^ (64 - bl y) = (hi * 18446744073709551616 + lo) % y
theorem castpow (k : Nat) : ((2 : Int) ^ k) = ((2 ^ k : Nat) : Int) := by simp
theorem begin_div {hi lo y : Nat} (h1 : hi < y) (h2 : y < 18446744073709551616) (h3 : lo < 18446744073709551616) : ∃ Y N L, Begun hi lo y Y N L := by
  obtain ⟨e, l, g⟩ := pow_split (y := y) (by omega) h2
  have hb := bl_le64 y h2
  have ex : 64 - (64 - bl y) = bl y := by omega
  have hP : 0 < 2 ^ (64 - bl y) := Nat.pow_pos (by decide)
  have hQ : 0 < 2 ^ bl y := Nat.pow_pos (by decide)
  have hYlt : y * 2 ^ (64 - bl y) < 18446744073709551616 := by rw [← e]; exact Nat.mul_lt_mul_of_pos_right l hP
  have hYge : 18446744073709551616 ≤ 2 * (y * 2 ^ (64 - bl y)) := by rw [← e, ← Nat.mul_assoc]; exact Nat.mul_le_mul_right _ g
  have hHlt : hi * 2 ^ (64 - bl y) < y * 2 ^ (64 - bl y) := Nat.mul_lt_mul_of_pos_right h1 hP
  have hlo : lo / 2 ^ bl y < 2 ^ (64 - bl y) := Nat.div_lt_of_lt_mul (by rw [e]; exact h3)
  have elo : lo * 2 ^ (64 - bl y) = lo / 2 ^ bl y * 18446744073709551616 + lo * 2 ^ (64 - bl y) % 18446744073709551616 := by
    have : lo * 2 ^ (64 - bl y) / 18446744073709551616 = lo / 2 ^ bl y := by rw [← e, Nat.mul_div_mul_right _ _ hP]
    have hd := Nat.div_add_mod (lo * 2 ^ (64 - bl y)) 18446744073709551616
    rw [this] at hd
    omega
  have eU : (hi * 2 ^ (64 - bl y) + lo / 2 ^ bl y) * 18446744073709551616 + lo * 2 ^ (64 - bl y) % 18446744073709551616 = (hi * 18446744073709551616 + lo) * 2 ^ (64 - bl y) := by
    rw [Nat.add_mul, Nat.add_mul, Nat.mul_right_comm hi 18446744073709551616]
    omega
  refine ⟨y * 2 ^ (64 - bl y), hi * 2 ^ (64 - bl y) + lo / 2 ^ bl y, lo * 2 ^ (64 - bl y) % 18446744073709551616, ?_, ?_, ?_, by omega, hYlt, Nat.mod_lt _ (by decide), ?_, ?_, ?_⟩
  · rw [castpow, ← Int.natCast_mul, IntKind.wrap_u64]; omega
  · rw [ex, castpow, castpow, ← Int.natCast_mul, ← Int.natCast_ediv]
    rw [show IntKind.u64.wrap ((hi * 2 ^ (64 - bl y) : Nat) : Int) = ((hi * 2 ^ (64 - bl y) : Nat) : Int) by rw [IntKind.wrap_u64]; omega]
    rw [bits_or_u64_nat _ _ (by omega) (Nat.lt_of_le_of_lt (Nat.div_le_self _ _) h3)]
    have := Nat.two_pow_add_eq_or_of_lt hlo hi
    rw [Nat.mul_comm hi, ← this]
  · rw [castpow, ← Int.natCast_mul, IntKind.wrap_u64]; omega
  · have : (hi + 1) * 2 ^ (64 - bl y) ≤ y * 2 ^ (64 - bl y) := Nat.mul_le_mul_right _ h1
    rw [Nat.add_mul, Nat.one_mul] at this
    omega
  · rw [eU, Nat.mul_div_mul_right _ _ hP]
  · rw [eU, Nat.mul_mod_mul_right, Nat.mul_div_cancel _ hP]
end Go.Proofs.YtbgglghapjfdeaaDoor
/- The contract of math/bits' Div64 (the library's own Go text, Knuth's division by halves). -/
namespace Go.Proofs.YtbgglghapjfdeaaDoor
open Go.RowKit
set_option linter.unusedVariables false

set_option maxHeartbeats 1000000 in
set_option maxRecDepth 100000 in
theorem div64_big (hi lo y : Nat) (w : World) (h1 : hi < y) (h2 : y ≤ 18446744073709551615) (h3 : lo ≤ 18446744073709551615) (h0 : 0 < hi) :
    Calls Tryd.prog 32 #[.int .u64 hi, .int .u64 lo, .int .u64 y] w fun e w' => e = .returned (.tuple #[.int .u64 (((hi * 18446744073709551616 + lo) / y : Nat) : Int), .int .u64 (((hi * 18446744073709551616 + lo) % y : Nat) : Int)]) ∧ w' = w := by
  have c0 : ((y : Int) == 0) = false := beq_eq_false_iff_ne.2 (by omega)
  have c1 : ((hi : Int) == 0) = false := beq_eq_false_iff_ne.2 (by omega)
  have c2 : ¬ (y : Int) ≤ hi := by omega
  have hb : bl y ≤ 64 := bl_le64 y (by omega)
  obtain ⟨Y, N, L, eY, eN, eL, Ylo, Yhi, hL, hN, quo, rem⟩ := begin_div h1 (by omega : y < 18446744073709551616) (by omega : lo < 18446744073709551616)
  obtain ⟨Y1, hY1⟩ : ∃ x, x = Y / 4294967296 := ⟨_, rfl⟩
  obtain ⟨Y0, hY0⟩ : ∃ x, x = Y % 4294967296 := ⟨_, rfl⟩
  obtain ⟨L1, hL1⟩ : ∃ x, x = L / 4294967296 := ⟨_, rfl⟩
  obtain ⟨L0, hL0⟩ : ∃ x, x = L % 4294967296 := ⟨_, rfl⟩
  have YY : Hid (Y = Y1 * 4294967296 + Y0) := by show Y = _; omega
  have LL : Hid (L = L1 * 4294967296 + L0) := by show L = _; omega
  have eY1 : (Y : Int) / 4294967296 = (Y1 : Int) := by omega
  have eY0 : bits .and .u64 (Y : Int) 4294967295 = (Y0 : Int) := by rw [hY0]; exact maskN Y Yhi
  have eL1 : (L : Int) / 4294967296 = (L1 : Int) := by omega
  have eL0 : bits .and .u64 (L : Int) 4294967295 = (L0 : Int) := by rw [hL0]; exact maskN L hL
  have b1 : Hid (2147483648 ≤ Y1) := by show 2147483648 ≤ Y1; omega
  have b1i : 2147483648 ≤ (Y1 : Int) := by have := b1.out; omega
  have b2 : Hid (Y1 < 4294967296) := by show Y1 < 4294967296; omega
  have b2i : (Y1 : Int) < 4294967296 := by have := b2.out; omega
  have b3 : Hid (Y0 < 4294967296) := by show Y0 < 4294967296; omega
  have b3i : (Y0 : Int) < 4294967296 := by have := b3.out; omega
  have b4 : Hid (L1 < 4294967296) := by show L1 < 4294967296; omega
  have b4i : (L1 : Int) < 4294967296 := by have := b4.out; omega
  have b5 : Hid (L0 < 4294967296) := by show L0 < 4294967296; omega
  have b5i : (L0 : Int) < 4294967296 := by have := b5.out; omega
  have b6 : ¬ (Y1 : Int) = 0 := by omega
  have eq1 : IntKind.u64.wrap ((N : Int) / (Y1 : Int)) = ((N / Y1 : Nat) : Int) := wrap_ediv (by omega)
  have er1 : IntKind.u64.wrap ((N : Int) - IntKind.u64.wrap (((N / Y1 : Nat) : Int) * (Y1 : Int))) = ((N % Y1 : Nat) : Int) := wrap_rest (by omega)
  have HQ : Hid ((hi * 18446744073709551616 + lo) / y = (N * 18446744073709551616 + L) / Y) := quo.symm
  have HR : Hid ((hi * 18446744073709551616 + lo) % y = (N * 18446744073709551616 + L) % Y / 2 ^ (64 - bl y)) := rem.symm
  obtain ⟨q, hq⟩ : ∃ x, x = N / Y1 := ⟨_, rfl⟩
  obtain ⟨r, hr⟩ : ∃ x, x = N % Y1 := ⟨_, rfl⟩
  rw [← hq] at eq1 er1
  rw [← hr] at er1
  obtain ⟨Q1, hQ1⟩ : ∃ x, x = (N * 4294967296 + L1) / (Y1 * 4294967296 + Y0) := ⟨_, rfl⟩
  have i1 : q * Y1 + r = N := by rw [hq, hr, Nat.mul_comm]; exact Nat.div_add_mod N Y1
  have i2 : Q1 ≤ q := by rw [hq, hQ1]; exact guess_ge b1.out b4.out
  have i3 : (r : Int) < 4294967296 := by have := Nat.mod_lt N (show 0 < Y1 by omega); omega
  have i4' : q < 8589934592 := by rw [hq]; apply Nat.div_lt_of_lt_mul; have : 2147483648 * 8589934592 ≤ Y1 * 8589934592 := Nat.mul_le_mul_right _ b1.out; omega
  have i4 : (q : Int) < 8589934592 := by omega
  have I1 : Hid (q * Y1 + r = N) := i1
  have HQ1 : Hid (Q1 = (N * 4294967296 + L1) / (Y1 * 4294967296 + Y0)) := hQ1
  have HN : Hid (N < Y1 * 4294967296 + Y0) := by show N < _; have := YY.out; omega
  -- the second half
  obtain ⟨R1, hR1⟩ : ∃ x, x = (N * 4294967296 + L1) % Y := ⟨_, rfl⟩
  have YY' : Y1 * 4294967296 + Y0 = Y := YY.out.symm
  have kU : Hid (IntKind.u64.wrap (IntKind.u64.wrap (IntKind.u64.wrap ((N : Int) * 4294967296) + (L1 : Int)) - IntKind.u64.wrap ((Q1 : Int) * (Y : Int))) = (R1 : Int)) := by rw [hR1]; exact left_wrap Yhi (by rw [hQ1, YY']) (by omega)
  have lR1 : R1 < Y := by rw [hR1]; exact Nat.mod_lt _ (by omega)
  have lR1i : (R1 : Int) < (Y : Int) := by omega
  obtain ⟨q2, hq2⟩ : ∃ x, x = R1 / Y1 := ⟨_, rfl⟩
  obtain ⟨r2, hr2⟩ : ∃ x, x = R1 % Y1 := ⟨_, rfl⟩
  have kq2 : Hid (IntKind.u64.wrap ((R1 : Int) / (Y1 : Int)) = (q2 : Int)) := by rw [hq2]; exact wrap_ediv (by omega)
  have kr2 : Hid (IntKind.u64.wrap ((R1 : Int) - IntKind.u64.wrap ((q2 : Int) * (Y1 : Int))) = (r2 : Int)) := by rw [hq2, hr2]; exact wrap_rest (by omega)
  obtain ⟨Q0, hQ0⟩ : ∃ x, x = (R1 * 4294967296 + L0) / (Y1 * 4294967296 + Y0) := ⟨_, rfl⟩
  have J1 : Hid (q2 * Y1 + r2 = R1) := by show q2 * Y1 + r2 = R1; rw [hq2, hr2, Nat.mul_comm]; exact Nat.div_add_mod R1 Y1
  have j2 : Q0 ≤ q2 := by rw [hq2, hQ0]; exact guess_ge b1.out b5.out
  have j3 : (r2 : Int) < 4294967296 := by have := Nat.mod_lt R1 (show 0 < Y1 by have := b1.out; omega); have := b2.out; omega
  have j4' : q2 < 8589934592 := by rw [hq2]; apply Nat.div_lt_of_lt_mul; have : 2147483648 * 8589934592 ≤ Y1 * 8589934592 := Nat.mul_le_mul_right _ b1.out; omega
  have j4 : (q2 : Int) < 8589934592 := by omega
  obtain ⟨R0, hR0⟩ : ∃ x, x = (R1 * 4294967296 + L0) % Y := ⟨_, rfl⟩
  have kF : Hid (IntKind.u64.wrap (IntKind.u64.wrap (IntKind.u64.wrap ((R1 : Int) * 4294967296) + (L0 : Int)) - IntKind.u64.wrap ((Q0 : Int) * (Y : Int))) = (R0 : Int)) := by rw [hR0]; exact left_wrap Yhi (by rw [hQ0, YY']) (by omega)
  have HQ0 : Hid (Q0 = (R1 * 4294967296 + L0) / (Y1 * 4294967296 + Y0)) := hQ0
  have HR1 : Hid (R1 < Y1 * 4294967296 + Y0) := by show R1 < _; omega
  have lQ1 : (Q1 : Int) < 4294967296 := by have := digit_lt HN.out b4.out; rw [hQ1]; omega
  have lQ0 : (Q0 : Int) < 4294967296 := by have := digit_lt HR1.out b5.out; rw [hQ0]; omega
  have fQ : Hid ((Q1 : Int) * 4294967296 + (Q0 : Int) = (((hi * 18446744073709551616 + lo) / y : Nat) : Int)) := by
    show _ = _
    rw [HQ.out, LL.out, (two_digits (by omega) hN b4.out b5.out).1, ← hR1, hQ1, hQ0, YY']
    omega
  have fR : Hid ((R0 : Int) / 2 ^ (64 - bl y) = (((hi * 18446744073709551616 + lo) % y : Nat) : Int)) := by
    show _ = _
    rw [HR.out, LL.out, (two_digits (by omega) hN b4.out b5.out).2, ← hR1, ← hR0, castpow, Int.natCast_ediv]
  clear i4' quo rem hY1 hY0 hL1 hL0 hq hr hQ1 i1 YY' hR1 lR1 hq2 hr2 hQ0 j4' hR0
  go_enter Tryd.func32, Tryd.ntmps32
  go_wp2_with (go_at_call 42; refine (lead64_any _ _ ⟨by omega, by omega⟩).mono ?_; rintro e w' ⟨rfl, rfl⟩)
  clear eY eN eL eY1 eY0 eL1 eL0 eq1 er1
  go_loop [15, 16] (fun a b => ∃ q r : Nat, a = .int .u64 q ∧ b = .int .u64 r ∧ Hid (q * Y1 + r = N) ∧ Q1 ≤ q ∧ (q : Int) < 8589934592 ∧ (r : Int) < 4294967296) (fun a _ => (intOf a).toNat)
  case atStart => exact ⟨q, r, rfl, rfl, I1, i2, i4, i3⟩
  case round =>
    clear i2 i3 i4 I1
    obtain ⟨p, s, rfl, rfl, I1, i2, i4, i3⟩ := hrel
    by_cases t1 : (4294967296 : Int) ≤ (p : Int)
    · have j1 : Q1 + 1 ≤ p := by rw [HQ1.out]; exact guess_lt b1.out I1.out HN.out b4.out (Or.inl (by omega))
      by_cases t3 : (4294967296 : Int) ≤ (s : Int) + (Y1 : Int)
      · have hp : (p : Int) - 1 = (Q1 : Int) := by
          have := guess_big (L1 := L1) (q := p - 1) (r := s + Y1) b1.out (by
            have := I1.out
            have e : p * Y1 = (p - 1) * Y1 + Y1 := by rw [← Nat.succ_mul]; congr 1; omega
            omega) HN.out b3.out (by rw [← HQ1.out]; omega) (by omega)
          rw [← HQ1.out] at this
          omega
        have eU := kU.out
        have eq2 := kq2.out
        have er2 := kr2.out
        go_wp2
        clear eU eq2 er2
        go_loop [18, 16] (fun a b => ∃ q r : Nat, a = .int .u64 q ∧ b = .int .u64 r ∧ Hid (q * Y1 + r = R1) ∧ Q0 ≤ q ∧ (q : Int) < 8589934592 ∧ (r : Int) < 4294967296) (fun a _ => (intOf a).toNat)
        case atStart => exact ⟨q2, r2, rfl, rfl, J1, j2, j4, j3⟩
        case round =>
          clear j2 j3 j4 J1 t1 t3 j1 hp i2 i3 i4 I1
          obtain ⟨p, s, rfl, rfl, I1, i2, i4, i3⟩ := hrel
          by_cases t1 : (4294967296 : Int) ≤ (p : Int)
          · have j1 : Q0 + 1 ≤ p := by rw [HQ0.out]; exact guess_lt b1.out I1.out HR1.out b5.out (Or.inl (by omega))
            by_cases t3 : (4294967296 : Int) ≤ (s : Int) + (Y1 : Int)
            · have hp : (p : Int) - 1 = (Q0 : Int) := by
                have := guess_big (L1 := L0) (q := p - 1) (r := s + Y1) b1.out (by
                  have := I1.out
                  have e : p * Y1 = (p - 1) * Y1 + Y1 := by rw [← Nat.succ_mul]; congr 1; omega
                  omega) HR1.out b3.out (by rw [← HQ0.out]; omega) (by omega)
                rw [← HQ0.out] at this
                omega
              have eF := kF.out
              go_wp2
              rw [fQ.out, fR.out]
              go_ret2
              exact ⟨rfl, rfl⟩
            · have I2 : Hid ((p - 1) * Y1 + (s + Y1) = R1) := by
                show (p - 1) * Y1 + (s + Y1) = R1
                have := I1.out
                have e : p * Y1 = (p - 1) * Y1 + Y1 := by rw [← Nat.succ_mul]; congr 1; omega
                omega
              go_wp2
              go_round
              case rel => exact ⟨p - 1, s + Y1, by go_num, by go_num, I2, by omega, by omega, by omega⟩
              case measure => simp [intOf]; omega
          · obtain ⟨A, hA⟩ : ∃ x, x = p * Y0 := ⟨_, rfl⟩
            have eA : IntKind.u64.wrap ((p : Int) * (Y0 : Int)) = (A : Int) := by rw [hA]; exact wrap_mul (by omega) b3.out
            have hA2 : Hid (A = p * Y0) := hA
            clear hA
            by_cases t2 : 4294967296 * (s : Int) + (L0 : Int) < (A : Int)
            · have j1 : Q0 + 1 ≤ p := by rw [HQ0.out]; exact guess_lt b1.out I1.out HR1.out b5.out (Or.inr (by rw [← hA2.out]; omega))
              by_cases t3 : (4294967296 : Int) ≤ (s : Int) + (Y1 : Int)
              · have hp : (p : Int) - 1 = (Q0 : Int) := by
                  have := guess_big (L1 := L0) (q := p - 1) (r := s + Y1) b1.out (by
                    have := I1.out
                    have e : p * Y1 = (p - 1) * Y1 + Y1 := by rw [← Nat.succ_mul]; congr 1; omega
                    omega) HR1.out b3.out (by rw [← HQ0.out]; omega) (by omega)
                  rw [← HQ0.out] at this
                  omega
                have eF := kF.out
                go_wp2
                rw [fQ.out, fR.out]
                go_ret2
                exact ⟨rfl, rfl⟩
              · have I2 : Hid ((p - 1) * Y1 + (s + Y1) = R1) := by
                  show (p - 1) * Y1 + (s + Y1) = R1
                  have := I1.out
                  have e : p * Y1 = (p - 1) * Y1 + Y1 := by rw [← Nat.succ_mul]; congr 1; omega
                  omega
                go_wp2
                go_round
                case rel => exact ⟨p - 1, s + Y1, by go_num, by go_num, I2, by omega, by omega, by omega⟩
                case measure => simp [intOf]; omega
            · have hp : p = Q0 := by rw [HQ0.out]; exact guess_eq b1.out I1.out (by rw [← HQ0.out]; exact i2) (by rw [← hA2.out]; omega)
              subst hp
              have eF := kF.out
              go_wp2
              rw [fQ.out, fR.out]
              go_ret2
              exact ⟨rfl, rfl⟩
      · have I2 : Hid ((p - 1) * Y1 + (s + Y1) = N) := by
          show (p - 1) * Y1 + (s + Y1) = N
          have := I1.out
          have e : p * Y1 = (p - 1) * Y1 + Y1 := by rw [← Nat.succ_mul]; congr 1; omega
          omega
        go_wp2
        go_round
        case rel => exact ⟨p - 1, s + Y1, by go_num, by go_num, I2, by omega, by omega, by omega⟩
        case measure => simp [intOf]; omega
    · obtain ⟨A, hA⟩ : ∃ x, x = p * Y0 := ⟨_, rfl⟩
      have eA : IntKind.u64.wrap ((p : Int) * (Y0 : Int)) = (A : Int) := by rw [hA]; exact wrap_mul (by omega) b3.out
      have hA2 : Hid (A = p * Y0) := hA
      clear hA
      by_cases t2 : 4294967296 * (s : Int) + (L1 : Int) < (A : Int)
      · have j1 : Q1 + 1 ≤ p := by rw [HQ1.out]; exact guess_lt b1.out I1.out HN.out b4.out (Or.inr (by rw [← hA2.out]; omega))
        by_cases t3 : (4294967296 : Int) ≤ (s : Int) + (Y1 : Int)
        · have hp : (p : Int) - 1 = (Q1 : Int) := by
            have := guess_big (L1 := L1) (q := p - 1) (r := s + Y1) b1.out (by
              have := I1.out
              have e : p * Y1 = (p - 1) * Y1 + Y1 := by rw [← Nat.succ_mul]; congr 1; omega
              omega) HN.out b3.out (by rw [← HQ1.out]; omega) (by omega)
            rw [← HQ1.out] at this
            omega
          have eU := kU.out
          have eq2 := kq2.out
          have er2 := kr2.out
          go_wp2
          clear eU eq2 er2
          go_loop [18, 16] (fun a b => ∃ q r : Nat, a = .int .u64 q ∧ b = .int .u64 r ∧ Hid (q * Y1 + r = R1) ∧ Q0 ≤ q ∧ (q : Int) < 8589934592 ∧ (r : Int) < 4294967296) (fun a _ => (intOf a).toNat)
          case atStart => exact ⟨q2, r2, rfl, rfl, J1, j2, j4, j3⟩
          case round =>
            clear j2 j3 j4 J1 t1 t3 j1 hp i2 i3 i4 I1
            obtain ⟨p, s, rfl, rfl, I1, i2, i4, i3⟩ := hrel
            by_cases t1 : (4294967296 : Int) ≤ (p : Int)
            · have j1 : Q0 + 1 ≤ p := by rw [HQ0.out]; exact guess_lt b1.out I1.out HR1.out b5.out (Or.inl (by omega))
              by_cases t3 : (4294967296 : Int) ≤ (s : Int) + (Y1 : Int)
              · have hp : (p : Int) - 1 = (Q0 : Int) := by
                  have := guess_big (L1 := L0) (q := p - 1) (r := s + Y1) b1.out (by
                    have := I1.out
                    have e : p * Y1 = (p - 1) * Y1 + Y1 := by rw [← Nat.succ_mul]; congr 1; omega
                    omega) HR1.out b3.out (by rw [← HQ0.out]; omega) (by omega)
                  rw [← HQ0.out] at this
                  omega
                have eF := kF.out
                go_wp2
                rw [fQ.out, fR.out]
                go_ret2
                exact ⟨rfl, rfl⟩
              · have I2 : Hid ((p - 1) * Y1 + (s + Y1) = R1) := by
                  show (p - 1) * Y1 + (s + Y1) = R1
                  have := I1.out
                  have e : p * Y1 = (p - 1) * Y1 + Y1 := by rw [← Nat.succ_mul]; congr 1; omega
                  omega
                go_wp2
                go_round
                case rel => exact ⟨p - 1, s + Y1, by go_num, by go_num, I2, by omega, by omega, by omega⟩
                case measure => simp [intOf]; omega
            · obtain ⟨A, hA⟩ : ∃ x, x = p * Y0 := ⟨_, rfl⟩
              have eA : IntKind.u64.wrap ((p : Int) * (Y0 : Int)) = (A : Int) := by rw [hA]; exact wrap_mul (by omega) b3.out
              have hA2 : Hid (A = p * Y0) := hA
              clear hA
              by_cases t2 : 4294967296 * (s : Int) + (L0 : Int) < (A : Int)
              · have j1 : Q0 + 1 ≤ p := by rw [HQ0.out]; exact guess_lt b1.out I1.out HR1.out b5.out (Or.inr (by rw [← hA2.out]; omega))
                by_cases t3 : (4294967296 : Int) ≤ (s : Int) + (Y1 : Int)
                · have hp : (p : Int) - 1 = (Q0 : Int) := by
                    have := guess_big (L1 := L0) (q := p - 1) (r := s + Y1) b1.out (by
                      have := I1.out
                      have e : p * Y1 = (p - 1) * Y1 + Y1 := by rw [← Nat.succ_mul]; congr 1; omega
                      omega) HR1.out b3.out (by rw [← HQ0.out]; omega) (by omega)
                    rw [← HQ0.out] at this
                    omega
                  have eF := kF.out
                  go_wp2
                  rw [fQ.out, fR.out]
                  go_ret2
                  exact ⟨rfl, rfl⟩
                · have I2 : Hid ((p - 1) * Y1 + (s + Y1) = R1) := by
                    show (p - 1) * Y1 + (s + Y1) = R1
                    have := I1.out
                    have e : p * Y1 = (p - 1) * Y1 + Y1 := by rw [← Nat.succ_mul]; congr 1; omega
                    omega
                  go_wp2
                  go_round
                  case rel => exact ⟨p - 1, s + Y1, by go_num, by go_num, I2, by omega, by omega, by omega⟩
                  case measure => simp [intOf]; omega
              · have hp : p = Q0 := by rw [HQ0.out]; exact guess_eq b1.out I1.out (by rw [← HQ0.out]; exact i2) (by rw [← hA2.out]; omega)
                subst hp
                have eF := kF.out
                go_wp2
                rw [fQ.out, fR.out]
                go_ret2
                exact ⟨rfl, rfl⟩
        · have I2 : Hid ((p - 1) * Y1 + (s + Y1) = N) := by
            show (p - 1) * Y1 + (s + Y1) = N
            have := I1.out
            have e : p * Y1 = (p - 1) * Y1 + Y1 := by rw [← Nat.succ_mul]; congr 1; omega
            omega
          go_wp2
          go_round
          case rel => exact ⟨p - 1, s + Y1, by go_num, by go_num, I2, by omega, by omega, by omega⟩
          case measure => simp [intOf]; omega
      · have hp : p = Q1 := by rw [HQ1.out]; exact guess_eq b1.out I1.out (by rw [← HQ1.out]; exact i2) (by rw [← hA2.out]; omega)
        subst hp
        have eU := kU.out
        have eq2 := kq2.out
        have er2 := kr2.out
        go_wp2
        clear eU eq2 er2
        go_loop [18, 16] (fun a b => ∃ q r : Nat, a = .int .u64 q ∧ b = .int .u64 r ∧ Hid (q * Y1 + r = R1) ∧ Q0 ≤ q ∧ (q : Int) < 8589934592 ∧ (r : Int) < 4294967296) (fun a _ => (intOf a).toNat)
        case atStart => exact ⟨q2, r2, rfl, rfl, J1, j2, j4, j3⟩
        case round =>
          clear j2 j3 j4 J1 t1 t2 i2 i3 i4 I1 eA hA2
          obtain ⟨p, s, rfl, rfl, I1, i2, i4, i3⟩ := hrel
          by_cases t1 : (4294967296 : Int) ≤ (p : Int)
          · have j1 : Q0 + 1 ≤ p := by rw [HQ0.out]; exact guess_lt b1.out I1.out HR1.out b5.out (Or.inl (by omega))
            by_cases t3 : (4294967296 : Int) ≤ (s : Int) + (Y1 : Int)
            · have hp : (p : Int) - 1 = (Q0 : Int) := by
                have := guess_big (L1 := L0) (q := p - 1) (r := s + Y1) b1.out (by
                  have := I1.out
                  have e : p * Y1 = (p - 1) * Y1 + Y1 := by rw [← Nat.succ_mul]; congr 1; omega
                  omega) HR1.out b3.out (by rw [← HQ0.out]; omega) (by omega)
                rw [← HQ0.out] at this
                omega
              have eF := kF.out
              go_wp2
              rw [fQ.out, fR.out]
              go_ret2
              exact ⟨rfl, rfl⟩
            · have I2 : Hid ((p - 1) * Y1 + (s + Y1) = R1) := by
                show (p - 1) * Y1 + (s + Y1) = R1
                have := I1.out
                have e : p * Y1 = (p - 1) * Y1 + Y1 := by rw [← Nat.succ_mul]; congr 1; omega
                omega
              go_wp2
              go_round
              case rel => exact ⟨p - 1, s + Y1, by go_num, by go_num, I2, by omega, by omega, by omega⟩
              case measure => simp [intOf]; omega
          · obtain ⟨A, hA⟩ : ∃ x, x = p * Y0 := ⟨_, rfl⟩
            have eA : IntKind.u64.wrap ((p : Int) * (Y0 : Int)) = (A : Int) := by rw [hA]; exact wrap_mul (by omega) b3.out
            have hA2 : Hid (A = p * Y0) := hA
            clear hA
            by_cases t2 : 4294967296 * (s : Int) + (L0 : Int) < (A : Int)
            · have j1 : Q0 + 1 ≤ p := by rw [HQ0.out]; exact guess_lt b1.out I1.out HR1.out b5.out (Or.inr (by rw [← hA2.out]; omega))
              by_cases t3 : (4294967296 : Int) ≤ (s : Int) + (Y1 : Int)
              · have hp : (p : Int) - 1 = (Q0 : Int) := by
                  have := guess_big (L1 := L0) (q := p - 1) (r := s + Y1) b1.out (by
                    have := I1.out
                    have e : p * Y1 = (p - 1) * Y1 + Y1 := by rw [← Nat.succ_mul]; congr 1; omega
                    omega) HR1.out b3.out (by rw [← HQ0.out]; omega) (by omega)
                  rw [← HQ0.out] at this
                  omega
                have eF := kF.out
                go_wp2
                rw [fQ.out, fR.out]
                go_ret2
                exact ⟨rfl, rfl⟩
              · have I2 : Hid ((p - 1) * Y1 + (s + Y1) = R1) := by
                  show (p - 1) * Y1 + (s + Y1) = R1
                  have := I1.out
                  have e : p * Y1 = (p - 1) * Y1 + Y1 := by rw [← Nat.succ_mul]; congr 1; omega
                  omega
                go_wp2
                go_round
                case rel => exact ⟨p - 1, s + Y1, by go_num, by go_num, I2, by omega, by omega, by omega⟩
                case measure => simp [intOf]; omega
            · have hp : p = Q0 := by rw [HQ0.out]; exact guess_eq b1.out I1.out (by rw [← HQ0.out]; exact i2) (by rw [← hA2.out]; omega)
              subst hp
              have eF := kF.out
              go_wp2
              rw [fQ.out, fR.out]
              go_ret2
              exact ⟨rfl, rfl⟩
end Go.Proofs.YtbgglghapjfdeaaDoor
/- The contracts of the wide numbers' bits, shifts and products by a word (package dec). -/
namespace Go.Proofs.YtbgglghapjfdeaaDoor
open Go.RowKit
set_option linter.unusedVariables false

theorem or_bit (a b : Nat) (hb : b ≤ 1) : bits .or .u64 (IntKind.u64.wrap ((a : Int) * 2)) (b : Int) = (((2 * a + b) % B : Nat) : Int) := by
  have e : IntKind.u64.wrap ((a : Int) * 2) = ((2 * (a % 9223372036854775808) : Nat) : Int) := by rw [IntKind.wrap_u64]; omega
  rw [e, bits_or_u64_nat _ _ (by omega) (by omega)]
  have h := Nat.two_pow_add_eq_or_of_lt (i := 1) (b := b) (by omega) (a % 9223372036854775808)
  simp only [Nat.pow_one] at h
  rw [← h, B_eq]
  omega
theorem shift_w0 (m b : Nat) (hb : b ≤ 1) : bits .or .u64 (IntKind.u64.wrap (wd m 0 * 2)) (b : Int) = wd (2 * m + b) 0 := by
  rw [wd_wn, or_bit _ _ hb]
  have := shift_lo m b 0 hb
  rw [sbit_zero] at this
  rw [this, wd_wn]
theorem shift_w (m b i : Nat) (hb : b ≤ 1) : bits .or .u64 (IntKind.u64.wrap (wd m (i + 1) * 2)) (wd m i / 9223372036854775808) = wd (2 * m + b) (i + 1) := by
  have e : wd m i / 9223372036854775808 = ((sbit m b (i + 1) : Nat) : Int) := by rw [← shift_hi m b i hb, wd_wn]; omega
  rw [e, wd_wn, or_bit _ _ (sbit_le m b _ hb), shift_lo m b _ hb, wd_wn]

theorem zero_word {m i : Nat} (h : m / B ^ (i + 1) = 0) (hw : (wd m i != 0) = false) : m / B ^ i = 0 := by
  have : wd m i = 0 := by simpa using hw
  rw [wd_wn] at this
  rw [top_split, h]; omega
theorem bits_word {m i : Nat} (h : m / B ^ (i + 1) = 0) (hw : (wd m i != 0) = true) : bl m = i * 64 + bl (wd m i).toNat := by
  have hne : wn m i ≠ 0 := by
    intro e; rw [bne_iff_ne] at hw; apply hw; rw [wd_wn, e]; rfl
  rw [bl_word h hne, wd_wn, Int.toNat_natCast]

/-! times a word -/
theorem tw_lo (m x i : Nat) : (((wn m i * x % 18446744073709551616 : Nat) : Int) + ((tcar m x i : Nat) : Int) + 0) % 18446744073709551616 = wd (m * x) i := by
  have h := tword_lo m x i
  have h2 := (mulAdd (wn m i) x (tcar m x i)).1
  rw [h, B_eq] at h2
  rw [wd_wn, ← h2]; omega
theorem tw_hi (m x i : Nat) : ((wn m i * x / 18446744073709551616 : Nat) : Int) + (((wn m i * x % 18446744073709551616 : Nat) : Int) + ((tcar m x i : Nat) : Int) + 0) / 18446744073709551616 = ((tcar m x (i + 1) : Nat) : Int) := by
  have h := tword_hi m x i
  have h2 := (mulAdd (wn m i) x (tcar m x i)).2
  rw [h, B_eq] at h2
  rw [← h2]; omega
def tlo (m x i : Nat) : Int := ((wn m i * x % 18446744073709551616 : Nat) : Int)
def thi (m x i : Nat) : Int := ((wn m i * x / 18446744073709551616 : Nat) : Int)
def tmore (m x i : Nat) : Int := (((wn m i * x % 18446744073709551616 : Nat) : Int) + ((tcar m x i : Nat) : Int) + 0) / 18446744073709551616
def tci (m x i : Nat) : Int := ((tcar m x i : Nat) : Int)

end Go.Proofs.YtbgglghapjfdeaaDoor
/- Five words in memory: what is kept of them, and what is laid. -/
namespace Go.Proofs.YtbgglghapjfdeaaDoor
open Go.RowKit
set_option linter.unusedVariables false

/-- Block b of the world w holds the five words of n from cell o on, and they may be written. -/
structure Row5 (w : World) (b o n : Nat) : Prop where
  c0 : w.cell? ⟨b, o, none⟩ = some (.int .u64 (wd n 0))
  c1 : w.cell? ⟨b, o + 1, none⟩ = some (.int .u64 (wd n 1))
  c2 : w.cell? ⟨b, o + 2, none⟩ = some (.int .u64 (wd n 2))
  c3 : w.cell? ⟨b, o + 3, none⟩ = some (.int .u64 (wd n 3))
  c4 : w.cell? ⟨b, o + 4, none⟩ = some (.int .u64 (wd n 4))
  f0 : w.frozen? ⟨b, o, none⟩ = false
  f1 : w.frozen? ⟨b, o + 1, none⟩ = false
  f2 : w.frozen? ⟨b, o + 2, none⟩ = false
  f3 : w.frozen? ⟨b, o + 3, none⟩ = false
  f4 : w.frozen? ⟨b, o + 4, none⟩ = false

theorem Row5.below {w w' : World} {b o n k : Nat} (h : Row5 w b o n) (hb : Below k w w') (hk : b < k) : Row5 w' b o n := by
  have hc : ∀ j, w'.cell? ⟨b, j, none⟩ = w.cell? ⟨b, j, none⟩ := fun j => hb.cell (p := ⟨b, j, none⟩) hk
  have hf : ∀ j, w'.frozen? ⟨b, j, none⟩ = w.frozen? ⟨b, j, none⟩ := fun j => hb.frozen (p := ⟨b, j, none⟩) hk
  obtain ⟨c0, c1, c2, c3, c4, f0, f1, f2, f3, f4⟩ := h
  constructor <;> simp only [hc, hf] <;> assumption


theorem Row5.drew {w : World} {b o n : Nat} (h : Row5 w b o n) : Row5 w.drew b o n := ⟨h.c0, h.c1, h.c2, h.c3, h.c4, h.f0, h.f1, h.f2, h.f3, h.f4⟩
theorem Row5.drewN {w : World} {b o n : Nat} (h : Row5 w b o n) (k : Nat) : Row5 (w.drewN k) b o n := ⟨h.c0, h.c1, h.c2, h.c3, h.c4, h.f0, h.f1, h.f2, h.f3, h.f4⟩

theorem Row5.keep {w w' : World} {b o n : Nat} (h : Row5 w b o n) (e : w'.heap[b]? = w.heap[b]?) : Row5 w' b o n := by
  have hc : ∀ j, w'.cell? ⟨b, j, none⟩ = w.cell? ⟨b, j, none⟩ := fun j => World.cell?_of_block (w := w) (w' := w') (a := ⟨b, j, none⟩) e
  have hf : ∀ j, w'.frozen? ⟨b, j, none⟩ = w.frozen? ⟨b, j, none⟩ := fun j => World.frozen?_of_block (w := w) (w' := w') (a := ⟨b, j, none⟩) e
  obtain ⟨c0, c1, c2, c3, c4, f0, f1, f2, f3, f4⟩ := h
  constructor <;> simp only [hc, hf] <;> assumption

theorem undrew {w w' : World} (h : Below w.drew.heap.size w.drew w') : Below w.heap.size w w' := ⟨h.os, h.tape, h.output, h.size, h.block⟩

theorem Row5.zero {w : World} {b n : Nat} (h : Row5 w b 0 n) :
    w.cell? ⟨b, 0, none⟩ = some (.int .u64 (wd n 0)) ∧ w.cell? ⟨b, 1, none⟩ = some (.int .u64 (wd n 1)) ∧ w.cell? ⟨b, 2, none⟩ = some (.int .u64 (wd n 2)) ∧
    w.cell? ⟨b, 3, none⟩ = some (.int .u64 (wd n 3)) ∧ w.cell? ⟨b, 4, none⟩ = some (.int .u64 (wd n 4)) ∧
    w.frozen? ⟨b, 0, none⟩ = false ∧ w.frozen? ⟨b, 1, none⟩ = false ∧ w.frozen? ⟨b, 2, none⟩ = false ∧ w.frozen? ⟨b, 3, none⟩ = false ∧ w.frozen? ⟨b, 4, none⟩ = false :=
  ⟨h.c0, h.c1, h.c2, h.c3, h.c4, h.f0, h.f1, h.f2, h.f3, h.f4⟩

theorem Row5.nth {w : World} {b n : Nat} (h : Row5 w b 0 n) (k : Nat) (hk : k < 5) : w.cell? ⟨b, k, none⟩ = some (.int .u64 (wd n k)) := by
  obtain ⟨c0, c1, c2, c3, c4, -, -, -, -, -⟩ := h.zero
  match k, hk with
  | 0, _ => exact c0
  | 1, _ => exact c1
  | 2, _ => exact c2
  | 3, _ => exact c3
  | 4, _ => exact c4
theorem Row5.nthf {w : World} {b n : Nat} (h : Row5 w b 0 n) (k : Nat) (hk : k < 5) : w.frozen? ⟨b, k, none⟩ = false := by
  obtain ⟨-, -, -, -, -, c0, c1, c2, c3, c4⟩ := h.zero
  match k, hk with
  | 0, _ => exact c0
  | 1, _ => exact c1
  | 2, _ => exact c2
  | 3, _ => exact c3
  | 4, _ => exact c4

theorem Row5.setCell {w : World} {b o n : Nat} (h : Row5 w b o n) {p : Addr} (hp : p.block ≠ b) (v : Value) : Row5 (w.setCell p v) b o n := by
  have hc : ∀ j, (w.setCell p v).cell? ⟨b, j, none⟩ = w.cell? ⟨b, j, none⟩ := fun j => World.cell?_setCell_other _ _ _ _ (by intro e; apply hp; rw [e])
  obtain ⟨c0, c1, c2, c3, c4, f0, f1, f2, f3, f4⟩ := h
  constructor <;> simp only [hc, World.frozen?_setCell] <;> assumption

/-- The five words of n laid into block b from cell o on. -/
def set5 (w : World) (b o n : Nat) : World :=
  ((((w.setCell ⟨b, o, none⟩ (.int .u64 (wd n 0))).setCell ⟨b, o + 1, none⟩ (.int .u64 (wd n 1))).setCell ⟨b, o + 2, none⟩ (.int .u64 (wd n 2))).setCell ⟨b, o + 3, none⟩ (.int .u64 (wd n 3))).setCell ⟨b, o + 4, none⟩ (.int .u64 (wd n 4))

theorem ne_addr {b i j : Nat} (h : i ≠ j) : (⟨b, i, none⟩ : Addr) ≠ ⟨b, j, none⟩ := by
  intro e; apply h; exact congrArg Addr.off e

theorem Row5.laid {w : World} {b o k : Nat} (h : Row5 w b o k) (n : Nat) : Row5 (set5 w b o n) b o n := by
  obtain ⟨c0, c1, c2, c3, c4, f0, f1, f2, f3, f4⟩ := h
  have s : ∀ (u : World) (i : Nat) (v x : Value), u.cell? ⟨b, i, none⟩ = some x → (u.setCell ⟨b, i, none⟩ v).cell? ⟨b, i, none⟩ = some v := fun u i v x hx => World.cell?_setCell_same _ _ _ hx
  have t : ∀ (u : World) (i j : Nat) (v : Value), i ≠ j → (u.setCell ⟨b, i, none⟩ v).cell? ⟨b, j, none⟩ = u.cell? ⟨b, j, none⟩ := fun u i j v hij => World.cell?_setCell_other _ _ _ _ (ne_addr hij)
  unfold set5
  constructor
  · rw [t _ _ _ _ (by omega), t _ _ _ _ (by omega), t _ _ _ _ (by omega), t _ _ _ _ (by omega), s _ _ _ _ c0]
  · rw [t _ _ _ _ (by omega), t _ _ _ _ (by omega), t _ _ _ _ (by omega), s _ _ _ _ (by rw [t _ _ _ _ (by omega)]; exact c1)]
  · rw [t _ _ _ _ (by omega), t _ _ _ _ (by omega), s _ _ _ _ (by rw [t _ _ _ _ (by omega), t _ _ _ _ (by omega)]; exact c2)]
  · rw [t _ _ _ _ (by omega), s _ _ _ _ (by rw [t _ _ _ _ (by omega), t _ _ _ _ (by omega), t _ _ _ _ (by omega)]; exact c3)]
  · rw [s _ _ _ _ (by rw [t _ _ _ _ (by omega), t _ _ _ _ (by omega), t _ _ _ _ (by omega), t _ _ _ _ (by omega)]; exact c4)]
  all_goals (simp only [World.frozen?_setCell]; assumption)

theorem Row5.laid_other {w : World} {b o n : Nat} (h : Row5 w b o n) {b' : Nat} (hb : b' ≠ b) (o' n' : Nat) : Row5 (set5 w b' o' n') b o n :=
  ((((h.setCell (p := ⟨b', o', none⟩) hb _).setCell (p := ⟨b', o' + 1, none⟩) hb _).setCell (p := ⟨b', o' + 2, none⟩) hb _).setCell (p := ⟨b', o' + 3, none⟩) hb _).setCell (p := ⟨b', o' + 4, none⟩) hb _
theorem size_set5 (w : World) (b o n : Nat) : (set5 w b o n).heap.size = w.heap.size := by simp [set5]
theorem below_set5 {k : Nat} {w w' : World} (h : Below k w w') {b : Nat} (hb : k ≤ b) (o n : Nat) : Below k w (set5 w' b o n) :=
  ((((h.setCell (p := ⟨b, o, none⟩) hb _).setCell (p := ⟨b, o + 1, none⟩) hb _).setCell (p := ⟨b, o + 2, none⟩) hb _).setCell (p := ⟨b, o + 3, none⟩) hb _).setCell (p := ⟨b, o + 4, none⟩) hb _
theorem wd_zero (i : Nat) : wd 0 i = 0 := by simp [wd]
theorem Row5.congr {w : World} {b o n n' : Nat} (h : Row5 w b o n) (e : n = n') : Row5 w b o n' := e ▸ h
/-- A call's own blocks behind another call. -/
theorem bcell {W w1 : World} (hb : Below W.heap.size W w1) : (∀ b o, b < W.heap.size → w1.cell? ⟨b, o, none⟩ = W.cell? ⟨b, o, none⟩) ∧ (∀ b o, b < W.heap.size → w1.frozen? ⟨b, o, none⟩ = W.frozen? ⟨b, o, none⟩) :=
  ⟨fun b o h => hb.cell (p := ⟨b, o, none⟩) h, fun b o h => hb.frozen (p := ⟨b, o, none⟩) h⟩
end Go.Proofs.YtbgglghapjfdeaaDoor
/- The contracts of Div64 at every divisor above the high word, and of a wide number over a word (package dec). -/
namespace Go.Proofs.YtbgglghapjfdeaaDoor
open Go.RowKit
set_option linter.unusedVariables false

set_option maxHeartbeats 400000 in
set_option maxRecDepth 100000 in
theorem div64_small (lo y : Nat) (w : World) (h1 : 0 < y) (h2 : y ≤ 18446744073709551615) (h3 : lo ≤ 18446744073709551615) :
    Calls Tryd.prog 32 #[.int .u64 0, .int .u64 lo, .int .u64 y] w fun e w' => e = .returned (.tuple #[.int .u64 ((lo / y : Nat) : Int), .int .u64 ((lo % y : Nat) : Int)]) ∧ Below w.heap.size w w' := by
  have c0 : ((y : Int) == 0) = false := beq_eq_false_iff_ne.2 (by omega)
  have c1 : ¬ (y : Int) = 0 := by omega
  have c2 : ¬ (y : Int) ≤ 0 := by omega
  have e1 : IntKind.u64.wrap ((lo : Int) / (y : Int)) = ((lo / y : Nat) : Int) := wrap_ediv (by omega)
  have e2 : IntKind.u64.wrap ((lo : Int) % (y : Int)) = ((lo % y : Nat) : Int) := by
    have : lo % y < y := Nat.mod_lt _ h1
    rw [← Int.natCast_emod, IntKind.wrap_u64]
    generalize lo % y = z at *
    omega
  go_enter Tryd.func32, Tryd.ntmps32
  go_wp2
  go_quiet (fail)
  go_wp2
  go_ret2
  refine ⟨rfl, ?_⟩
  repeat (first | exact Below.refl _ _ | refine Below.drew ?_ | refine below_drewN ?_ _ | refine bel_alloc ?_ _ | refine bel_ext ?_ _ | (refine Below.setCell ?_ ?_ _; rotate_left; (simp <;> omega)))

theorem div64_any (hi lo y : Nat) (w : World) (h1 : hi < y) (h2 : y < B) (h3 : lo < B) :
    Calls Tryd.prog 32 #[.int .u64 hi, .int .u64 lo, .int .u64 y] w fun e w' => e = .returned (.tuple #[.int .u64 (((hi * B + lo) / y : Nat) : Int), .int .u64 (((hi * B + lo) % y : Nat) : Int)]) ∧ Below w.heap.size w w' := by
  rw [B_eq] at *
  rcases Nat.eq_zero_or_pos hi with rfl | h0
  · rw [Nat.zero_mul, Nat.zero_add]
    exact div64_small lo y w h1 (by omega) (by omega)
  · refine (div64_big hi lo y w h1 (by omega) (by omega) h0).mono ?_
    rintro e w' ⟨rfl, rfl⟩
    exact ⟨rfl, Below.refl _ _⟩

theorem wd_low (n : Nat) (h : n < B) : wd n 0 = (n : Int) := by simp [wd, Nat.mod_eq_of_lt h]
theorem wd_high (n i : Nat) (h : n < B) (hi : 0 < i) : wd n i = 0 := by
  have : n / B ^ i = 0 := Nat.div_eq_of_lt (Nat.lt_of_lt_of_le h (by
    have := Nat.pow_le_pow_right B_pos hi
    rwa [Nat.pow_one] at this))
  simp [wd, this]

/-! a wide number over a word: from the top word down -/
end Go.Proofs.YtbgglghapjfdeaaDoor
