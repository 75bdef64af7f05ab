/- The plain arithmetic under the wide numbers of package dec: words of 64 bits, their sums, differences, products, quotients. No program's run in this text. -/
import Derived.Lib.BitFns
import Derived.Test.YtlgcbbnnldlooaaDoorProg
import Derived.WalkKit
import Derived.WalkSpells
import Derived.WalkLawsBesides
import Derived.BigRegion
import Derived.BigQuiet
import Derived.Deep.QuietTactic
import Derived.Laws.Externs
import Derived.Shelf.Spec.BitsCarry
import Derived.Laws.Bits64b
import Derived.Shelf.Bits.Mul64
namespace Go.Proofs.YtlgcbbnnldlooaaDoor

/-- Two to the 64th, behind a name. -/
def B : Nat := 18446744073709551616
theorem B_eq : B = 18446744073709551616 := rfl
theorem B_pos : 0 < B := by decide

/-- The word number i of a natural number. -/
def wd (n i : Nat) : Int := ((n / B ^ i % B : Nat) : Int)

structure IsWord (x : Int) : Prop where
  lo : 0 ≤ x
  hi : x ≤ 18446744073709551615

theorem wd_isWord (n i : Nat) : IsWord (wd n i) := by
  have h : n / B ^ i % B < B := Nat.mod_lt _ B_pos
  rw [B_eq] at h
  constructor
  · exact Int.natCast_nonneg _
  · unfold wd; rw [B_eq] at *; omega

theorem split_mod (p m : Nat) : m % (p * B) = m % p + p * (m / p % B) := Nat.mod_mul

/-! sums -/
theorem plus_step (p m n : Nat) (hp : 0 < p) :
    (m / p % B + n / p % B + (m % p + n % p) / p) % B = (m + n) / p % B ∧
    (m / p % B + n / p % B + (m % p + n % p) / p) / B = (m % (p * B) + n % (p * B)) / (p * B) := by
  have e : (m + n) / p = m / p + n / p + (m % p + n % p) / p := by
    have h1 := Nat.div_add_mod m p
    have h2 := Nat.div_add_mod n p
    have : m + n = (m % p + n % p) + p * (m / p + n / p) := by rw [Nat.mul_add]; omega
    rw [this, Nat.add_mul_div_left _ _ hp]; omega
  constructor
  · rw [e]; simp [Nat.add_mod]
  · rw [split_mod, split_mod, ← Nat.div_div_eq_div_mul]
    have : m % p + p * (m / p % B) + (n % p + p * (n / p % B)) = (m % p + n % p) + p * (m / p % B + n / p % B) := by rw [Nat.mul_add]; omega
    rw [this, Nat.add_mul_div_left _ _ hp, Nat.add_comm ((m % p + n % p) / p)]

/-- The carry into word i of a sum. -/
def car (m n i : Nat) : Int := (((m % B ^ i + n % B ^ i) / B ^ i : Nat) : Int)
theorem car_zero (m n : Nat) : car m n 0 = 0 := by simp [car, Nat.mod_one]
theorem car_bd (m n i : Nat) : 0 ≤ car m n i ∧ car m n i ≤ 1 := by
  have hp : 0 < B ^ i := Nat.pow_pos B_pos
  have h1 := Nat.mod_lt m hp
  have h2 := Nat.mod_lt n hp
  have h : (m % B ^ i + n % B ^ i) / B ^ i < 2 := Nat.div_lt_of_lt_mul (by omega)
  unfold car
  generalize (m % B ^ i + n % B ^ i) / B ^ i = z at h
  omega
theorem plus_lo (m n i : Nat) : (wd m i + wd n i + car m n i) % 18446744073709551616 = wd (m + n) i := by
  have h := (plus_step (B ^ i) m n (Nat.pow_pos B_pos)).1
  unfold wd car
  rw [← h, B_eq]; omega
theorem plus_hi (m n i : Nat) : (wd m i + wd n i + car m n i) / 18446744073709551616 = car m n (i + 1) := by
  have h := (plus_step (B ^ i) m n (Nat.pow_pos B_pos)).2
  unfold wd car
  rw [Nat.pow_succ, ← h, B_eq]; omega

/-! differences -/
theorem minus_step (p m n : Nat) (hp : 0 < p) (h : n ≤ m) :
    (m / p % B + B - n / p % B - (if m % p < n % p then 1 else 0)) % B = (m - n) / p % B ∧
    (m / p % B < n / p % B + (if m % p < n % p then 1 else 0) ↔ m % (p * B) < n % (p * B)) := by
  have h1 := Nat.div_add_mod m p
  have h2 := Nat.div_add_mod n p
  have l1 := Nat.mod_lt m hp
  have l2 := Nat.mod_lt n hp
  have hB : 0 < B := B_pos
  generalize hM : m / p = M at *
  generalize hN : n / p = N at *
  generalize m % p = r at *
  generalize n % p = s at *
  have x1 := Nat.mod_lt M hB
  have y1 := Nat.mod_lt N hB
  have hle : N ≤ M := by rw [← hM, ← hN]; exact Nat.div_le_div_right h
  constructor
  · by_cases c : r < s
    · rw [if_pos c]
      have hlt : N + 1 ≤ M := by
        apply Nat.lt_of_le_of_ne hle
        intro e; subst e; omega
      have e : (m - n) / p = M - N - 1 := by
        have : m - n = (p + r - s) + p * (M - N - 1) := by
          have : p * M = p * N + p * (M - N - 1) + p := by
            rw [← Nat.mul_add, ← Nat.mul_succ]; congr 1; omega
          omega
        rw [this, Nat.add_mul_div_left _ _ hp, Nat.div_eq_of_lt (by omega)]; omega
      rw [e]
      have em := Nat.div_add_mod M B
      have en := Nat.div_add_mod N B
      generalize M % B = x at *
      generalize N % B = y at *
      have : M - N - 1 = B * (M / B) - B * (N / B) + x - y - 1 ∨ True := Or.inr trivial
      have key : (x + B - y - 1) + B * (M / B) = (M - N - 1) + B * (N / B + 1) := by rw [Nat.mul_add]; omega
      have := congrArg (· % B) key
      simpa [Nat.add_mul_mod_self_left] using this
    · rw [if_neg c]
      have e : (m - n) / p = M - N := by
        have : m - n = (r - s) + p * (M - N) := by
          have : p * M = p * N + p * (M - N) := by rw [← Nat.mul_add]; congr 1; omega
          omega
        rw [this, Nat.add_mul_div_left _ _ hp, Nat.div_eq_of_lt (by omega)]; omega
      rw [e]
      have em := Nat.div_add_mod M B
      have en := Nat.div_add_mod N B
      generalize M % B = x at *
      generalize N % B = y at *
      have key : (x + B - y - 0) + B * (M / B) = (M - N) + B * (N / B + 1) := by rw [Nat.mul_add]; omega
      have := congrArg (· % B) key
      simpa [Nat.add_mul_mod_self_left] using this
  · rw [split_mod, split_mod, hM, hN]
    have l1' : m % p < p := Nat.mod_lt m hp
    have l2' : n % p < p := Nat.mod_lt n hp
    have er : m % p = r := by
      have := Nat.div_add_mod m p; rw [hM] at this; omega
    have es : n % p = s := by
      have := Nat.div_add_mod n p; rw [hN] at this; omega
    rw [er, es]
    generalize M % B = x at *
    generalize N % B = y at *
    rcases Nat.lt_trichotomy x y with c | c | c
    · have : p * x + p ≤ p * y := by rw [← Nat.mul_succ]; exact Nat.mul_le_mul_left p c
      split <;> omega
    · subst c; split <;> omega
    · have : p * y + p ≤ p * x := by rw [← Nat.mul_succ]; exact Nat.mul_le_mul_left p c
      split <;> omega

/-- The borrow into word i of a difference. -/
def bor (m n i : Nat) : Int := if m % B ^ i < n % B ^ i then 1 else 0
theorem bor_zero (m n : Nat) : bor m n 0 = 0 := by simp [bor, Nat.mod_one]
theorem bor_bd (m n i : Nat) : 0 ≤ bor m n i ∧ bor m n i ≤ 1 := by unfold bor; split <;> omega
theorem minus_lo (m n i : Nat) (h : n ≤ m) : (wd m i + 18446744073709551616 - wd n i - bor m n i) % 18446744073709551616 = wd (m - n) i := by
  have e := (minus_step (B ^ i) m n (Nat.pow_pos B_pos) h).1
  have x1 := Nat.mod_lt (m / B ^ i) B_pos
  have y1 := Nat.mod_lt (n / B ^ i) B_pos
  unfold wd bor
  rw [← e, B_eq] at *
  split <;> omega
theorem minus_hi (m n i : Nat) (h : n ≤ m) : (if wd m i < wd n i + bor m n i then (1 : Int) else 0) = bor m n (i + 1) := by
  have e := (minus_step (B ^ i) m n (Nat.pow_pos B_pos) h).2
  unfold wd bor
  rw [Nat.pow_succ]
  have : (((m / B ^ i % B : Nat) : Int) < ((n / B ^ i % B : Nat) : Int) + (if m % B ^ i < n % B ^ i then 1 else 0)) ↔ m / B ^ i % B < n / B ^ i % B + (if m % B ^ i < n % B ^ i then 1 else 0) := by
    split <;> omega
  simp only [this, e]

/-! a word times a number -/
theorem times_step (p m x : Nat) (hp : 0 < p) :
    (m / p % B * x + m % p * x / p) % B = m * x / p % B ∧
    (m / p % B * x + m % p * x / p) / B = m % (p * B) * x / (p * B) := by
  constructor
  · have e : m * x / p = m / p * x + m % p * x / p := by
      have h1 := Nat.div_add_mod m p
      have : m * x = m % p * x + p * (m / p * x) := by
        rw [← Nat.mul_assoc, ← Nat.add_mul, Nat.add_comm (m % p), h1]
      rw [this, Nat.add_mul_div_left _ _ hp]; omega
    rw [e]; simp [Nat.add_mod, Nat.mul_mod]
  · rw [split_mod, ← Nat.div_div_eq_div_mul]
    have : (m % p + p * (m / p % B)) * x = m % p * x + p * (m / p % B * x) := by rw [Nat.add_mul, Nat.mul_assoc]
    rw [this, Nat.add_mul_div_left _ _ hp, Nat.add_comm (m % p * x / p)]

/-- The carry into word i of a product by a word. -/
def tcar (m x i : Nat) : Nat := m % B ^ i * x / B ^ i
theorem tcar_zero (m x : Nat) : tcar m x 0 = 0 := by simp [tcar, Nat.mod_one]
theorem tcar_lt (m x i : Nat) (hx : x < B) : tcar m x i < B := by
  have hp : 0 < B ^ i := Nat.pow_pos B_pos
  have h1 := Nat.mod_lt m hp
  unfold tcar
  apply Nat.div_lt_of_lt_mul
  by_cases x0 : x = 0
  · subst x0; rw [Nat.mul_zero]; exact Nat.mul_pos hp B_pos
  · exact Nat.lt_of_lt_of_le (Nat.mul_lt_mul_of_pos_right h1 (by omega)) (Nat.mul_le_mul_left _ (by omega))
def wn (n i : Nat) : Nat := n / B ^ i % B
theorem wn_lt (n i : Nat) : wn n i < B := Nat.mod_lt _ B_pos
theorem wd_wn (n i : Nat) : wd n i = (wn n i : Int) := rfl
theorem tword_lo (m x i : Nat) : (wn m i * x + tcar m x i) % B = wn (m * x) i := (times_step (B ^ i) m x (Nat.pow_pos B_pos)).1
theorem tword_hi (m x i : Nat) : (wn m i * x + tcar m x i) / B = tcar m x (i + 1) := by
  have := (times_step (B ^ i) m x (Nat.pow_pos B_pos)).2
  unfold tcar; rw [Nat.pow_succ]; exact this
/-- Mul64's two words and a carry, put together. -/
theorem mulAdd (a x c : Nat) : (a * x % B + c) % B = (a * x + c) % B ∧ a * x / B + (a * x % B + c) / B = (a * x + c) / B := by
  constructor
  · simp [Nat.add_mod]
  · have h := Nat.div_add_mod (a * x) B
    have : a * x + c = (a * x % B + c) + B * (a * x / B) := by omega
    rw [this, Nat.add_mul_div_left _ _ B_pos]; omega

/-! one bit shifted in -/
theorem shift_step (p m b : Nat) (hp : 0 < p) (hb : (2 * (m % p) + b) / p ≤ 1) :
    (2 * (m / p % B) + (2 * (m % p) + b) / p) % B = (2 * m + b) / p % B ∧
    m / p % B / 9223372036854775808 = (2 * (m % (p * B)) + b) / (p * B) := by
  have e : (2 * m + b) / p = 2 * (m / p) + (2 * (m % p) + b) / p := by
    have h1 := Nat.div_add_mod m p
    have : 2 * m + b = (2 * (m % p) + b) + p * (2 * (m / p)) := by
      have : p * (2 * (m / p)) = 2 * (p * (m / p)) := by rw [Nat.mul_left_comm]
      omega
    rw [this, Nat.add_mul_div_left _ _ hp]; omega
  constructor
  · rw [e]
    generalize (2 * (m % p) + b) / p = z at *
    rw [B_eq]; omega
  · rw [split_mod, ← Nat.div_div_eq_div_mul]
    have : 2 * (m % p + p * (m / p % B)) + b = (2 * (m % p) + b) + p * (2 * (m / p % B)) := by
      have : p * (2 * (m / p % B)) = 2 * (p * (m / p % B)) := by rw [Nat.mul_left_comm]
      omega
    rw [this, Nat.add_mul_div_left _ _ hp]
    generalize (2 * (m % p) + b) / p = z at *
    rw [B_eq]; omega
/-- The bit that goes into word i. -/
def sbit (m b i : Nat) : Nat := (2 * (m % B ^ i) + b) / B ^ i
theorem sbit_zero (m b : Nat) : sbit m b 0 = b := by simp [sbit, Nat.mod_one]
theorem sbit_le (m b i : Nat) (hb : b ≤ 1) : sbit m b i ≤ 1 := by
  have hp : 0 < B ^ i := Nat.pow_pos B_pos
  have h1 := Nat.mod_lt m hp
  have : sbit m b i < 2 := Nat.div_lt_of_lt_mul (by omega)
  omega
theorem shift_lo (m b i : Nat) (hb : b ≤ 1) : (2 * wn m i + sbit m b i) % B = wn (2 * m + b) i :=
  (shift_step (B ^ i) m b (Nat.pow_pos B_pos) (sbit_le m b i hb)).1
theorem shift_hi (m b i : Nat) (hb : b ≤ 1) : wn m i / 9223372036854775808 = sbit m b (i + 1) := by
  have := (shift_step (B ^ i) m b (Nat.pow_pos B_pos) (sbit_le m b i hb)).2
  unfold sbit; rw [Nat.pow_succ]; exact this

/-! a number over a word, from the top -/
theorem div_step (p m d : Nat) (hd : 0 < d) :
    ((m / (p * B) % d) * B + m / p % B) / d = m / d / p % B ∧ ((m / (p * B) % d) * B + m / p % B) % d = m / p % d := by
  have e : m / p = B * (m / (p * B)) + m / p % B := by rw [← Nat.div_div_eq_div_mul]; exact (Nat.div_add_mod _ _).symm
  have hR := Nat.mod_lt (m / (p * B)) hd
  have hX := Nat.div_add_mod (m / (p * B)) d
  have hw : m / p % B < B := Nat.mod_lt _ B_pos
  have e2 : m / p = (m / (p * B) % d * B + m / p % B) + d * (B * (m / (p * B) / d)) := by
    have h3 : B * (m / (p * B)) = B * (d * (m / (p * B) / d)) + B * (m / (p * B) % d) := by rw [← Nat.mul_add, hX]
    have h4 : B * (d * (m / (p * B) / d)) = d * (B * (m / (p * B) / d)) := Nat.mul_left_comm _ _ _
    have h5 : B * (m / (p * B) % d) = m / (p * B) % d * B := Nat.mul_comm _ _
    omega
  constructor
  · have : m / d / p = m / p / d := by rw [Nat.div_div_eq_div_mul, Nat.div_div_eq_div_mul, Nat.mul_comm]
    rw [this]
    have h6 : m / p / d = (m / (p * B) % d * B + m / p % B) / d + B * (m / (p * B) / d) := by
      conv => lhs; rw [e2]
      rw [Nat.add_mul_div_left _ _ hd]
    rw [h6, Nat.add_mul_mod_self_left]
    symm
    apply Nat.mod_eq_of_lt
    apply Nat.div_lt_of_lt_mul
    calc m / (p * B) % d * B + m / p % B < m / (p * B) % d * B + B := by omega
      _ = (m / (p * B) % d + 1) * B := by rw [Nat.add_mul, Nat.one_mul]
      _ ≤ d * B := Nat.mul_le_mul_right _ (by omega)
  · conv => rhs; rw [e2]
    rw [Nat.add_mul_mod_self_left]
theorem dword (m d i : Nat) (hd : 0 < d) : (m / B ^ (i + 1) % d * B + wn m i) / d = wn (m / d) i ∧ (m / B ^ (i + 1) % d * B + wn m i) % d = m / B ^ i % d := by
  have := div_step (B ^ i) m d hd
  rw [Nat.pow_succ]; exact this

/-! order, by the top words first -/
theorem top_split (m i : Nat) : m / B ^ i = B * (m / B ^ (i + 1)) + wn m i := by
  rw [Nat.pow_succ, ← Nat.div_div_eq_div_mul]; exact (Nat.div_add_mod _ _).symm
theorem lt_of_word {m n i : Nat} (h : m / B ^ (i + 1) = n / B ^ (i + 1)) (hw : wn m i < wn n i) : m < n := by
  have h1 := top_split m i
  have h2 := top_split n i
  rw [h] at h1
  exact Nat.lt_of_div_lt_div (c := B ^ i) (by omega)
theorem eq_of_word {m n i : Nat} (h : m / B ^ (i + 1) = n / B ^ (i + 1)) (hw : wn m i = wn n i) : m / B ^ i = n / B ^ i := by
  rw [top_split m i, top_split n i, h, hw]

/-! how many bits -/
def bl (n : Nat) : Nat := if n = 0 then 0 else n.log2 + 1
theorem bl_le (n k : Nat) : bl n ≤ k ↔ n < 2 ^ k := by
  unfold bl
  by_cases h : n = 0
  · subst h; simp; exact Nat.pow_pos (by decide)
  · rw [if_neg h, ← Nat.log2_lt h]; omega
theorem bl_unique {n k : Nat} (h : ∀ j, k ≤ j ↔ n < 2 ^ j) : bl n = k := by
  apply Nat.le_antisymm
  · exact (bl_le n k).2 ((h k).1 (Nat.le_refl _))
  · exact (h _).2 ((bl_le n _).1 (Nat.le_refl _))
theorem bitLen_bl : ∀ n, n < 2 ^ 64 → Lib.bitLen n = bl n := by
  intro n
  induction n using Nat.strongRecOn with
  | _ n ih =>
    intro h
    by_cases h0 : n = 0
    · subst h0; rfl
    · rw [Lib.bitLen_half n h0 h, ih (n / 2) (by omega) (by omega)]
      unfold bl
      rw [if_neg h0]
      by_cases h1 : n / 2 = 0
      · have : n = 1 := by omega
        subst this; rfl
      · rw [if_neg h1, Nat.log2_def n, if_pos (by omega)]; omega
/-- The top word that is not nought tells the bits. -/
theorem bl_word {n i : Nat} (h : n / B ^ (i + 1) = 0) (h0 : wn n i ≠ 0) : bl n = i * 64 + bl (wn n i) := by
  have e : n / B ^ i = wn n i := by rw [top_split, h]; simp
  have eB : B ^ i = 2 ^ (64 * i) := by rw [show B = 2 ^ 64 from rfl, ← Nat.pow_mul]
  apply bl_unique
  intro j
  constructor
  · intro hj
    have : wn n i < 2 ^ (j - i * 64) := (bl_le _ _).1 (by omega)
    rw [← e, eB, Nat.div_lt_iff_lt_mul (Nat.pow_pos (by decide)), ← Nat.pow_add] at this
    rw [show j - i * 64 + 64 * i = j by omega] at this
    exact this
  · intro hj
    by_cases c : i * 64 ≤ j
    · have : wn n i < 2 ^ (j - i * 64) := by
        rw [← e, eB, Nat.div_lt_iff_lt_mul (Nat.pow_pos (by decide)), ← Nat.pow_add, show j - i * 64 + 64 * i = j by omega]
        exact hj
      have := (bl_le _ _).2 this
      omega
    · exfalso
      apply h0
      rw [← e, eB]
      apply Nat.div_eq_of_lt
      exact Nat.lt_of_lt_of_le hj (Nat.pow_le_pow_right (by decide) (by omega))
theorem bl_zero {n : Nat} (h : n = 0) : bl n = 0 := by subst h; rfl
end Go.Proofs.YtlgcbbnnldlooaaDoor
/- The contracts of the wide numbers' sums, differences, order, bits, shifts and products by a word (package dec), and of the library's functions beneath them. -/
namespace Go.Proofs.YtlgcbbnnldlooaaDoor
open Go.RowKit

/-- The five words of a wide number. -/
structure IsW (m : Nat) (a0 a1 a2 a3 a4 : Int) : Prop where
  e0 : a0 = wd m 0
  e1 : a1 = wd m 1
  e2 : a2 = wd m 2
  e3 : a3 = wd m 3
  e4 : a4 = wd m 4
theorem IsW.self (m : Nat) : IsW m (wd m 0) (wd m 1) (wd m 2) (wd m 3) (wd m 4) := ⟨rfl, rfl, rfl, rfl, rfl⟩

theorem bel_alloc {a w : World} (h : Below a.heap.size a w) (o : Obj) : Below a.heap.size a (w.alloc o) := h.alloc h.size o

/-! the library's words -/
theorem run_Add64 (x y c : Int) (hx : 0 ≤ x) (hy : 0 ≤ y) (hc0 : 0 ≤ c) (hc : c ≤ 1) (w : World) :
    (callFunc 80 #[.int .u64 x, .int .u64 y, .int .u64 c]).run Tryd.prog w = .ok (.value (.tuple #[.int .u64 ((x + y + c) % 18446744073709551616), .int .u64 ((x + y + c) / 18446744073709551616)])) w := by
  rw [run_callFunc_extern Tryd.func80 (by kernel_rfl) (by kernel_rfl) (by kernel_rfl) (e := add64Entry) (by kernel_rfl), run_add64 x y c hx hy hc0 hc]
  rfl

theorem run_Sub64 (x y b : Int) (hx : IsWord x) (hy : IsWord y) (hb0 : 0 ≤ b) (hb : b ≤ 1) (w : World) :
    (callFunc 63 #[.int .u64 x, .int .u64 y, .int .u64 b]).run Tryd.prog w = .ok (.value (.tuple #[.int .u64 ((x + 18446744073709551616 - y - b) % 18446744073709551616), .int .u64 (if x < y + b then 1 else 0)])) w := by
  have hx0 := hx.lo; have hx1 := hx.hi; have hy0 := hy.lo; have hy1 := hy.hi
  obtain ⟨X, rfl⟩ := Int.eq_ofNat_of_zero_le hx0
  obtain ⟨Y, rfl⟩ := Int.eq_ofNat_of_zero_le hy0
  obtain ⟨b, rfl⟩ := Int.eq_ofNat_of_zero_le hb0
  rw [run_callFunc_extern Tryd.func63 (by kernel_rfl) (by kernel_rfl) (by kernel_rfl) (e := sub64Entry) (by kernel_rfl), run_sub64 X Y b (by omega)]
  simp only [Result.andThen]
  have e1 : (((X + 18446744073709551616 - Y - b) % 18446744073709551616 : Nat) : Int) = ((X : Int) + 18446744073709551616 - (Y : Int) - (b : Int)) % 18446744073709551616 := by omega
  have e2 : ((if X < Y + b then 1 else 0 : Nat) : Int) = if (X : Int) < (Y : Int) + (b : Int) then 1 else 0 := by
    by_cases c : X < Y + b
    · rw [if_pos c, if_pos (by omega)]; rfl
    · rw [if_neg c, if_neg (by omega)]; rfl
  rw [e1, e2]

/-! plus -/
set_option maxHeartbeats 400000 in
set_option maxRecDepth 100000 in
theorem plus_any (m n : Nat) (a0 a1 a2 a3 a4 b0 b1 b2 b3 b4 : Int) (w : World) (ha : IsW m a0 a1 a2 a3 a4) (hb : IsW n b0 b1 b2 b3 b4) :
    Calls Tryd.prog 74 #[.agg #[.int .u64 a0, .int .u64 a1, .int .u64 a2, .int .u64 a3, .int .u64 a4], .agg #[.int .u64 b0, .int .u64 b1, .int .u64 b2, .int .u64 b3, .int .u64 b4]] w
      fun e w' => e = .returned (.agg #[.int .u64 (wd (m + n) 0), .int .u64 (wd (m + n) 1), .int .u64 (wd (m + n) 2), .int .u64 (wd (m + n) 3), .int .u64 (wd (m + n) 4)]) ∧ Below w.heap.size w w' := by
  obtain ⟨rfl, rfl, rfl, rfl, rfl⟩ := ha
  obtain ⟨rfl, rfl, rfl, rfl, rfl⟩ := hb
  have hr : ∀ i w, (callFunc 80 #[.int .u64 (wd m i), .int .u64 (wd n i), .int .u64 (car m n i)]).run Tryd.prog w = .ok (.value (.tuple #[.int .u64 (wd (m + n) i), .int .u64 (car m n (i + 1))])) w := by
    intro i w
    rw [run_Add64 _ _ _ (wd_isWord m i).lo (wd_isWord n i).lo (car_bd m n i).1 (car_bd m n i).2, plus_lo, plus_hi]
  have hr0 := hr 0
  rw [car_zero] at hr0
  have hr1 := hr 1
  have hr2 := hr 2
  have hr3 := hr 3
  have hr4 := hr 4
  clear hr
  go_enter Tryd.func74, Tryd.ntmps74
  go_wp2
  refine wp_loop_rounds 6 ?_
  iterate 5
    rw [rounds_succ]
    go_wp2
    go_region
    go_wp2
  rw [rounds_succ]
  go_wp2
  refine bodyPost_ret (v := .agg _) (by simp [results, Tryd.results74, go_sem]) rfl ⟨rfl, ?_⟩
  repeat (first | exact Below.refl _ _ | refine Below.drew ?_ | refine below_drewN ?_ _ | refine bel_alloc ?_ _ | refine bel_ext ?_ _ | (refine Below.setCell ?_ ?_ _; rotate_left; (simp <;> omega)))

/-! minus -/
set_option maxHeartbeats 400000 in
set_option maxRecDepth 100000 in
theorem minus_any (m n : Nat) (a0 a1 a2 a3 a4 b0 b1 b2 b3 b4 : Int) (w : World) (ha : IsW m a0 a1 a2 a3 a4) (hb : IsW n b0 b1 b2 b3 b4) (hmn : n ≤ m) :
    Calls Tryd.prog 76 #[.agg #[.int .u64 a0, .int .u64 a1, .int .u64 a2, .int .u64 a3, .int .u64 a4], .agg #[.int .u64 b0, .int .u64 b1, .int .u64 b2, .int .u64 b3, .int .u64 b4]] w
      fun e w' => e = .returned (.agg #[.int .u64 (wd (m - n) 0), .int .u64 (wd (m - n) 1), .int .u64 (wd (m - n) 2), .int .u64 (wd (m - n) 3), .int .u64 (wd (m - n) 4)]) ∧ Below w.heap.size w w' := by
  obtain ⟨rfl, rfl, rfl, rfl, rfl⟩ := ha
  obtain ⟨rfl, rfl, rfl, rfl, rfl⟩ := hb
  have hr : ∀ i w, (callFunc 63 #[.int .u64 (wd m i), .int .u64 (wd n i), .int .u64 (bor m n i)]).run Tryd.prog w = .ok (.value (.tuple #[.int .u64 (wd (m - n) i), .int .u64 (bor m n (i + 1))])) w := by
    intro i w
    rw [run_Sub64 _ _ _ (wd_isWord m i) (wd_isWord n i) (bor_bd m n i).1 (bor_bd m n i).2, minus_lo _ _ _ hmn, minus_hi _ _ _ hmn]
  have hr0 := hr 0
  rw [bor_zero] at hr0
  have hr1 := hr 1
  have hr2 := hr 2
  have hr3 := hr 3
  have hr4 := hr 4
  clear hr hmn
  go_enter Tryd.func76, Tryd.ntmps76
  go_wp2
  refine wp_loop_rounds 6 ?_
  iterate 5
    rw [rounds_succ]
    go_wp2
    go_region
    go_wp2
  rw [rounds_succ]
  go_wp2
  refine bodyPost_ret (v := .agg _) (by simp [results, Tryd.results76, go_sem]) rfl ⟨rfl, ?_⟩
  repeat (first | exact Below.refl _ _ | refine Below.drew ?_ | refine below_drewN ?_ _ | refine bel_alloc ?_ _ | refine bel_ext ?_ _ | (refine Below.setCell ?_ ?_ _; rotate_left; (simp <;> omega)))
end Go.Proofs.YtlgcbbnnldlooaaDoor
/- The contracts of math/bits' Len64, LeadingZeros64 and Mul64 (package dec calls them). -/
namespace Go.Proofs.YtlgcbbnnldlooaaDoor
open Go.RowKit
set_option linter.unusedVariables false

theorem bl_shift (n k : Nat) (h : 2 ^ k ≤ n) : bl n = k + bl (n / 2 ^ k) := by
  apply bl_unique
  intro j
  constructor
  · intro hj
    have := (bl_le (n / 2 ^ k) (j - k)).1 (by omega)
    rw [Nat.div_lt_iff_lt_mul (Nat.pow_pos (by decide)), ← Nat.pow_add, show j - k + k = j by omega] at this
    exact this
  · intro hj
    have hk : k < j := by
      rcases Nat.lt_or_ge k j with c | c
      · exact c
      · have := Nat.pow_le_pow_right (show 0 < 2 by decide) c; omega
    have := (bl_le (n / 2 ^ k) (j - k)).2 (by rw [Nat.div_lt_iff_lt_mul (Nat.pow_pos (by decide)), ← Nat.pow_add, show j - k + k = j by omega]; exact hj)
    omega
theorem bl_le64 (n : Nat) (h : n < 18446744073709551616) : bl n ≤ 64 := (bl_le n 64).2 (by omega)
theorem len_end (x u : Int) (k : Nat) (h0 : 0 ≤ x) (h1 : x ≤ 18446744073709551615) (hu : u.toNat = x.toNat / 2 ^ k) (hk : k = 0 ∨ 2 ^ k ≤ x.toNat) (u0 : 0 ≤ u) (u1 : u ≤ 255) : (k : Int) + Lib.len8 u = (bl x.toNat : Int) := by
  rw [Lib.len8_of u u0 u1, bitLen_bl _ (by omega), hu]
  rcases hk with rfl | hk
  · simp
  · rw [bl_shift _ k hk]; omega
theorem len8_bd (u : Int) (u0 : 0 ≤ u) (u1 : u ≤ 255) : 0 ≤ Lib.len8 u ∧ Lib.len8 u ≤ 8 := by
  rw [Lib.len8_of u u0 u1]
  have := Lib.bitLen_le8' u u0 u1
  omega

set_option maxHeartbeats 1000000 in
set_option maxRecDepth 100000 in
theorem len64_000 (x : Int) (w : World) (h0 : 0 ≤ x) (h1 : x ≤ 18446744073709551615) (c1 : x < 4294967296) (c2 : x < 65536) (c3 : x < 256) :
    Calls Tryd.prog 77 #[.int .u64 x] w fun e w' => e = .returned (.int .i64 (bl x.toNat)) ∧ w' = w := by
  have u0 : 0 ≤ x := by omega
  have u1 : x ≤ 255 := by omega
  have l := len8_bd (x) u0 u1
  obtain ⟨l0, l1⟩ := l
  have fin : Hid (((0 : Nat) : Int) + Lib.len8 (x) = (bl x.toNat : Int)) := len_end x (x) 0 h0 h1 (by omega) (by omega) u0 u1
  go_enter Tryd.func77, Tryd.ntmps77
  go_wp2
  go_ret
  refine ⟨congrArg Ending.returned (congrArg (Value.int IntKind.i64) ?_), rfl⟩
  rw [← fin.out]
  first | rfl | omega | simp

set_option maxHeartbeats 1000000 in
set_option maxRecDepth 100000 in
theorem len64_001 (x : Int) (w : World) (h0 : 0 ≤ x) (h1 : x ≤ 18446744073709551615) (c1 : x < 4294967296) (c2 : x < 65536) (c3 : 256 ≤ x) :
    Calls Tryd.prog 77 #[.int .u64 x] w fun e w' => e = .returned (.int .i64 (bl x.toNat)) ∧ w' = w := by
  have u0 : 0 ≤ x / 256 := by omega
  have u1 : x / 256 ≤ 255 := by omega
  have l := len8_bd (x / 256) u0 u1
  obtain ⟨l0, l1⟩ := l
  have fin : Hid (((8 : Nat) : Int) + Lib.len8 (x / 256) = (bl x.toNat : Int)) := len_end x (x / 256) 8 h0 h1 (by omega) (by omega) u0 u1
  go_enter Tryd.func77, Tryd.ntmps77
  go_wp2
  go_ret
  refine ⟨congrArg Ending.returned (congrArg (Value.int IntKind.i64) ?_), rfl⟩
  rw [← fin.out]
  first | rfl | omega | simp

set_option maxHeartbeats 1000000 in
set_option maxRecDepth 100000 in
theorem len64_010 (x : Int) (w : World) (h0 : 0 ≤ x) (h1 : x ≤ 18446744073709551615) (c1 : x < 4294967296) (c2 : 65536 ≤ x) (c3 : x / 65536 < 256) :
    Calls Tryd.prog 77 #[.int .u64 x] w fun e w' => e = .returned (.int .i64 (bl x.toNat)) ∧ w' = w := by
  have u0 : 0 ≤ x / 65536 := by omega
  have u1 : x / 65536 ≤ 255 := by omega
  have l := len8_bd (x / 65536) u0 u1
  obtain ⟨l0, l1⟩ := l
  have fin : Hid (((16 : Nat) : Int) + Lib.len8 (x / 65536) = (bl x.toNat : Int)) := len_end x (x / 65536) 16 h0 h1 (by omega) (by omega) u0 u1
  go_enter Tryd.func77, Tryd.ntmps77
  go_wp2
  go_ret
  refine ⟨congrArg Ending.returned (congrArg (Value.int IntKind.i64) ?_), rfl⟩
  rw [← fin.out]
  first | rfl | omega | simp

set_option maxHeartbeats 1000000 in
set_option maxRecDepth 100000 in
theorem len64_011 (x : Int) (w : World) (h0 : 0 ≤ x) (h1 : x ≤ 18446744073709551615) (c1 : x < 4294967296) (c2 : 65536 ≤ x) (c3 : 256 ≤ x / 65536) :
    Calls Tryd.prog 77 #[.int .u64 x] w fun e w' => e = .returned (.int .i64 (bl x.toNat)) ∧ w' = w := by
  have u0 : 0 ≤ x / 65536 / 256 := by omega
  have u1 : x / 65536 / 256 ≤ 255 := by omega
  have l := len8_bd (x / 65536 / 256) u0 u1
  obtain ⟨l0, l1⟩ := l
  have fin : Hid (((24 : Nat) : Int) + Lib.len8 (x / 65536 / 256) = (bl x.toNat : Int)) := len_end x (x / 65536 / 256) 24 h0 h1 (by omega) (by omega) u0 u1
  go_enter Tryd.func77, Tryd.ntmps77
  go_wp2
  go_ret
  refine ⟨congrArg Ending.returned (congrArg (Value.int IntKind.i64) ?_), rfl⟩
  rw [← fin.out]
  first | rfl | omega | simp

set_option maxHeartbeats 1000000 in
set_option maxRecDepth 100000 in
theorem len64_100 (x : Int) (w : World) (h0 : 0 ≤ x) (h1 : x ≤ 18446744073709551615) (c1 : 4294967296 ≤ x) (c2 : x / 4294967296 < 65536) (c3 : x / 4294967296 < 256) :
    Calls Tryd.prog 77 #[.int .u64 x] w fun e w' => e = .returned (.int .i64 (bl x.toNat)) ∧ w' = w := by
  have u0 : 0 ≤ x / 4294967296 := by omega
  have u1 : x / 4294967296 ≤ 255 := by omega
  have l := len8_bd (x / 4294967296) u0 u1
  obtain ⟨l0, l1⟩ := l
  have fin : Hid (((32 : Nat) : Int) + Lib.len8 (x / 4294967296) = (bl x.toNat : Int)) := len_end x (x / 4294967296) 32 h0 h1 (by omega) (by omega) u0 u1
  go_enter Tryd.func77, Tryd.ntmps77
  go_wp2
  go_ret
  refine ⟨congrArg Ending.returned (congrArg (Value.int IntKind.i64) ?_), rfl⟩
  rw [← fin.out]
  first | rfl | omega | simp

set_option maxHeartbeats 1000000 in
set_option maxRecDepth 100000 in
theorem len64_101 (x : Int) (w : World) (h0 : 0 ≤ x) (h1 : x ≤ 18446744073709551615) (c1 : 4294967296 ≤ x) (c2 : x / 4294967296 < 65536) (c3 : 256 ≤ x / 4294967296) :
    Calls Tryd.prog 77 #[.int .u64 x] w fun e w' => e = .returned (.int .i64 (bl x.toNat)) ∧ w' = w := by
  have u0 : 0 ≤ x / 4294967296 / 256 := by omega
  have u1 : x / 4294967296 / 256 ≤ 255 := by omega
  have l := len8_bd (x / 4294967296 / 256) u0 u1
  obtain ⟨l0, l1⟩ := l
  have fin : Hid (((40 : Nat) : Int) + Lib.len8 (x / 4294967296 / 256) = (bl x.toNat : Int)) := len_end x (x / 4294967296 / 256) 40 h0 h1 (by omega) (by omega) u0 u1
  go_enter Tryd.func77, Tryd.ntmps77
  go_wp2
  go_ret
  refine ⟨congrArg Ending.returned (congrArg (Value.int IntKind.i64) ?_), rfl⟩
  rw [← fin.out]
  first | rfl | omega | simp

set_option maxHeartbeats 1000000 in
set_option maxRecDepth 100000 in
theorem len64_110 (x : Int) (w : World) (h0 : 0 ≤ x) (h1 : x ≤ 18446744073709551615) (c1 : 4294967296 ≤ x) (c2 : 65536 ≤ x / 4294967296) (c3 : x / 4294967296 / 65536 < 256) :
    Calls Tryd.prog 77 #[.int .u64 x] w fun e w' => e = .returned (.int .i64 (bl x.toNat)) ∧ w' = w := by
  have u0 : 0 ≤ x / 4294967296 / 65536 := by omega
  have u1 : x / 4294967296 / 65536 ≤ 255 := by omega
  have l := len8_bd (x / 4294967296 / 65536) u0 u1
  obtain ⟨l0, l1⟩ := l
  have fin : Hid (((48 : Nat) : Int) + Lib.len8 (x / 4294967296 / 65536) = (bl x.toNat : Int)) := len_end x (x / 4294967296 / 65536) 48 h0 h1 (by omega) (by omega) u0 u1
  go_enter Tryd.func77, Tryd.ntmps77
  go_wp2
  go_ret
  refine ⟨congrArg Ending.returned (congrArg (Value.int IntKind.i64) ?_), rfl⟩
  rw [← fin.out]
  first | rfl | omega | simp

set_option maxHeartbeats 1000000 in
set_option maxRecDepth 100000 in
theorem len64_111 (x : Int) (w : World) (h0 : 0 ≤ x) (h1 : x ≤ 18446744073709551615) (c1 : 4294967296 ≤ x) (c2 : 65536 ≤ x / 4294967296) (c3 : 256 ≤ x / 4294967296 / 65536) :
    Calls Tryd.prog 77 #[.int .u64 x] w fun e w' => e = .returned (.int .i64 (bl x.toNat)) ∧ w' = w := by
  have u0 : 0 ≤ x / 4294967296 / 65536 / 256 := by omega
  have u1 : x / 4294967296 / 65536 / 256 ≤ 255 := by omega
  have l := len8_bd (x / 4294967296 / 65536 / 256) u0 u1
  obtain ⟨l0, l1⟩ := l
  have fin : Hid (((56 : Nat) : Int) + Lib.len8 (x / 4294967296 / 65536 / 256) = (bl x.toNat : Int)) := len_end x (x / 4294967296 / 65536 / 256) 56 h0 h1 (by omega) (by omega) u0 u1
  go_enter Tryd.func77, Tryd.ntmps77
  go_wp2
  go_ret
  refine ⟨congrArg Ending.returned (congrArg (Value.int IntKind.i64) ?_), rfl⟩
  rw [← fin.out]
  first | rfl | omega | simp

theorem len64_any (x : Int) (w : World) (hx : IsWord x) :
    Calls Tryd.prog 77 #[.int .u64 x] w fun e w' => e = .returned (.int .i64 (bl x.toNat)) ∧ w' = w := by
  have h0 := hx.lo
  have h1 := hx.hi
  rcases Int.lt_or_le x 4294967296 with c1 | c1
  · rcases Int.lt_or_le x 65536 with c2 | c2
    · rcases Int.lt_or_le x 256 with c3 | c3
      · exact len64_000 x w h0 h1 c1 c2 c3
      · exact len64_001 x w h0 h1 c1 c2 c3
    · rcases Int.lt_or_le (x / 65536) 256 with c3 | c3
      · exact len64_010 x w h0 h1 c1 c2 c3
      · exact len64_011 x w h0 h1 c1 c2 c3
  · rcases Int.lt_or_le (x / 4294967296) 65536 with c2 | c2
    · rcases Int.lt_or_le (x / 4294967296) 256 with c3 | c3
      · exact len64_100 x w h0 h1 c1 c2 c3
      · exact len64_101 x w h0 h1 c1 c2 c3
    · rcases Int.lt_or_le (x / 4294967296 / 65536) 256 with c3 | c3
      · exact len64_110 x w h0 h1 c1 c2 c3
      · exact len64_111 x w h0 h1 c1 c2 c3

/-! Mul64 -/
/-- The numbers at which the shelf's contract lies here. -/
def renMul : Go.Shelf.Ren := ⟨fun | 264 => 81 | n => n, fun | 53 => 35 | 46 => 56 | n => n, fun | n => n⟩
theorem laysMul : Go.Proofs.Lays.n264 Tryd.prog renMul := {
  mixed := by kernel_rfl
  f264 := Tryd.func81.trans (congrArg some (by kernel_rfl))
  t46 := Tryd.underlying56
  a46 := Tryd.isAgg56
  z46 := Tryd.sizeOf56
  v46 := Tryd.zeroValue56
  t53 := Tryd.underlying35
  a53 := Tryd.isAgg35
  z53 := Tryd.sizeOf35
  v53 := Tryd.zeroValue35 }
theorem mul64_any (x y : Nat) (w : World) (hx : x < 18446744073709551616) (hy : y < 18446744073709551616) :
    Calls Tryd.prog 81 #[.int .u64 x, .int .u64 y] w fun e w' => e = .returned (.tuple #[.int .u64 ((x * y / 18446744073709551616 : Nat) : Int), .int .u64 ((x * y % 18446744073709551616 : Nat) : Int)]) ∧ w' = w :=
  Any.bits_Mul64 laysMul x y hx hy w
end Go.Proofs.YtlgcbbnnldlooaaDoor
/- The plain arithmetic under a division of two words by one (Knuth's step by halves). No program's run in this text. -/
namespace Go.Proofs.YtlgcbbnnldlooaaDoor
open Go.RowKit
set_option linter.unusedVariables false

def H : Nat := 4294967296
theorem H_eq : H = 4294967296 := rfl

/-- The guess is not below the true digit. -/
theorem guess_ge {N Y1 Y0 L1 : Nat} (h1 : 2147483648 ≤ Y1) (hl : L1 < 4294967296) :
    (N * 4294967296 + L1) / (Y1 * 4294967296 + Y0) ≤ N / Y1 := by
  rw [Nat.le_div_iff_mul_le (by omega)]
  have h := Nat.div_mul_le_self (N * 4294967296 + L1) (Y1 * 4294967296 + Y0)
  generalize (N * 4294967296 + L1) / (Y1 * 4294967296 + Y0) = Q at *
  rw [Nat.mul_add, ← Nat.mul_assoc] at h
  generalize Q * Y1 = z at *
  omega
/-- The test says no: it is the digit. -/
theorem guess_eq {N Y1 Y0 L1 q r : Nat} (h1 : 2147483648 ≤ Y1) (hq : q * Y1 + r = N) (hle : (N * 4294967296 + L1) / (Y1 * 4294967296 + Y0) ≤ q) (ht : q * Y0 ≤ 4294967296 * r + L1) :
    q = (N * 4294967296 + L1) / (Y1 * 4294967296 + Y0) := by
  apply Nat.le_antisymm _ hle
  rw [Nat.le_div_iff_mul_le (by omega), Nat.mul_add, ← Nat.mul_assoc, ← hq]
  generalize q * Y1 = z at *
  omega
/-- It says yes: the digit is less. -/
theorem guess_lt {N Y1 Y0 L1 q r : Nat} (h1 : 2147483648 ≤ Y1) (hq : q * Y1 + r = N) (hN : N < Y1 * 4294967296 + Y0) (hl : L1 < 4294967296) (ht : 4294967296 ≤ q ∨ 4294967296 * r + L1 < q * Y0) :
    (N * 4294967296 + L1) / (Y1 * 4294967296 + Y0) + 1 ≤ q := by
  apply Nat.succ_le_of_lt
  rw [Nat.div_lt_iff_lt_mul (by omega)]
  rcases ht with ht | ht
  · have : 4294967296 * (Y1 * 4294967296 + Y0) ≤ q * (Y1 * 4294967296 + Y0) := Nat.mul_le_mul_right _ ht
    omega
  · rw [Nat.mul_add, ← Nat.mul_assoc]
    generalize q * Y1 = z at *
    omega
/-- The rest has grown beyond a half: it is the digit. -/
theorem guess_big {N Y1 Y0 L1 q r : Nat} (h1 : 2147483648 ≤ Y1) (hq : q * Y1 + r = N) (hN : N < Y1 * 4294967296 + Y0) (h0 : Y0 < 4294967296) (hle : (N * 4294967296 + L1) / (Y1 * 4294967296 + Y0) ≤ q) (hr : 4294967296 ≤ r) :
    q = (N * 4294967296 + L1) / (Y1 * 4294967296 + Y0) := by
  apply guess_eq h1 hq hle
  have hq32 : q < 4294967296 := by
    rcases Nat.lt_or_ge q 4294967296 with c | c
    · exact c
    · have := Nat.mul_le_mul_right Y1 c
      omega
  have : q * Y0 ≤ 4294967296 * 4294967295 := Nat.mul_le_mul (by omega) (by omega)
  omega
theorem digit_lt {N Y L1 : Nat} (hN : N < Y) (hl : L1 < 4294967296) : (N * 4294967296 + L1) / Y < 4294967296 := by
  apply Nat.div_lt_of_lt_mul
  have : (N + 1) * 4294967296 ≤ Y * 4294967296 := Nat.mul_le_mul_right _ hN
  omega
/-- Two digits make the quotient. -/
theorem two_digits {N Y L1 L0 : Nat} (hY : 0 < Y) (hN : N < Y) (h1 : L1 < 4294967296) (h0 : L0 < 4294967296) :
    (N * 18446744073709551616 + (L1 * 4294967296 + L0)) / Y = (N * 4294967296 + L1) / Y * 4294967296 + ((N * 4294967296 + L1) % Y * 4294967296 + L0) / Y ∧
    (N * 18446744073709551616 + (L1 * 4294967296 + L0)) % Y = ((N * 4294967296 + L1) % Y * 4294967296 + L0) % Y := by
  have e : N * 18446744073709551616 + (L1 * 4294967296 + L0) = ((N * 4294967296 + L1) % Y * 4294967296 + L0) + Y * ((N * 4294967296 + L1) / Y * 4294967296) := by
    have h := Nat.div_add_mod (N * 4294967296 + L1) Y
    rw [← Nat.mul_assoc]
    generalize Y * ((N * 4294967296 + L1) / Y) = a at *
    omega
  rw [e, Nat.add_mul_div_left _ _ hY, Nat.add_mul_mod_self_left]
  exact ⟨Nat.add_comm _ _, rfl⟩
/-- What is left, in words that wrap. -/
theorem left_wrap {N Y L1 Q : Nat} (hY : Y < 18446744073709551616) (hQ : Q = (N * 4294967296 + L1) / Y) (h : 0 < Y) :
    IntKind.u64.wrap (IntKind.u64.wrap (IntKind.u64.wrap ((N : Int) * 4294967296) + (L1 : Int)) - IntKind.u64.wrap ((Q : Int) * (Y : Int))) = (((N * 4294967296 + L1) % Y : Nat) : Int) := by
  have hm := Nat.div_add_mod (N * 4294967296 + L1) Y
  have hl := Nat.mod_lt (N * 4294967296 + L1) h
  rw [← hQ] at hm
  rw [show (Q : Int) * (Y : Int) = ((Y * Q : Nat) : Int) by rw [Int.natCast_mul, Int.mul_comm]]
  generalize Y * Q = a at *
  generalize (N * 4294967296 + L1) % Y = b at *
  simp only [IntKind.wrap_u64]
  omega
theorem mul_le_word {a b : Nat} (ha : a < 4294967296) (hb : b < 4294967296) : a * b < 18446744073709551616 := by
  have : a * b ≤ 4294967295 * 4294967295 := Nat.mul_le_mul (by omega) (by omega)
  omega
theorem wrap_mul {a b : Nat} (ha : a < 4294967296) (hb : b < 4294967296) : IntKind.u64.wrap ((a : Int) * (b : Int)) = ((a * b : Nat) : Int) := by
  have := mul_le_word ha hb
  rw [← Int.natCast_mul, IntKind.wrap_u64]
  omega
theorem wrap_div {a b : Nat} (ha : a < 18446744073709551616) : IntKind.u64.wrap ((a : Int).tdiv (b : Int)) = ((a / b : Nat) : Int) := by
  have : a / b ≤ a := Nat.div_le_self _ _
  rw [← Int.ofNat_tdiv, IntKind.wrap_u64]
  generalize a / b = c at *
  omega
theorem wrap_ediv {a b : Nat} (ha : a < 18446744073709551616) : IntKind.u64.wrap ((a : Int) / (b : Int)) = ((a / b : Nat) : Int) := by
  have : a / b ≤ a := Nat.div_le_self _ _
  rw [← Int.natCast_ediv, IntKind.wrap_u64]
  generalize a / b = c at *
  omega
theorem wrap_rest {a b : Nat} (ha : a < 18446744073709551616) : IntKind.u64.wrap ((a : Int) - IntKind.u64.wrap (((a / b : Nat) : Int) * (b : Int))) = ((a % b : Nat) : Int) := by
  have h := Nat.div_add_mod a b
  rw [← Int.natCast_mul, Nat.mul_comm]
  generalize b * (a / b) = c at *
  generalize a % b = d at *
  simp only [IntKind.wrap_u64]
  omega
theorem maskN (a : Nat) (ha : a < 18446744073709551616) : bits .and .u64 (a : Int) 4294967295 = ((a % 4294967296 : Nat) : Int) := by
  have h := bits_and_u64_nat a 4294967295 ha (by omega)
  have e : a &&& 4294967295 = a % 4294967296 := Nat.and_two_pow_sub_one_eq_mod a 32
  rw [e] at h
  exact h
theorem halfN (a : Nat) : (a : Int) / 4294967296 = ((a / 4294967296 : Nat) : Int) := by omega

/-! how it begins: all is shifted up till the divisor fills its word -/
theorem pow_split {y : Nat} (h : 0 < y) (hy : y < 18446744073709551616) : 2 ^ bl y * 2 ^ (64 - bl y) = 18446744073709551616 ∧ y < 2 ^ bl y ∧ 2 ^ bl y ≤ 2 * y := by
  have hb := bl_le64 y hy
  refine ⟨?_, (bl_le y _).1 (Nat.le_refl _), ?_⟩
  · rw [← Nat.pow_add, show bl y + (64 - bl y) = 64 by omega]
  · have hpos : 0 < bl y := by
      rcases Nat.eq_zero_or_pos (bl y) with c | c
      · have := (bl_le y 0).1 (by omega); simp at this; omega
      · exact c
    rcases Nat.lt_or_ge y (2 ^ (bl y - 1)) with c | c
    · have := (bl_le y _).2 c; omega
    · have : 2 ^ bl y = 2 * 2 ^ (bl y - 1) := by rw [← Nat.pow_succ']; congr 1; omega
      omega
structure Begun (hi lo y Y N L : Nat) : Prop where
  eY : IntKind.u64.wrap ((y : Int) * 2 ^ (64 - bl y)) = (Y : Int)
  eN : bits .or .u64 (IntKind.u64.wrap ((hi : Int) * 2 ^ (64 - bl y))) ((lo : Int) / 2 ^ (64 - (64 - bl y))) = (N : Int)
  eL : IntKind.u64.wrap ((lo : Int) * 2 ^ (64 - bl y)) = (L : Int)
  Ylo : 9223372036854775808 ≤ Y
  Yhi : Y < 18446744073709551616
  hL : L < 18446744073709551616
  hN : N < Y
  quo : (N * 18446744073709551616 + L) / Y = (hi * 18446744073709551616 + lo) / y
  rem : (N * 18446744073709551616 + L) % Y / 2 ^ (64 - bl y) = (hi * 18446744073709551616 + lo) % y
theorem castpow (k : Nat) : ((2 : Int) ^ k) = ((2 ^ k : Nat) : Int) := by simp
theorem begin_div {hi lo y : Nat} (h1 : hi < y) (h2 : y < 18446744073709551616) (h3 : lo < 18446744073709551616) : ∃ Y N L, Begun hi lo y Y N L := by
  obtain ⟨e, l, g⟩ := pow_split (y := y) (by omega) h2
  have hb := bl_le64 y h2
  have ex : 64 - (64 - bl y) = bl y := by omega
  have hP : 0 < 2 ^ (64 - bl y) := Nat.pow_pos (by decide)
  have hQ : 0 < 2 ^ bl y := Nat.pow_pos (by decide)
  have hYlt : y * 2 ^ (64 - bl y) < 18446744073709551616 := by rw [← e]; exact Nat.mul_lt_mul_of_pos_right l hP
  have hYge : 18446744073709551616 ≤ 2 * (y * 2 ^ (64 - bl y)) := by rw [← e, ← Nat.mul_assoc]; exact Nat.mul_le_mul_right _ g
  have hHlt : hi * 2 ^ (64 - bl y) < y * 2 ^ (64 - bl y) := Nat.mul_lt_mul_of_pos_right h1 hP
  have hlo : lo / 2 ^ bl y < 2 ^ (64 - bl y) := Nat.div_lt_of_lt_mul (by rw [e]; exact h3)
  have elo : lo * 2 ^ (64 - bl y) = lo / 2 ^ bl y * 18446744073709551616 + lo * 2 ^ (64 - bl y) % 18446744073709551616 := by
    have : lo * 2 ^ (64 - bl y) / 18446744073709551616 = lo / 2 ^ bl y := by rw [← e, Nat.mul_div_mul_right _ _ hP]
    have hd := Nat.div_add_mod (lo * 2 ^ (64 - bl y)) 18446744073709551616
    rw [this] at hd
    omega
  have eU : (hi * 2 ^ (64 - bl y) + lo / 2 ^ bl y) * 18446744073709551616 + lo * 2 ^ (64 - bl y) % 18446744073709551616 = (hi * 18446744073709551616 + lo) * 2 ^ (64 - bl y) := by
    rw [Nat.add_mul, Nat.add_mul, Nat.mul_right_comm hi 18446744073709551616]
    omega
  refine ⟨y * 2 ^ (64 - bl y), hi * 2 ^ (64 - bl y) + lo / 2 ^ bl y, lo * 2 ^ (64 - bl y) % 18446744073709551616, ?_, ?_, ?_, by omega, hYlt, Nat.mod_lt _ (by decide), ?_, ?_, ?_⟩
  · rw [castpow, ← Int.natCast_mul, IntKind.wrap_u64]; omega
  · rw [ex, castpow, castpow, ← Int.natCast_mul, ← Int.natCast_ediv]
    rw [show IntKind.u64.wrap ((hi * 2 ^ (64 - bl y) : Nat) : Int) = ((hi * 2 ^ (64 - bl y) : Nat) : Int) by rw [IntKind.wrap_u64]; omega]
    rw [bits_or_u64_nat _ _ (by omega) (Nat.lt_of_le_of_lt (Nat.div_le_self _ _) h3)]
    have := Nat.two_pow_add_eq_or_of_lt hlo hi
    rw [Nat.mul_comm hi, ← this]
  · rw [castpow, ← Int.natCast_mul, IntKind.wrap_u64]; omega
  · have : (hi + 1) * 2 ^ (64 - bl y) ≤ y * 2 ^ (64 - bl y) := Nat.mul_le_mul_right _ h1
    rw [Nat.add_mul, Nat.one_mul] at this
    omega
  · rw [eU, Nat.mul_div_mul_right _ _ hP]
  · rw [eU, Nat.mul_mod_mul_right, Nat.mul_div_cancel _ hP]
end Go.Proofs.YtlgcbbnnldlooaaDoor
/- The contract of math/bits' Div64 (the library's own Go text, Knuth's division by halves). -/
namespace Go.Proofs.YtlgcbbnnldlooaaDoor
open Go.RowKit
set_option linter.unusedVariables false

end Go.Proofs.YtlgcbbnnldlooaaDoor
/- The contracts of the wide numbers' bits, shifts and products by a word (package dec). -/
namespace Go.Proofs.YtlgcbbnnldlooaaDoor
open Go.RowKit
set_option linter.unusedVariables false

theorem or_bit (a b : Nat) (hb : b ≤ 1) : bits .or .u64 (IntKind.u64.wrap ((a : Int) * 2)) (b : Int) = (((2 * a + b) % B : Nat) : Int) := by
  have e : IntKind.u64.wrap ((a : Int) * 2) = ((2 * (a % 9223372036854775808) : Nat) : Int) := by rw [IntKind.wrap_u64]; omega
  rw [e, bits_or_u64_nat _ _ (by omega) (by omega)]
  have h := Nat.two_pow_add_eq_or_of_lt (i := 1) (b := b) (by omega) (a % 9223372036854775808)
  simp only [Nat.pow_one] at h
  rw [← h, B_eq]
  omega
theorem shift_w0 (m b : Nat) (hb : b ≤ 1) : bits .or .u64 (IntKind.u64.wrap (wd m 0 * 2)) (b : Int) = wd (2 * m + b) 0 := by
  rw [wd_wn, or_bit _ _ hb]
  have := shift_lo m b 0 hb
  rw [sbit_zero] at this
  rw [this, wd_wn]
theorem shift_w (m b i : Nat) (hb : b ≤ 1) : bits .or .u64 (IntKind.u64.wrap (wd m (i + 1) * 2)) (wd m i / 9223372036854775808) = wd (2 * m + b) (i + 1) := by
  have e : wd m i / 9223372036854775808 = ((sbit m b (i + 1) : Nat) : Int) := by rw [← shift_hi m b i hb, wd_wn]; omega
  rw [e, wd_wn, or_bit _ _ (sbit_le m b _ hb), shift_lo m b _ hb, wd_wn]

set_option maxHeartbeats 400000 in
set_option maxRecDepth 100000 in
theorem bits_4 (m : Nat) (w : World) (h4 : (wd m 4 != 0) = true) :
    Calls Tryd.prog 61 #[.agg #[.int .u64 (wd (m) 0), .int .u64 (wd (m) 1), .int .u64 (wd (m) 2), .int .u64 (wd (m) 3), .int .u64 (wd (m) 4)]] w
      fun e w' => e = .returned (.int .i64 (256 + bl (wd m 4).toNat)) ∧ Below w.heap.size w w' := by
  have hw := wd_isWord m 4
  have hb : bl (wd m 4).toNat ≤ 64 := bl_le64 _ (by have := hw.hi; have := hw.lo; omega)
  go_enter Tryd.func61, Tryd.ntmps61
  go_wp2
  refine wp_loop_rounds 6 ?_
  rw [rounds_succ]
  go_wp2_with (go_at_call 77; refine (len64_any _ _ hw).mono ?_; rintro e w' ⟨rfl, rfl⟩)
  go_ret
  refine ⟨rfl, ?_⟩
  repeat (first | exact Below.refl _ _ | refine Below.drew ?_ | refine below_drewN ?_ _ | refine bel_alloc ?_ _ | refine bel_ext ?_ _ | (refine Below.setCell ?_ ?_ _; rotate_left; (simp <;> omega)))
set_option maxHeartbeats 400000 in
set_option maxRecDepth 100000 in
theorem bits_3 (m : Nat) (w : World) (h4 : (wd m 4 != 0) = false) (h3 : (wd m 3 != 0) = true) :
    Calls Tryd.prog 61 #[.agg #[.int .u64 (wd (m) 0), .int .u64 (wd (m) 1), .int .u64 (wd (m) 2), .int .u64 (wd (m) 3), .int .u64 (wd (m) 4)]] w
      fun e w' => e = .returned (.int .i64 (192 + bl (wd m 3).toNat)) ∧ Below w.heap.size w w' := by
  have hw := wd_isWord m 3
  have hb : bl (wd m 3).toNat ≤ 64 := bl_le64 _ (by have := hw.hi; have := hw.lo; omega)
  go_enter Tryd.func61, Tryd.ntmps61
  go_wp2
  refine wp_loop_rounds 6 ?_
  iterate 1
    rw [rounds_succ]
    go_wp2
  rw [rounds_succ]
  go_wp2_with (go_at_call 77; refine (len64_any _ _ hw).mono ?_; rintro e w' ⟨rfl, rfl⟩)
  go_ret
  refine ⟨rfl, ?_⟩
  repeat (first | exact Below.refl _ _ | refine Below.drew ?_ | refine below_drewN ?_ _ | refine bel_alloc ?_ _ | refine bel_ext ?_ _ | (refine Below.setCell ?_ ?_ _; rotate_left; (simp <;> omega)))
set_option maxHeartbeats 400000 in
set_option maxRecDepth 100000 in
theorem bits_2 (m : Nat) (w : World) (h4 : (wd m 4 != 0) = false) (h3 : (wd m 3 != 0) = false) (h2 : (wd m 2 != 0) = true) :
    Calls Tryd.prog 61 #[.agg #[.int .u64 (wd (m) 0), .int .u64 (wd (m) 1), .int .u64 (wd (m) 2), .int .u64 (wd (m) 3), .int .u64 (wd (m) 4)]] w
      fun e w' => e = .returned (.int .i64 (128 + bl (wd m 2).toNat)) ∧ Below w.heap.size w w' := by
  have hw := wd_isWord m 2
  have hb : bl (wd m 2).toNat ≤ 64 := bl_le64 _ (by have := hw.hi; have := hw.lo; omega)
  go_enter Tryd.func61, Tryd.ntmps61
  go_wp2
  refine wp_loop_rounds 6 ?_
  iterate 2
    rw [rounds_succ]
    go_wp2
  rw [rounds_succ]
  go_wp2_with (go_at_call 77; refine (len64_any _ _ hw).mono ?_; rintro e w' ⟨rfl, rfl⟩)
  go_ret
  refine ⟨rfl, ?_⟩
  repeat (first | exact Below.refl _ _ | refine Below.drew ?_ | refine below_drewN ?_ _ | refine bel_alloc ?_ _ | refine bel_ext ?_ _ | (refine Below.setCell ?_ ?_ _; rotate_left; (simp <;> omega)))
set_option maxHeartbeats 400000 in
set_option maxRecDepth 100000 in
theorem bits_1 (m : Nat) (w : World) (h4 : (wd m 4 != 0) = false) (h3 : (wd m 3 != 0) = false) (h2 : (wd m 2 != 0) = false) (h1 : (wd m 1 != 0) = true) :
    Calls Tryd.prog 61 #[.agg #[.int .u64 (wd (m) 0), .int .u64 (wd (m) 1), .int .u64 (wd (m) 2), .int .u64 (wd (m) 3), .int .u64 (wd (m) 4)]] w
      fun e w' => e = .returned (.int .i64 (64 + bl (wd m 1).toNat)) ∧ Below w.heap.size w w' := by
  have hw := wd_isWord m 1
  have hb : bl (wd m 1).toNat ≤ 64 := bl_le64 _ (by have := hw.hi; have := hw.lo; omega)
  go_enter Tryd.func61, Tryd.ntmps61
  go_wp2
  refine wp_loop_rounds 6 ?_
  iterate 3
    rw [rounds_succ]
    go_wp2
  rw [rounds_succ]
  go_wp2_with (go_at_call 77; refine (len64_any _ _ hw).mono ?_; rintro e w' ⟨rfl, rfl⟩)
  go_ret
  refine ⟨rfl, ?_⟩
  repeat (first | exact Below.refl _ _ | refine Below.drew ?_ | refine below_drewN ?_ _ | refine bel_alloc ?_ _ | refine bel_ext ?_ _ | (refine Below.setCell ?_ ?_ _; rotate_left; (simp <;> omega)))
set_option maxHeartbeats 400000 in
set_option maxRecDepth 100000 in
theorem bits_0 (m : Nat) (w : World) (h4 : (wd m 4 != 0) = false) (h3 : (wd m 3 != 0) = false) (h2 : (wd m 2 != 0) = false) (h1 : (wd m 1 != 0) = false) (h0 : (wd m 0 != 0) = true) :
    Calls Tryd.prog 61 #[.agg #[.int .u64 (wd (m) 0), .int .u64 (wd (m) 1), .int .u64 (wd (m) 2), .int .u64 (wd (m) 3), .int .u64 (wd (m) 4)]] w
      fun e w' => e = .returned (.int .i64 (bl (wd m 0).toNat)) ∧ Below w.heap.size w w' := by
  have hw := wd_isWord m 0
  have hb : bl (wd m 0).toNat ≤ 64 := bl_le64 _ (by have := hw.hi; have := hw.lo; omega)
  go_enter Tryd.func61, Tryd.ntmps61
  go_wp2
  refine wp_loop_rounds 6 ?_
  iterate 4
    rw [rounds_succ]
    go_wp2
  rw [rounds_succ]
  go_wp2_with (go_at_call 77; refine (len64_any _ _ hw).mono ?_; rintro e w' ⟨rfl, rfl⟩)
  go_ret
  refine ⟨rfl, ?_⟩
  repeat (first | exact Below.refl _ _ | refine Below.drew ?_ | refine below_drewN ?_ _ | refine bel_alloc ?_ _ | refine bel_ext ?_ _ | (refine Below.setCell ?_ ?_ _; rotate_left; (simp <;> omega)))
set_option maxHeartbeats 400000 in
set_option maxRecDepth 100000 in
theorem bits_no (m : Nat) (w : World) (h4 : (wd m 4 != 0) = false) (h3 : (wd m 3 != 0) = false) (h2 : (wd m 2 != 0) = false) (h1 : (wd m 1 != 0) = false) (h0 : (wd m 0 != 0) = false) :
    Calls Tryd.prog 61 #[.agg #[.int .u64 (wd (m) 0), .int .u64 (wd (m) 1), .int .u64 (wd (m) 2), .int .u64 (wd (m) 3), .int .u64 (wd (m) 4)]] w
      fun e w' => e = .returned (.int .i64 0) ∧ Below w.heap.size w w' := by
  go_enter Tryd.func61, Tryd.ntmps61
  go_wp2
  refine wp_loop_rounds 6 ?_
  iterate 5
    rw [rounds_succ]
    go_wp2
  rw [rounds_succ]
  go_wp2
  go_ret
  refine ⟨rfl, ?_⟩
  repeat (first | exact Below.refl _ _ | refine Below.drew ?_ | refine below_drewN ?_ _ | refine bel_alloc ?_ _ | refine bel_ext ?_ _ | (refine Below.setCell ?_ ?_ _; rotate_left; (simp <;> omega)))

theorem zero_word {m i : Nat} (h : m / B ^ (i + 1) = 0) (hw : (wd m i != 0) = false) : m / B ^ i = 0 := by
  have : wd m i = 0 := by simpa using hw
  rw [wd_wn] at this
  rw [top_split, h]; omega
theorem bits_word {m i : Nat} (h : m / B ^ (i + 1) = 0) (hw : (wd m i != 0) = true) : bl m = i * 64 + bl (wd m i).toNat := by
  have hne : wn m i ≠ 0 := by
    intro e; rw [bne_iff_ne] at hw; apply hw; rw [wd_wn, e]; rfl
  rw [bl_word h hne, wd_wn, Int.toNat_natCast]

theorem bits_any (m : Nat) (a0 a1 a2 a3 a4 : Int) (w : World) (ha : IsW m a0 a1 a2 a3 a4) (hm : m < B ^ 5) :
    Calls Tryd.prog 61 #[.agg #[.int .u64 a0, .int .u64 a1, .int .u64 a2, .int .u64 a3, .int .u64 a4]] w
      fun e w' => e = .returned (.int .i64 (bl m)) ∧ Below w.heap.size w w' := by
  obtain ⟨rfl, rfl, rfl, rfl, rfl⟩ := ha
  have t5 : m / B ^ 5 = 0 := Nat.div_eq_of_lt hm
  cases h4 : (wd m 4 != 0)
  · have t4 := zero_word t5 h4
    cases h3 : (wd m 3 != 0)
    · have t3 := zero_word t4 h3
      cases h2 : (wd m 2 != 0)
      · have t2 := zero_word t3 h2
        cases h1 : (wd m 1 != 0)
        · have t1 := zero_word t2 h1
          cases h0 : (wd m 0 != 0)
          · have t0 := zero_word t1 h0
            simp only [Nat.pow_zero, Nat.div_one] at t0
            rw [bl_zero t0]; exact bits_no m w h4 h3 h2 h1 h0
          · refine (bits_0 m w h4 h3 h2 h1 h0).mono ?_
            rintro e w' ⟨rfl, hb⟩
            exact ⟨by rw [bits_word t1 h0]; simp, hb⟩
        · refine (bits_1 m w h4 h3 h2 h1).mono ?_
          rintro e w' ⟨rfl, hb⟩
          exact ⟨by rw [bits_word t2 h1]; rfl, hb⟩
      · refine (bits_2 m w h4 h3 h2).mono ?_
        rintro e w' ⟨rfl, hb⟩
        exact ⟨by rw [bits_word t3 h2]; rfl, hb⟩
    · refine (bits_3 m w h4 h3).mono ?_
      rintro e w' ⟨rfl, hb⟩
      exact ⟨by rw [bits_word t4 h3]; rfl, hb⟩
  · refine (bits_4 m w h4).mono ?_
    rintro e w' ⟨rfl, hb⟩
    exact ⟨by rw [bits_word t5 h4]; rfl, hb⟩

/-! times a word -/
theorem tw_lo (m x i : Nat) : (((wn m i * x % 18446744073709551616 : Nat) : Int) + ((tcar m x i : Nat) : Int) + 0) % 18446744073709551616 = wd (m * x) i := by
  have h := tword_lo m x i
  have h2 := (mulAdd (wn m i) x (tcar m x i)).1
  rw [h, B_eq] at h2
  rw [wd_wn, ← h2]; omega
theorem tw_hi (m x i : Nat) : ((wn m i * x / 18446744073709551616 : Nat) : Int) + (((wn m i * x % 18446744073709551616 : Nat) : Int) + ((tcar m x i : Nat) : Int) + 0) / 18446744073709551616 = ((tcar m x (i + 1) : Nat) : Int) := by
  have h := tword_hi m x i
  have h2 := (mulAdd (wn m i) x (tcar m x i)).2
  rw [h, B_eq] at h2
  rw [← h2]; omega
def tlo (m x i : Nat) : Int := ((wn m i * x % 18446744073709551616 : Nat) : Int)
def thi (m x i : Nat) : Int := ((wn m i * x / 18446744073709551616 : Nat) : Int)
def tmore (m x i : Nat) : Int := (((wn m i * x % 18446744073709551616 : Nat) : Int) + ((tcar m x i : Nat) : Int) + 0) / 18446744073709551616
def tci (m x i : Nat) : Int := ((tcar m x i : Nat) : Int)

set_option maxHeartbeats 1000000 in
set_option maxRecDepth 100000 in
theorem timesWord_any (m x : Nat) (a0 a1 a2 a3 a4 : Int) (w : World) (ha : IsW m a0 a1 a2 a3 a4) (hx : x < B) :
    Calls Tryd.prog 79 #[.agg #[.int .u64 a0, .int .u64 a1, .int .u64 a2, .int .u64 a3, .int .u64 a4], .int .u64 x] w
      fun e w' => e = .returned (.agg #[.int .u64 (wd (m * x) 0), .int .u64 (wd (m * x) 1), .int .u64 (wd (m * x) 2), .int .u64 (wd (m * x) 3), .int .u64 (wd (m * x) 4)]) ∧ Below w.heap.size w w' := by
  obtain ⟨rfl, rfl, rfl, rfl, rfl⟩ := ha
  have hc : ∀ i w, Calls Tryd.prog 81 #[.int .u64 (wd m i), .int .u64 x] w fun e w' => e = .returned (.tuple #[.int .u64 (thi m x i), .int .u64 (tlo m x i)]) ∧ w' = w := by
    intro i w
    exact mul64_any (wn m i) x w (wn_lt m i) hx
  have hr : ∀ i w, (callFunc 80 #[.int .u64 (tlo m x i), .int .u64 (tci m x i), .int .u64 0]).run Tryd.prog w = .ok (.value (.tuple #[.int .u64 (wd (m * x) i), .int .u64 (tmore m x i)])) w := by
    intro i w
    rw [run_Add64 (tlo m x i) (tci m x i) 0 (Int.natCast_nonneg _) (Int.natCast_nonneg _) (by omega) (by omega)]
    unfold tlo tci tmore
    rw [tw_lo]
  have hs : ∀ i, thi m x i + tmore m x i = tci m x (i + 1) := fun i => tw_hi m x i
  have hl : ∀ i, 0 ≤ tci m x i ∧ tci m x i ≤ 18446744073709551615 := by
    intro i
    have := tcar_lt m x i hx
    rw [B_eq] at this
    unfold tci; omega
  have hz : tci m x 0 = 0 := by unfold tci; rw [tcar_zero]; rfl
  have r0 := hr 0
  rw [hz] at r0
  have r1 := hr 1
  have r2 := hr 2
  have r3 := hr 3
  have r4 := hr 4
  have s0 := hs 0
  have s1 := hs 1
  have s2 := hs 2
  have s3 := hs 3
  have s4 := hs 4
  obtain ⟨l1, g1⟩ := hl 1
  obtain ⟨l2, g2⟩ := hl 2
  obtain ⟨l3, g3⟩ := hl 3
  obtain ⟨l4, g4⟩ := hl 4
  obtain ⟨l5, g5⟩ := hl 5
  have HC := (show Hid _ from hc)
  clear hc hr hs hl hz
  go_enter Tryd.func79, Tryd.ntmps79
  go_wp2
  refine wp_loop_rounds 6 ?_
  rw [rounds_succ]
  go_wp2_with (go_at_call 81; refine (HC.out 0 _).mono ?_; rintro e w' ⟨rfl, rfl⟩)
  rw [rounds_succ]
  go_wp2_with (go_at_call 81; refine (HC.out 1 _).mono ?_; rintro e w' ⟨rfl, rfl⟩)
  rw [rounds_succ]
  go_wp2_with (go_at_call 81; refine (HC.out 2 _).mono ?_; rintro e w' ⟨rfl, rfl⟩)
  rw [rounds_succ]
  go_wp2_with (go_at_call 81; refine (HC.out 3 _).mono ?_; rintro e w' ⟨rfl, rfl⟩)
  rw [rounds_succ]
  go_wp2_with (go_at_call 81; refine (HC.out 4 _).mono ?_; rintro e w' ⟨rfl, rfl⟩)
  rw [rounds_succ]
  go_wp2
  refine bodyPost_ret (v := .agg _) (by simp [results, Tryd.results79, go_sem]) rfl ⟨rfl, ?_⟩
  repeat (first | exact Below.refl _ _ | refine Below.drew ?_ | refine below_drewN ?_ _ | refine bel_alloc ?_ _ | refine bel_ext ?_ _ | (refine Below.setCell ?_ ?_ _; rotate_left; (simp <;> omega)))
end Go.Proofs.YtlgcbbnnldlooaaDoor
/- Five words in memory: what is kept of them, and what is laid. -/
namespace Go.Proofs.YtlgcbbnnldlooaaDoor
open Go.RowKit
set_option linter.unusedVariables false

/-- Block b of the world w holds the five words of n from cell o on, and they may be written. -/
structure Row5 (w : World) (b o n : Nat) : Prop where
  c0 : w.cell? ⟨b, o, none⟩ = some (.int .u64 (wd n 0))
  c1 : w.cell? ⟨b, o + 1, none⟩ = some (.int .u64 (wd n 1))
  c2 : w.cell? ⟨b, o + 2, none⟩ = some (.int .u64 (wd n 2))
  c3 : w.cell? ⟨b, o + 3, none⟩ = some (.int .u64 (wd n 3))
  c4 : w.cell? ⟨b, o + 4, none⟩ = some (.int .u64 (wd n 4))
  f0 : w.frozen? ⟨b, o, none⟩ = false
  f1 : w.frozen? ⟨b, o + 1, none⟩ = false
  f2 : w.frozen? ⟨b, o + 2, none⟩ = false
  f3 : w.frozen? ⟨b, o + 3, none⟩ = false
  f4 : w.frozen? ⟨b, o + 4, none⟩ = false

theorem Row5.below {w w' : World} {b o n k : Nat} (h : Row5 w b o n) (hb : Below k w w') (hk : b < k) : Row5 w' b o n := by
  have hc : ∀ j, w'.cell? ⟨b, j, none⟩ = w.cell? ⟨b, j, none⟩ := fun j => hb.cell (p := ⟨b, j, none⟩) hk
  have hf : ∀ j, w'.frozen? ⟨b, j, none⟩ = w.frozen? ⟨b, j, none⟩ := fun j => hb.frozen (p := ⟨b, j, none⟩) hk
  obtain ⟨c0, c1, c2, c3, c4, f0, f1, f2, f3, f4⟩ := h
  constructor <;> simp only [hc, hf] <;> assumption


theorem Row5.drew {w : World} {b o n : Nat} (h : Row5 w b o n) : Row5 w.drew b o n := ⟨h.c0, h.c1, h.c2, h.c3, h.c4, h.f0, h.f1, h.f2, h.f3, h.f4⟩
theorem Row5.drewN {w : World} {b o n : Nat} (h : Row5 w b o n) (k : Nat) : Row5 (w.drewN k) b o n := ⟨h.c0, h.c1, h.c2, h.c3, h.c4, h.f0, h.f1, h.f2, h.f3, h.f4⟩

theorem Row5.keep {w w' : World} {b o n : Nat} (h : Row5 w b o n) (e : w'.heap[b]? = w.heap[b]?) : Row5 w' b o n := by
  have hc : ∀ j, w'.cell? ⟨b, j, none⟩ = w.cell? ⟨b, j, none⟩ := fun j => World.cell?_of_block (w := w) (w' := w') (a := ⟨b, j, none⟩) e
  have hf : ∀ j, w'.frozen? ⟨b, j, none⟩ = w.frozen? ⟨b, j, none⟩ := fun j => World.frozen?_of_block (w := w) (w' := w') (a := ⟨b, j, none⟩) e
  obtain ⟨c0, c1, c2, c3, c4, f0, f1, f2, f3, f4⟩ := h
  constructor <;> simp only [hc, hf] <;> assumption

theorem undrew {w w' : World} (h : Below w.drew.heap.size w.drew w') : Below w.heap.size w w' := ⟨h.os, h.tape, h.output, h.size, h.block⟩

theorem Row5.zero {w : World} {b n : Nat} (h : Row5 w b 0 n) :
    w.cell? ⟨b, 0, none⟩ = some (.int .u64 (wd n 0)) ∧ w.cell? ⟨b, 1, none⟩ = some (.int .u64 (wd n 1)) ∧ w.cell? ⟨b, 2, none⟩ = some (.int .u64 (wd n 2)) ∧
    w.cell? ⟨b, 3, none⟩ = some (.int .u64 (wd n 3)) ∧ w.cell? ⟨b, 4, none⟩ = some (.int .u64 (wd n 4)) ∧
    w.frozen? ⟨b, 0, none⟩ = false ∧ w.frozen? ⟨b, 1, none⟩ = false ∧ w.frozen? ⟨b, 2, none⟩ = false ∧ w.frozen? ⟨b, 3, none⟩ = false ∧ w.frozen? ⟨b, 4, none⟩ = false :=
  ⟨h.c0, h.c1, h.c2, h.c3, h.c4, h.f0, h.f1, h.f2, h.f3, h.f4⟩

theorem Row5.nth {w : World} {b n : Nat} (h : Row5 w b 0 n) (k : Nat) (hk : k < 5) : w.cell? ⟨b, k, none⟩ = some (.int .u64 (wd n k)) := by
  obtain ⟨c0, c1, c2, c3, c4, -, -, -, -, -⟩ := h.zero
  match k, hk with
  | 0, _ => exact c0
  | 1, _ => exact c1
  | 2, _ => exact c2
  | 3, _ => exact c3
  | 4, _ => exact c4
theorem Row5.nthf {w : World} {b n : Nat} (h : Row5 w b 0 n) (k : Nat) (hk : k < 5) : w.frozen? ⟨b, k, none⟩ = false := by
  obtain ⟨-, -, -, -, -, c0, c1, c2, c3, c4⟩ := h.zero
  match k, hk with
  | 0, _ => exact c0
  | 1, _ => exact c1
  | 2, _ => exact c2
  | 3, _ => exact c3
  | 4, _ => exact c4

theorem Row5.setCell {w : World} {b o n : Nat} (h : Row5 w b o n) {p : Addr} (hp : p.block ≠ b) (v : Value) : Row5 (w.setCell p v) b o n := by
  have hc : ∀ j, (w.setCell p v).cell? ⟨b, j, none⟩ = w.cell? ⟨b, j, none⟩ := fun j => World.cell?_setCell_other _ _ _ _ (by intro e; apply hp; rw [e])
  obtain ⟨c0, c1, c2, c3, c4, f0, f1, f2, f3, f4⟩ := h
  constructor <;> simp only [hc, World.frozen?_setCell] <;> assumption

/-- The five words of n laid into block b from cell o on. -/
def set5 (w : World) (b o n : Nat) : World :=
  ((((w.setCell ⟨b, o, none⟩ (.int .u64 (wd n 0))).setCell ⟨b, o + 1, none⟩ (.int .u64 (wd n 1))).setCell ⟨b, o + 2, none⟩ (.int .u64 (wd n 2))).setCell ⟨b, o + 3, none⟩ (.int .u64 (wd n 3))).setCell ⟨b, o + 4, none⟩ (.int .u64 (wd n 4))

theorem ne_addr {b i j : Nat} (h : i ≠ j) : (⟨b, i, none⟩ : Addr) ≠ ⟨b, j, none⟩ := by
  intro e; apply h; exact congrArg Addr.off e

theorem Row5.laid {w : World} {b o k : Nat} (h : Row5 w b o k) (n : Nat) : Row5 (set5 w b o n) b o n := by
  obtain ⟨c0, c1, c2, c3, c4, f0, f1, f2, f3, f4⟩ := h
  have s : ∀ (u : World) (i : Nat) (v x : Value), u.cell? ⟨b, i, none⟩ = some x → (u.setCell ⟨b, i, none⟩ v).cell? ⟨b, i, none⟩ = some v := fun u i v x hx => World.cell?_setCell_same _ _ _ hx
  have t : ∀ (u : World) (i j : Nat) (v : Value), i ≠ j → (u.setCell ⟨b, i, none⟩ v).cell? ⟨b, j, none⟩ = u.cell? ⟨b, j, none⟩ := fun u i j v hij => World.cell?_setCell_other _ _ _ _ (ne_addr hij)
  unfold set5
  constructor
  · rw [t _ _ _ _ (by omega), t _ _ _ _ (by omega), t _ _ _ _ (by omega), t _ _ _ _ (by omega), s _ _ _ _ c0]
  · rw [t _ _ _ _ (by omega), t _ _ _ _ (by omega), t _ _ _ _ (by omega), s _ _ _ _ (by rw [t _ _ _ _ (by omega)]; exact c1)]
  · rw [t _ _ _ _ (by omega), t _ _ _ _ (by omega), s _ _ _ _ (by rw [t _ _ _ _ (by omega), t _ _ _ _ (by omega)]; exact c2)]
  · rw [t _ _ _ _ (by omega), s _ _ _ _ (by rw [t _ _ _ _ (by omega), t _ _ _ _ (by omega), t _ _ _ _ (by omega)]; exact c3)]
  · rw [s _ _ _ _ (by rw [t _ _ _ _ (by omega), t _ _ _ _ (by omega), t _ _ _ _ (by omega), t _ _ _ _ (by omega)]; exact c4)]
  all_goals (simp only [World.frozen?_setCell]; assumption)

theorem Row5.laid_other {w : World} {b o n : Nat} (h : Row5 w b o n) {b' : Nat} (hb : b' ≠ b) (o' n' : Nat) : Row5 (set5 w b' o' n') b o n :=
  ((((h.setCell (p := ⟨b', o', none⟩) hb _).setCell (p := ⟨b', o' + 1, none⟩) hb _).setCell (p := ⟨b', o' + 2, none⟩) hb _).setCell (p := ⟨b', o' + 3, none⟩) hb _).setCell (p := ⟨b', o' + 4, none⟩) hb _
theorem size_set5 (w : World) (b o n : Nat) : (set5 w b o n).heap.size = w.heap.size := by simp [set5]
theorem below_set5 {k : Nat} {w w' : World} (h : Below k w w') {b : Nat} (hb : k ≤ b) (o n : Nat) : Below k w (set5 w' b o n) :=
  ((((h.setCell (p := ⟨b, o, none⟩) hb _).setCell (p := ⟨b, o + 1, none⟩) hb _).setCell (p := ⟨b, o + 2, none⟩) hb _).setCell (p := ⟨b, o + 3, none⟩) hb _).setCell (p := ⟨b, o + 4, none⟩) hb _
theorem wd_zero (i : Nat) : wd 0 i = 0 := by simp [wd]
theorem Row5.congr {w : World} {b o n n' : Nat} (h : Row5 w b o n) (e : n = n') : Row5 w b o n' := e ▸ h
/-- A call's own blocks behind another call. -/
theorem bcell {W w1 : World} (hb : Below W.heap.size W w1) : (∀ b o, b < W.heap.size → w1.cell? ⟨b, o, none⟩ = W.cell? ⟨b, o, none⟩) ∧ (∀ b o, b < W.heap.size → w1.frozen? ⟨b, o, none⟩ = W.frozen? ⟨b, o, none⟩) :=
  ⟨fun b o h => hb.cell (p := ⟨b, o, none⟩) h, fun b o h => hb.frozen (p := ⟨b, o, none⟩) h⟩
end Go.Proofs.YtlgcbbnnldlooaaDoor
/- The contracts of Div64 at every divisor above the high word, and of a wide number over a word (package dec). -/
namespace Go.Proofs.YtlgcbbnnldlooaaDoor
open Go.RowKit
set_option linter.unusedVariables false

theorem wd_low (n : Nat) (h : n < B) : wd n 0 = (n : Int) := by simp [wd, Nat.mod_eq_of_lt h]
theorem wd_high (n i : Nat) (h : n < B) (hi : 0 < i) : wd n i = 0 := by
  have : n / B ^ i = 0 := Nat.div_eq_of_lt (Nat.lt_of_lt_of_le h (by
    have := Nat.pow_le_pow_right B_pos hi
    rwa [Nat.pow_one] at this))
  simp [wd, this]

/-! a wide number over a word: from the top word down -/
end Go.Proofs.YtlgcbbnnldlooaaDoor
