/- The plain arithmetic under the wide numbers of package dec: words of 64 bits, their sums, differences, products, quotients. No program's run in this text. -/
import Derived.Lib.BitFns
namespace Go.Proofs.YtlgcbbnnldlooaaDoor

/-- Two to the 64th, behind a name. -/
def B : Nat := 18446744073709551616
theorem B_eq : B = 18446744073709551616 := rfl
theorem B_pos : 0 < B := by decide

/-- The word number i of a natural number. -/
def wd (n i : Nat) : Int := ((n / B ^ i % B : Nat) : Int)

structure IsWord (x : Int) : Prop where
  lo : 0 ≤ x
  hi : x ≤ 18446744073709551615

theorem wd_isWord (n i : Nat) : IsWord (wd n i) := by
  have h : n / B ^ i % B < B := Nat.mod_lt _ B_pos
  rw [B_eq] at h
  constructor
  · exact Int.natCast_nonneg _
  · unfold wd; rw [B_eq] at *; omega

theorem split_mod (p m : Nat) : m % (p * B) = m % p + p * (m / p % B) := Nat.mod_mul

/-! sums -/
theorem plus_step (p m n : Nat) (hp : 0 < p) :
    (m / p % B + n / p % B + (m % p + n % p) / p) % B = (m + n) / p % B ∧
    (m / p % B + n / p % B + (m % p + n % p) / p) / B = (m % (p * B) + n % (p * B)) / (p * B) := by
  have e : (m + n) / p = m / p + n / p + (m % p + n % p) / p := by
    have h1 := Nat.div_add_mod m p
    have h2 := Nat.div_add_mod n p
    have : m + n = (m % p + n % p) + p * (m / p + n / p) := by rw [Nat.mul_add]; omega
    rw [this, Nat.add_mul_div_left _ _ hp]; omega
  constructor
  · rw [e]; simp [Nat.add_mod]
  · rw [split_mod, split_mod, ← Nat.div_div_eq_div_mul]
    have : m % p + p * (m / p % B) + (n % p + p * (n / p % B)) = (m % p + n % p) + p * (m / p % B + n / p % B) := by rw [Nat.mul_add]; omega
    rw [this, Nat.add_mul_div_left _ _ hp, Nat.add_comm ((m % p + n % p) / p)]

/-- The carry into word i of a sum. -/
def car (m n i : Nat) : Int := (((m % B ^ i + n % B ^ i) / B ^ i : Nat) : Int)
theorem car_zero (m n : Nat) : car m n 0 = 0 := by simp [car, Nat.mod_one]
theorem car_bd (m n i : Nat) : 0 ≤ car m n i ∧ car m n i ≤ 1 := by
  have hp : 0 < B ^ i := Nat.pow_pos B_pos
  have h1 := Nat.mod_lt m hp
  have h2 := Nat.mod_lt n hp
  have h : (m % B ^ i + n % B ^ i) / B ^ i < 2 := Nat.div_lt_of_lt_mul (by omega)
  unfold car
  generalize (m % B ^ i + n % B ^ i) / B ^ i = z at h
  omega
theorem plus_lo (m n i : Nat) : (wd m i + wd n i + car m n i) % 18446744073709551616 = wd (m + n) i := by
  have h := (plus_step (B ^ i) m n (Nat.pow_pos B_pos)).1
  unfold wd car
  rw [← h, B_eq]; omega
theorem plus_hi (m n i : Nat) : (wd m i + wd n i + car m n i) / 18446744073709551616 = car m n (i + 1) := by
  have h := (plus_step (B ^ i) m n (Nat.pow_pos B_pos)).2
  unfold wd car
  rw [Nat.pow_succ, ← h, B_eq]; omega

/-! differences -/
theorem minus_step (p m n : Nat) (hp : 0 < p) (h : n ≤ m) :
    (m / p % B + B - n / p % B - (if m % p < n % p then 1 else 0)) % B = (m - n) / p % B ∧
    (m / p % B < n / p % B + (if m % p < n % p then 1 else 0) ↔ m % (p * B) < n % (p * B)) := by
  have h1 := Nat.div_add_mod m p
  have h2 := Nat.div_add_mod n p
  have l1 := Nat.mod_lt m hp
  have l2 := Nat.mod_lt n hp
  have hB : 0 < B := B_pos
  generalize hM : m / p = M at *
  generalize hN : n / p = N at *
  generalize m % p = r at *
  generalize n % p = s at *
  have x1 := Nat.mod_lt M hB
  have y1 := Nat.mod_lt N hB
  have hle : N ≤ M := by rw [← hM, ← hN]; exact Nat.div_le_div_right h
  constructor
  · by_cases c : r < s
    · rw [if_pos c]
      have hlt : N + 1 ≤ M := by
        apply Nat.lt_of_le_of_ne hle
        intro e; subst e; omega
      have e : (m - n) / p = M - N - 1 := by
        have : m - n = (p + r - s) + p * (M - N - 1) := by
          have : p * M = p * N + p * (M - N - 1) + p := by
            rw [← Nat.mul_add, ← Nat.mul_succ]; congr 1; omega
          omega
        rw [this, Nat.add_mul_div_left _ _ hp, Nat.div_eq_of_lt (by omega)]; omega
      rw [e]
      have em := Nat.div_add_mod M B
      have en := Nat.div_add_mod N B
      generalize M % B = x at *
      generalize N % B = y at *
      have : M - N - 1 = B * (M / B) - B * (N / B) + x - y - 1 ∨ True := Or.inr trivial
      have key : (x + B - y - 1) + B * (M / B) = (M - N - 1) + B * (N / B + 1) := by rw [Nat.mul_add]; omega
      have := congrArg (· % B) key
      simpa [Nat.add_mul_mod_self_left] using this
    · rw [if_neg c]
      have e : (m - n) / p = M - N := by
        have : m - n = (r - s) + p * (M - N) := by
          have : p * M = p * N + p * (M - N) := by rw [← Nat.mul_add]; congr 1; omega
          omega
        rw [this, Nat.add_mul_div_left _ _ hp, Nat.div_eq_of_lt (by omega)]; omega
      rw [e]
      have em := Nat.div_add_mod M B
      have en := Nat.div_add_mod N B
      generalize M % B = x at *
      generalize N % B = y at *
      have key : (x + B - y - 0) + B * (M / B) = (M - N) + B * (N / B + 1) := by rw [Nat.mul_add]; omega
      have := congrArg (· % B) key
      simpa [Nat.add_mul_mod_self_left] using this
  · rw [split_mod, split_mod, hM, hN]
    have l1' : m % p < p := Nat.mod_lt m hp
    have l2' : n % p < p := Nat.mod_lt n hp
    have er : m % p = r := by
      have := Nat.div_add_mod m p; rw [hM] at this; omega
    have es : n % p = s := by
      have := Nat.div_add_mod n p; rw [hN] at this; omega
    rw [er, es]
    generalize M % B = x at *
    generalize N % B = y at *
    rcases Nat.lt_trichotomy x y with c | c | c
    · have : p * x + p ≤ p * y := by rw [← Nat.mul_succ]; exact Nat.mul_le_mul_left p c
      split <;> omega
    · subst c; split <;> omega
    · have : p * y + p ≤ p * x := by rw [← Nat.mul_succ]; exact Nat.mul_le_mul_left p c
      split <;> omega

/-- The borrow into word i of a difference. -/
def bor (m n i : Nat) : Int := if m % B ^ i < n % B ^ i then 1 else 0
theorem bor_zero (m n : Nat) : bor m n 0 = 0 := by simp [bor, Nat.mod_one]
theorem bor_bd (m n i : Nat) : 0 ≤ bor m n i ∧ bor m n i ≤ 1 := by unfold bor; split <;> omega
theorem minus_lo (m n i : Nat) (h : n ≤ m) : (wd m i + 18446744073709551616 - wd n i - bor m n i) % 18446744073709551616 = wd (m - n) i := by
  have e := (minus_step (B ^ i) m n (Nat.pow_pos B_pos) h).1
  have x1 := Nat.mod_lt (m / B ^ i) B_pos
  have y1 := Nat.mod_lt (n / B ^ i) B_pos
  unfold wd bor
  rw [← e, B_eq] at *
  split <;> omega
theorem minus_hi (m n i : Nat) (h : n ≤ m) : (if wd m i < wd n i + bor m n i then (1 : Int) else 0) = bor m n (i + 1) := by
  have e := (minus_step (B ^ i) m n (Nat.pow_pos B_pos) h).2
  unfold wd bor
  rw [Nat.pow_succ]
  have : (((m / B ^ i % B : Nat) : Int) < ((n / B ^ i % B : Nat) : Int) + (if m % B ^ i < n % B ^ i then 1 else 0)) ↔ m / B ^ i % B < n / B ^ i % B + (if m % B ^ i < n % B ^ i then 1 else 0) := by
    split <;> omega
  simp only [this, e]

/-! a word times a number -/
theorem times_step (p m x : Nat) (hp : 0 < p) :
    (m / p % B * x + m % p * x / p) % B = m * x / p % B ∧
    (m / p % B * x + m % p * x / p) / B = m % (p * B) * x / (p * B) := by
  constructor
  · have e : m * x / p = m / p * x + m % p * x / p := by
      have h1 := Nat.div_add_mod m p
      have : m * x = m % p * x + p * (m / p * x) := by
        rw [← Nat.mul_assoc, ← Nat.add_mul, Nat.add_comm (m % p), h1]
      rw [this, Nat.add_mul_div_left _ _ hp]; omega
    rw [e]; simp [Nat.add_mod, Nat.mul_mod]
  · rw [split_mod, ← Nat.div_div_eq_div_mul]
    have : (m % p + p * (m / p % B)) * x = m % p * x + p * (m / p % B * x) := by rw [Nat.add_mul, Nat.mul_assoc]
    rw [this, Nat.add_mul_div_left _ _ hp, Nat.add_comm (m % p * x / p)]

/-- The carry into word i of a product by a word. -/
def tcar (m x i : Nat) : Nat := m % B ^ i * x / B ^ i
theorem tcar_zero (m x : Nat) : tcar m x 0 = 0 := by simp [tcar, Nat.mod_one]
theorem tcar_lt (m x i : Nat) (hx : x < B) : tcar m x i < B := by
  have hp : 0 < B ^ i := Nat.pow_pos B_pos
  have h1 := Nat.mod_lt m hp
  unfold tcar
  apply Nat.div_lt_of_lt_mul
  by_cases x0 : x = 0
  · subst x0; rw [Nat.mul_zero]; exact Nat.mul_pos hp B_pos
  · exact Nat.lt_of_lt_of_le (Nat.mul_lt_mul_of_pos_right h1 (by omega)) (Nat.mul_le_mul_left _ (by omega))
def wn (n i : Nat) : Nat := n / B ^ i % B
theorem wn_lt (n i : Nat) : wn n i < B := Nat.mod_lt _ B_pos
theorem wd_wn (n i : Nat) : wd n i = (wn n i : Int) := rfl
theorem tword_lo (m x i : Nat) : (wn m i * x + tcar m x i) % B = wn (m * x) i := (times_step (B ^ i) m x (Nat.pow_pos B_pos)).1
theorem tword_hi (m x i : Nat) : (wn m i * x + tcar m x i) / B = tcar m x (i + 1) := by
  have := (times_step (B ^ i) m x (Nat.pow_pos B_pos)).2
  unfold tcar; rw [Nat.pow_succ]; exact this
/-- Mul64's two words and a carry, put together. -/
theorem mulAdd (a x c : Nat) : (a * x % B + c) % B = (a * x + c) % B ∧ a * x / B + (a * x % B + c) / B = (a * x + c) / B := by
  constructor
  · simp [Nat.add_mod]
  · have h := Nat.div_add_mod (a * x) B
    have : a * x + c = (a * x % B + c) + B * (a * x / B) := by omega
    rw [this, Nat.add_mul_div_left _ _ B_pos]; omega

/-! one bit shifted in -/
theorem shift_step (p m b : Nat) (hp : 0 < p) (hb : (2 * (m % p) + b) / p ≤ 1) :
    (2 * (m / p % B) + (2 * (m % p) + b) / p) % B = (2 * m + b) / p % B ∧
    m / p % B / 9223372036854775808 = (2 * (m % (p * B)) + b) / (p * B) := by
  have e : (2 * m + b) / p = 2 * (m / p) + (2 * (m % p) + b) / p := by
    have h1 := Nat.div_add_mod m p
    have : 2 * m + b = (2 * (m % p) + b) + p * (2 * (m / p)) := by
      have : p * (2 * (m / p)) = 2 * (p * (m / p)) := by rw [Nat.mul_left_comm]
      omega
    rw [this, Nat.add_mul_div_left _ _ hp]; omega
  constructor
  · rw [e]
    generalize (2 * (m % p) + b) / p = z at *
    rw [B_eq]; omega
  · rw [split_mod, ← Nat.div_div_eq_div_mul]
    have : 2 * (m % p + p * (m / p % B)) + b = (2 * (m % p) + b) + p * (2 * (m / p % B)) := by
      have : p * (2 * (m / p % B)) = 2 * (p * (m / p % B)) := by rw [Nat.mul_left_comm]
      omega
    rw [this, Nat.add_mul_div_left _ _ hp]
    generalize (2 * (m % p) + b) / p = z at *
    rw [B_eq]; omega
/-- The bit that goes into word i. -/
def sbit (m b i : Nat) : Nat := (2 * (m % B ^ i) + b) / B ^ i
theorem sbit_zero (m b : Nat) : sbit m b 0 = b := by simp [sbit, Nat.mod_one]
theorem sbit_le (m b i : Nat) (hb : b ≤ 1) : sbit m b i ≤ 1 := by
  have hp : 0 < B ^ i := Nat.pow_pos B_pos
  have h1 := Nat.mod_lt m hp
  have : sbit m b i < 2 := Nat.div_lt_of_lt_mul (by omega)
  omega
theorem shift_lo (m b i : Nat) (hb : b ≤ 1) : (2 * wn m i + sbit m b i) % B = wn (2 * m + b) i :=
  (shift_step (B ^ i) m b (Nat.pow_pos B_pos) (sbit_le m b i hb)).1
theorem shift_hi (m b i : Nat) (hb : b ≤ 1) : wn m i / 9223372036854775808 = sbit m b (i + 1) := by
  have := (shift_step (B ^ i) m b (Nat.pow_pos B_pos) (sbit_le m b i hb)).2
  unfold sbit; rw [Nat.pow_succ]; exact this

/-! a number over a word, from the top -/
theorem div_step (p m d : Nat) (hd : 0 < d) :
    ((m / (p * B) % d) * B + m / p % B) / d = m / d / p % B ∧ ((m / (p * B) % d) * B + m / p % B) % d = m / p % d := by
  have e : m / p = B * (m / (p * B)) + m / p % B := by rw [← Nat.div_div_eq_div_mul]; exact (Nat.div_add_mod _ _).symm
  have hR := Nat.mod_lt (m / (p * B)) hd
  have hX := Nat.div_add_mod (m / (p * B)) d
  have hw : m / p % B < B := Nat.mod_lt _ B_pos
  have e2 : m / p = (m / (p * B) % d * B + m / p % B) + d * (B * (m / (p * B) / d)) := by
    have h3 : B * (m / (p * B)) = B * (d * (m / (p * B) / d)) + B * (m / (p * B) % d) := by rw [← Nat.mul_add, hX]
    have h4 : B * (d * (m / (p * B) / d)) = d * (B * (m / (p * B) / d)) := Nat.mul_left_comm _ _ _
    have h5 : B * (m / (p * B) % d) = m / (p * B) % d * B := Nat.mul_comm _ _
    omega
  constructor
  · have : m / d / p = m / p / d := by rw [Nat.div_div_eq_div_mul, Nat.div_div_eq_div_mul, Nat.mul_comm]
    rw [this]
    have h6 : m / p / d = (m / (p * B) % d * B + m / p % B) / d + B * (m / (p * B) / d) := by
      conv => lhs; rw [e2]
      rw [Nat.add_mul_div_left _ _ hd]
    rw [h6, Nat.add_mul_mod_self_left]
    symm
    apply Nat.mod_eq_of_lt
    apply Nat.div_lt_of_lt_mul
    calc m / (p * B) % d * B + m / p % B < m / (p * B) % d * B + B := by omega
      _ = (m / (p * B) % d + 1) * B := by rw [Nat.add_mul, Nat.one_mul]
      _ ≤ d * B := Nat.mul_le_mul_right _ (by omega)
  · conv => rhs; rw [e2]
    rw [Nat.add_mul_mod_self_left]
theorem dword (m d i : Nat) (hd : 0 < d) : (m / B ^ (i + 1) % d * B + wn m i) / d = wn (m / d) i ∧ (m / B ^ (i + 1) % d * B + wn m i) % d = m / B ^ i % d := by
  have := div_step (B ^ i) m d hd
  rw [Nat.pow_succ]; exact this

/-! order, by the top words first -/
theorem top_split (m i : Nat) : m / B ^ i = B * (m / B ^ (i + 1)) + wn m i := by
  rw [Nat.pow_succ, ← Nat.div_div_eq_div_mul]; exact (Nat.div_add_mod _ _).symm
theorem lt_of_word {m n i : Nat} (h : m / B ^ (i + 1) = n / B ^ (i + 1)) (hw : wn m i < wn n i) : m < n := by
  have h1 := top_split m i
  have h2 := top_split n i
  rw [h] at h1
  exact Nat.lt_of_div_lt_div (c := B ^ i) (by omega)
theorem eq_of_word {m n i : Nat} (h : m / B ^ (i + 1) = n / B ^ (i + 1)) (hw : wn m i = wn n i) : m / B ^ i = n / B ^ i := by
  rw [top_split m i, top_split n i, h, hw]

/-! how many bits -/
def bl (n : Nat) : Nat := if n = 0 then 0 else n.log2 + 1
theorem bl_le (n k : Nat) : bl n ≤ k ↔ n < 2 ^ k := by
  unfold bl
  by_cases h : n = 0
  · subst h; simp; exact Nat.pow_pos (by decide)
  · rw [if_neg h, ← Nat.log2_lt h]; omega
theorem bl_unique {n k : Nat} (h : ∀ j, k ≤ j ↔ n < 2 ^ j) : bl n = k := by
  apply Nat.le_antisymm
  · exact (bl_le n k).2 ((h k).1 (Nat.le_refl _))
  · exact (h _).2 ((bl_le n _).1 (Nat.le_refl _))
theorem bitLen_bl : ∀ n, n < 2 ^ 64 → Lib.bitLen n = bl n := by
  intro n
  induction n using Nat.strongRecOn with
  | _ n ih =>
    intro h
    by_cases h0 : n = 0
    · subst h0; rfl
    · rw [Lib.bitLen_half n h0 h, ih (n / 2) (by omega) (by omega)]
      unfold bl
      rw [if_neg h0]
      by_cases h1 : n / 2 = 0
      · have : n = 1 := by omega
        subst this; rfl
      · rw [if_neg h1, Nat.log2_def n, if_pos (by omega)]; omega
/-- The top word that is not nought tells the bits. -/
theorem bl_word {n i : Nat} (h : n / B ^ (i + 1) = 0) (h0 : wn n i ≠ 0) : bl n = i * 64 + bl (wn n i) := by
  have e : n / B ^ i = wn n i := by rw [top_split, h]; simp
  have eB : B ^ i = 2 ^ (64 * i) := by rw [show B = 2 ^ 64 from rfl, ← Nat.pow_mul]
  apply bl_unique
  intro j
  constructor
  · intro hj
    have : wn n i < 2 ^ (j - i * 64) := (bl_le _ _).1 (by omega)
    rw [← e, eB, Nat.div_lt_iff_lt_mul (Nat.pow_pos (by decide)), ← Nat.pow_add] at this
    rw [show j - i * 64 + 64 * i = j by omega] at this
    exact this
  · intro hj
    by_cases c : i * 64 ≤ j
    · have : wn n i < 2 ^ (j - i * 64) := by
        rw [← e, eB, Nat.div_lt_iff_lt_mul (Nat.pow_pos (by decide)), ← Nat.pow_add, show j - i * 64 + 64 * i = j by omega]
        exact hj
      have := (bl_le _ _).2 this
      omega
    · exfalso
      apply h0
      rw [← e, eB]
      apply Nat.div_eq_of_lt
      exact Nat.lt_of_lt_of_le hj (Nat.pow_le_pow_right (by decide) (by omega))
theorem bl_zero {n : Nat} (h : n = 0) : bl n = 0 := by subst h; rfl
end Go.Proofs.YtlgcbbnnldlooaaDoor
