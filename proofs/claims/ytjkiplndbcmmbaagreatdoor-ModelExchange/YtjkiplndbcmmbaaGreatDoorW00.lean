/- texts of the model: Ma Ua -/
import Derived.Lib.BitFns
set_option linter.unusedVariables false
set_option linter.unusedSimpArgs false
set_option maxHeartbeats 16000000
set_option maxRecDepth 100000
namespace Go.Proofs.YtjkiplndbcmmbaaGreatDoor
def B : Nat := 18446744073709551616
theorem dO : B = 18446744073709551616 := rfl
theorem bi : 0 < B := by decide
def wd (n i : Nat) : Int := ((n / B ^ i % B : Nat) : Int)
structure IsWord (x : Int) : Prop where
 lo : 0 ≤ x
 hi : x ≤ 18446744073709551615
theorem aS (n i : Nat) : IsWord (wd n i) := by
 have h : n / B ^ i % B < B := Nat.mod_lt _ bi
 rw [dO] at h
 constructor
 ·exact Int.natCast_nonneg _
 ·unfold wd; rw [dO] at *; omega
theorem cF (p m : Nat) : m % (p * B) = m % p + p * (m / p % B) := Nat.mod_mul
theorem iZ (p m n : Nat) (hp : 0 < p) :
  (m / p % B + n / p % B + (m % p + n % p) / p) % B = (m + n) / p % B ∧
  (m / p % B + n / p % B + (m % p + n % p) / p) / B = (m % (p * B) + n % (p * B)) / (p * B) := by
 have e : (m + n) / p = m / p + n / p + (m % p + n % p) / p := by
  have h1 := Nat.div_add_mod m p
  have h2 := Nat.div_add_mod n p
  have : m + n = (m % p + n % p) + p * (m / p + n / p) := by rw [Nat.mul_add]; omega
  rw [this, Nat.add_mul_div_left _ _ hp]; omega
 constructor
 ·rw [e]; simp [Nat.add_mod]
 ·rw [cF, cF, ← Nat.div_div_eq_div_mul]
  have : m % p + p * (m / p % B) + (n % p + p * (n / p % B)) = (m % p + n % p) + p * (m / p % B + n / p % B) := by rw [Nat.mul_add]; omega
  rw [this, Nat.add_mul_div_left _ _ hp, Nat.add_comm ((m % p + n % p) / p)]
def car (m n i : Nat) : Int := (((m % B ^ i + n % B ^ i) / B ^ i : Nat) : Int)
theorem pM (m n : Nat) : car m n 0 = 0 := by simp [car, Nat.mod_one]
theorem pL (m n i : Nat) : 0 ≤ car m n i ∧ car m n i ≤ 1 := by
 have hp : 0 < B ^ i := Nat.pow_pos bi
 have h1 := Nat.mod_lt m hp
 have h2 := Nat.mod_lt n hp
 have h : (m % B ^ i + n % B ^ i) / B ^ i < 2 := Nat.div_lt_of_lt_mul (by omega)
 unfold car
 generalize (m % B ^ i + n % B ^ i) / B ^ i = z at h
 omega
theorem tW (m n i : Nat) : (wd m i + wd n i + car m n i) % 18446744073709551616 = wd (m + n) i := by
 have h := (iZ (B ^ i) m n (Nat.pow_pos bi)).1
 unfold wd car
 rw [← h, dO]; omega
theorem tU (m n i : Nat) : (wd m i + wd n i + car m n i) / 18446744073709551616 = car m n (i + 1) := by
 have h := (iZ (B ^ i) m n (Nat.pow_pos bi)).2
 unfold wd car
 rw [Nat.pow_succ, ← h, dO]; omega
theorem i8 (p m n : Nat) (hp : 0 < p) (h : n ≤ m) :
  (m / p % B + B - n / p % B - (if m % p < n % p then 1 else 0)) % B = (m - n) / p % B ∧
  (m / p % B < n / p % B + (if m % p < n % p then 1 else 0) ↔ m % (p * B) < n % (p * B)) := by
 have h1 := Nat.div_add_mod m p
 have h2 := Nat.div_add_mod n p
 have l1 := Nat.mod_lt m hp
 have l2 := Nat.mod_lt n hp
 have hB : 0 < B := bi
 generalize hM : m / p = M at *
 generalize hN : n / p = N at *
 generalize m % p = r at *
 generalize n % p = s at *
 have x1 := Nat.mod_lt M hB
 have y1 := Nat.mod_lt N hB
 have hle : N ≤ M := by rw [← hM, ← hN]; exact Nat.div_le_div_right h
 constructor
 ·by_cases c : r < s
  ·rw [if_pos c]
   have hlt : N + 1 ≤ M := by
    apply Nat.lt_of_le_of_ne hle
    intro e; subst e; omega
   have e : (m - n) / p = M - N - 1 := by
    have : m - n = (p + r - s) + p * (M - N - 1) := by
     have : p * M = p * N + p * (M - N - 1) + p := by
      rw [← Nat.mul_add, ← Nat.mul_succ]; congr 1; omega
     omega
    rw [this, Nat.add_mul_div_left _ _ hp, Nat.div_eq_of_lt (by omega)]; omega
   rw [e]
   have em := Nat.div_add_mod M B
   have en := Nat.div_add_mod N B
   generalize M % B = x at *
   generalize N % B = y at *
   have : M - N - 1 = B * (M / B) - B * (N / B) + x - y - 1 ∨ True := Or.inr trivial
   have key : (x + B - y - 1) + B * (M / B) = (M - N - 1) + B * (N / B + 1) := by rw [Nat.mul_add]; omega
   have := congrArg (· % B) key
   simpa [Nat.add_mul_mod_self_left] using this
  ·rw [if_neg c]
   have e : (m - n) / p = M - N := by
    have : m - n = (r - s) + p * (M - N) := by
     have : p * M = p * N + p * (M - N) := by rw [← Nat.mul_add]; congr 1; omega
     omega
    rw [this, Nat.add_mul_div_left _ _ hp, Nat.div_eq_of_lt (by omega)]; omega
   rw [e]
   have em := Nat.div_add_mod M B
   have en := Nat.div_add_mod N B
   generalize M % B = x at *
   generalize N % B = y at *
   have key : (x + B - y - 0) + B * (M / B) = (M - N) + B * (N / B + 1) := by rw [Nat.mul_add]; omega
   have := congrArg (· % B) key
   simpa [Nat.add_mul_mod_self_left] using this
 ·rw [cF, cF, hM, hN]
  have l1' : m % p < p := Nat.mod_lt m hp
  have l2' : n % p < p := Nat.mod_lt n hp
  have er : m % p = r := by
   have := Nat.div_add_mod m p; rw [hM] at this; omega
  have es : n % p = s := by
   have := Nat.div_add_mod n p; rw [hN] at this; omega
  rw [er, es]
  generalize M % B = x at *
  generalize N % B = y at *
  rcases Nat.lt_trichotomy x y with c | c | c
  ·have : p * x + p ≤ p * y := by rw [← Nat.mul_succ]; exact Nat.mul_le_mul_left p c
   split <;> omega
  ·subst c; split <;> omega
  ·have : p * y + p ≤ p * x := by rw [← Nat.mul_succ]; exact Nat.mul_le_mul_left p c
   split <;> omega
def bor (m n i : Nat) : Int := if m % B ^ i < n % B ^ i then 1 else 0
theorem pJ (m n : Nat) : bor m n 0 = 0 := by simp [bor, Nat.mod_one]
theorem pI (m n i : Nat) : 0 ≤ bor m n i ∧ bor m n i ≤ 1 := by unfold bor; split <;> omega
theorem qD (m n i : Nat) (h : n ≤ m) : (wd m i + 18446744073709551616 - wd n i - bor m n i) % 18446744073709551616 = wd (m - n) i := by
 have e := (i8 (B ^ i) m n (Nat.pow_pos bi) h).1
 have x1 := Nat.mod_lt (m / B ^ i) bi
 have y1 := Nat.mod_lt (n / B ^ i) bi
 unfold wd bor
 rw [← e, dO] at *
 split <;> omega
theorem qC (m n i : Nat) (h : n ≤ m) : (if wd m i < wd n i + bor m n i then (1 : Int) else 0) = bor m n (i + 1) := by
 have e := (i8 (B ^ i) m n (Nat.pow_pos bi) h).2
 unfold wd bor
 rw [Nat.pow_succ]
 have : (((m / B ^ i % B : Nat) : Int) < ((n / B ^ i % B : Nat) : Int) + (if m % B ^ i < n % B ^ i then 1 else 0)) ↔ m / B ^ i % B < n / B ^ i % B + (if m % B ^ i < n % B ^ i then 1 else 0) := by
  split <;> omega
 simp only [this, e]
theorem iv (p m x : Nat) (hp : 0 < p) :
  (m / p % B * x + m % p * x / p) % B = m * x / p % B ∧
  (m / p % B * x + m % p * x / p) / B = m % (p * B) * x / (p * B) := by
 constructor
 ·have e : m * x / p = m / p * x + m % p * x / p := by
   have h1 := Nat.div_add_mod m p
   have : m * x = m % p * x + p * (m / p * x) := by
    rw [← Nat.mul_assoc, ← Nat.add_mul, Nat.add_comm (m % p), h1]
   rw [this, Nat.add_mul_div_left _ _ hp]; omega
  rw [e]; simp [Nat.add_mod, Nat.mul_mod]
 ·rw [cF, ← Nat.div_div_eq_div_mul]
  have : (m % p + p * (m / p % B)) * x = m % p * x + p * (m / p % B * x) := by rw [Nat.add_mul, Nat.mul_assoc]
  rw [this, Nat.add_mul_div_left _ _ hp, Nat.add_comm (m % p * x / p)]
def tcar (m x i : Nat) : Nat := m % B ^ i * x / B ^ i
theorem oY (m x : Nat) : tcar m x 0 = 0 := by simp [tcar, Nat.mod_one]
theorem uu (m x i : Nat) (hx : x < B) : tcar m x i < B := by
 have hp : 0 < B ^ i := Nat.pow_pos bi
 have h1 := Nat.mod_lt m hp
 unfold tcar
 apply Nat.div_lt_of_lt_mul
 by_cases x0 : x = 0
 ·subst x0; rw [Nat.mul_zero]; exact Nat.mul_pos hp bi
 ·exact Nat.lt_of_lt_of_le (Nat.mul_lt_mul_of_pos_right h1 (by omega)) (Nat.mul_le_mul_left _ (by omega))
def wn (n i : Nat) : Nat := n / B ^ i % B
theorem lz (n i : Nat) : wn n i < B := Nat.mod_lt _ bi
theorem bH (n i : Nat) : wd n i = (wn n i : Int) := rfl
theorem rV (m x i : Nat) : (wn m i * x + tcar m x i) % B = wn (m * x) i := (iv (B ^ i) m x (Nat.pow_pos bi)).1
theorem rU (m x i : Nat) : (wn m i * x + tcar m x i) / B = tcar m x (i + 1) := by
 have := (iv (B ^ i) m x (Nat.pow_pos bi)).2
 unfold tcar; rw [Nat.pow_succ]; exact this
theorem qF (a x c : Nat) : (a * x % B + c) % B = (a * x + c) % B ∧ a * x / B + (a * x % B + c) / B = (a * x + c) / B := by
 constructor
 ·simp [Nat.add_mod]
 ·have h := Nat.div_add_mod (a * x) B
  have : a * x + c = (a * x % B + c) + B * (a * x / B) := by omega
  rw [this, Nat.add_mul_div_left _ _ bi]; omega
theorem io (p m b : Nat) (hp : 0 < p) (hb : (2 * (m % p) + b) / p ≤ 1) :
  (2 * (m / p % B) + (2 * (m % p) + b) / p) % B = (2 * m + b) / p % B ∧
  m / p % B / 9223372036854775808 = (2 * (m % (p * B)) + b) / (p * B) := by
 have e : (2 * m + b) / p = 2 * (m / p) + (2 * (m % p) + b) / p := by
  have h1 := Nat.div_add_mod m p
  have : 2 * m + b = (2 * (m % p) + b) + p * (2 * (m / p)) := by
   have : p * (2 * (m / p)) = 2 * (p * (m / p)) := by rw [Nat.mul_left_comm]
   omega
  rw [this, Nat.add_mul_div_left _ _ hp]; omega
 constructor
 ·rw [e]
  generalize (2 * (m % p) + b) / p = z at *
  rw [dO]; omega
 ·rw [cF, ← Nat.div_div_eq_div_mul]
  have : 2 * (m % p + p * (m / p % B)) + b = (2 * (m % p) + b) + p * (2 * (m / p % B)) := by
   have : p * (2 * (m / p % B)) = 2 * (p * (m / p % B)) := by rw [Nat.mul_left_comm]
   omega
  rw [this, Nat.add_mul_div_left _ _ hp]
  generalize (2 * (m % p) + b) / p = z at *
  rw [dO]; omega
def sbit (m b i : Nat) : Nat := (2 * (m % B ^ i) + b) / B ^ i
theorem oU (m b : Nat) : sbit m b 0 = b := by simp [sbit, Nat.mod_one]
theorem jM (m b i : Nat) (hb : b ≤ 1) : sbit m b i ≤ 1 := by
 have hp : 0 < B ^ i := Nat.pow_pos bi
 have h1 := Nat.mod_lt m hp
 have : sbit m b i < 2 := Nat.div_lt_of_lt_mul (by omega)
 omega
theorem l8 (m b i : Nat) (hb : b ≤ 1) : (2 * wn m i + sbit m b i) % B = wn (2 * m + b) i :=
 (io (B ^ i) m b (Nat.pow_pos bi) (jM m b i hb)).1
theorem rH (m b i : Nat) (hb : b ≤ 1) : wn m i / 9223372036854775808 = sbit m b (i + 1) := by
 have := (io (B ^ i) m b (Nat.pow_pos bi) (jM m b i hb)).2
 unfold sbit; rw [Nat.pow_succ]; exact this
theorem qe (p m d : Nat) (hd : 0 < d) :
  ((m / (p * B) % d) * B + m / p % B) / d = m / d / p % B ∧ ((m / (p * B) % d) * B + m / p % B) % d = m / p % d := by
 have e : m / p = B * (m / (p * B)) + m / p % B := by rw [← Nat.div_div_eq_div_mul]; exact (Nat.div_add_mod _ _).symm
 have hR := Nat.mod_lt (m / (p * B)) hd
 have hX := Nat.div_add_mod (m / (p * B)) d
 have hw : m / p % B < B := Nat.mod_lt _ bi
 have e2 : m / p = (m / (p * B) % d * B + m / p % B) + d * (B * (m / (p * B) / d)) := by
  have h3 : B * (m / (p * B)) = B * (d * (m / (p * B) / d)) + B * (m / (p * B) % d) := by rw [← Nat.mul_add, hX]
  have h4 : B * (d * (m / (p * B) / d)) = d * (B * (m / (p * B) / d)) := Nat.mul_left_comm _ _ _
  have h5 : B * (m / (p * B) % d) = m / (p * B) % d * B := Nat.mul_comm _ _
  omega
 constructor
 ·have : m / d / p = m / p / d := by rw [Nat.div_div_eq_div_mul, Nat.div_div_eq_div_mul, Nat.mul_comm]
  rw [this]
  have h6 : m / p / d = (m / (p * B) % d * B + m / p % B) / d + B * (m / (p * B) / d) := by
   conv => lhs; rw [e2]
   rw [Nat.add_mul_div_left _ _ hd]
  rw [h6, Nat.add_mul_mod_self_left]
  symm
  apply Nat.mod_eq_of_lt
  apply Nat.div_lt_of_lt_mul
  calc m / (p * B) % d * B + m / p % B < m / (p * B) % d * B + B := by omega
   _ = (m / (p * B) % d + 1) * B := by rw [Nat.add_mul, Nat.one_mul]
   _ ≤ d * B := Nat.mul_le_mul_right _ (by omega)
 ·conv => rhs; rw [e2]
  rw [Nat.add_mul_mod_self_left]
theorem uE (m d i : Nat) (hd : 0 < d) : (m / B ^ (i + 1) % d * B + wn m i) / d = wn (m / d) i ∧ (m / B ^ (i + 1) % d * B + wn m i) % d = m / B ^ i % d := by
 have := qe (B ^ i) m d hd
 rw [Nat.pow_succ]; exact this
theorem bZ (m i : Nat) : m / B ^ i = B * (m / B ^ (i + 1)) + wn m i := by
 rw [Nat.pow_succ, ← Nat.div_div_eq_div_mul]; exact (Nat.div_add_mod _ _).symm
theorem i6 {m n i : Nat} (h : m / B ^ (i + 1) = n / B ^ (i + 1)) (hw : wn m i < wn n i) : m < n := by
 have h1 := bZ m i
 have h2 := bZ n i
 rw [h] at h1
 exact Nat.lt_of_div_lt_div (c := B ^ i) (by omega)
theorem bj {m n i : Nat} (h : m / B ^ (i + 1) = n / B ^ (i + 1)) (hw : wn m i = wn n i) : m / B ^ i = n / B ^ i := by
 rw [bZ m i, bZ n i, h, hw]
def bl (n : Nat) : Nat := if n = 0 then 0 else n.log2 + 1
theorem cH (n k : Nat) : bl n ≤ k ↔ n < 2 ^ k := by
 unfold bl
 by_cases h : n = 0
 ·subst h; simp; exact Nat.pow_pos (by decide)
 ·rw [if_neg h, ← Nat.log2_lt h]; omega
theorem iM {n k : Nat} (h : ∀ j, k ≤ j ↔ n < 2 ^ j) : bl n = k := by
 apply Nat.le_antisymm
 ·exact (cH n k).2 ((h k).1 (Nat.le_refl _))
 ·exact (h _).2 ((cH n _).1 (Nat.le_refl _))
theorem nN : ∀ n, n < 2 ^ 64 → Lib.bitLen n = bl n := by
 intro n
 induction n using Nat.strongRecOn with
 | _ n ih =>
  intro h
  by_cases h0 : n = 0
  ·subst h0; rfl
  ·rw [Lib.bitLen_half n h0 h, ih (n / 2) (by omega) (by omega)]
   unfold bl
   rw [if_neg h0]
   by_cases h1 : n / 2 = 0
   ·have : n = 1 := by omega
    subst this; rfl
   ·rw [if_neg h1, Nat.log2_def n, if_pos (by omega)]; omega
theorem sI {n i : Nat} (h : n / B ^ (i + 1) = 0) (h0 : wn n i ≠ 0) : bl n = i * 64 + bl (wn n i) := by
 have e : n / B ^ i = wn n i := by rw [bZ, h]; simp
 have eB : B ^ i = 2 ^ (64 * i) := by rw [show B = 2 ^ 64 from rfl, ← Nat.pow_mul]
 apply iM
 intro j
 constructor
 ·intro hj
  have : wn n i < 2 ^ (j - i * 64) := (cH _ _).1 (by omega)
  rw [← e, eB, Nat.div_lt_iff_lt_mul (Nat.pow_pos (by decide)), ← Nat.pow_add] at this
  rw [show j - i * 64 + 64 * i = j by omega] at this
  exact this
 ·intro hj
  by_cases c : i * 64 ≤ j
  ·have : wn n i < 2 ^ (j - i * 64) := by
    rw [← e, eB, Nat.div_lt_iff_lt_mul (Nat.pow_pos (by decide)), ← Nat.pow_add, show j - i * 64 + 64 * i = j by omega]
    exact hj
   have := (cH _ _).2 this
   omega
  ·exfalso
   apply h0
   rw [← e, eB]
   apply Nat.div_eq_of_lt
   exact Nat.lt_of_lt_of_le hj (Nat.pow_le_pow_right (by decide) (by omega))
theorem sJ {n : Nat} (h : n = 0) : bl n = 0 := by subst h; rfl
def val : List Nat → Nat
 | [] => 0
 | d :: ds => d + 4294967296 * val ds
def Sm (ds : List Nat) : Prop := ∀ k, k < ds.length → ds.getD k 0 < 4294967296
def pw (k : Nat) : Nat := 4294967296 ^ k
theorem cy (k : Nat) : pw (k + 1) = 4294967296 * pw k := by unfold pw; rw [Nat.pow_succ, Nat.mul_comm]
theorem wg (k : Nat) : 0 < pw k := Nat.pow_pos (by decide)
theorem r7 (a b : Nat) : pw (a + b) = pw a * pw b := by unfold pw; rw [Nat.pow_add]
theorem ni {a b : Nat} (h : a ≤ b) : pw a ≤ pw b := Nat.pow_le_pow_right (by decide) h
theorem r8 (k : Nat) : pw k = 2 ^ (32 * k) := by unfold pw; rw [show (4294967296 : Nat) = 2 ^ 32 from rfl, ← Nat.pow_mul]
theorem dM (a b : List Nat) : val (a ++ b) = val a + pw a.length * val b := by
 induction a with
 | nil => simp [val, pw]
 | cons d a ih =>
  simp only [List.cons_append, val, ih, List.length_cons, cy, Nat.mul_add]
  rw [← Nat.mul_assoc]; omega
theorem cL (a : List Nat) (d : Nat) : val (a ++ [d]) = val a + pw a.length * d := by rw [dM]; simp [val]
theorem ww : Sm [] := fun k h => by simp at h
theorem fZ {ds : List Nat} (h : Sm ds) : ∀ d ∈ ds, d < 4294967296 := by
 intro d hd
 obtain ⟨k, hk, e⟩ := List.getElem_of_mem hd
 have := h k hk
 simpa [hk, e] using this
theorem ir {ds : List Nat} (h : ∀ d ∈ ds, d < 4294967296) : Sm ds := by
 intro k hk
 simp only [List.getD_eq_getElem?_getD, List.getElem?_eq_getElem hk, Option.getD_some]
 exact h _ (List.getElem_mem hk)
theorem oX {a b : List Nat} (ha : Sm a) (hb : Sm b) : Sm (a ++ b) :=
 ir fun d hd => by
  rcases List.mem_append.1 hd with h | h
  ·exact fZ ha d h
  ·exact fZ hb d h
theorem eI {a : List Nat} {d : Nat} (ha : Sm a) (hd : d < 4294967296) : Sm (a ++ [d]) :=
 oX ha (ir fun x hx => by simp at hx; omega)
theorem jO {a : List Nat} (k : Nat) (ha : Sm a) : Sm (a.take k) := ir fun d hd => fZ ha d (List.mem_of_mem_take hd)
theorem dK (n : Nat) : Sm (List.replicate n 0) := ir fun d hd => by rw [List.eq_of_mem_replicate hd]; decide
theorem jN {a : List Nat} {k d : Nat} (ha : Sm a) (hd : d < 4294967296) : Sm (a.set k d) := ir fun x hx => by
 rcases List.mem_or_eq_of_mem_set hx with h | h
 ·exact fZ ha x h
 ·omega
theorem be {a : List Nat} (k : Nat) (ha : Sm a) : a.getD k 0 < 4294967296 := by
 by_cases h : k < a.length
 ·exact ha k h
 ·simp [h]
theorem eV (n : Nat) : val (List.replicate n 0) = 0 := by
 induction n with
 | zero => rfl
 | succ n ih => simp [List.replicate_succ, val, ih]
theorem jU {a : List Nat} (h : Sm a) : val a < pw a.length := by
 induction a with
 | nil => simp [val, pw]
 | cons d a ih =>
  have hd := fZ h d (by simp)
  have := ih (ir fun x hx => fZ h x (by simp [hx]))
  simp only [val, List.length_cons, cy]; omega
theorem mu (a : List Nat) (k : Nat) (h : k < a.length) : a.take (k + 1) = a.take k ++ [a.getD k 0] := by
 rw [List.take_succ_eq_append_getElem h]; simp [h]
theorem aL (a : List Nat) (k : Nat) (h : k < a.length) : val (a.take (k + 1)) = val (a.take k) + pw k * a.getD k 0 := by
 rw [mu a k h, cL, List.length_take, Nat.min_eq_left (by omega)]
theorem aK (a : List Nat) (k : Nat) (h : a.length ≤ k) : val (a.take k) = val a := by rw [List.take_of_length_le h]
theorem aH (a : List Nat) (k : Nat) : val (a.take (k + 1)) = val (a.take k) + pw k * a.getD k 0 := by
 by_cases h : k < a.length
 ·exact aL a k h
 ·rw [aK a k (by omega), aK a (k + 1) (by omega)]; simp [h]
theorem nA (a : List Nat) (k : Nat) (h : k ≤ a.length) : val a = val (a.take k) + pw k * val (a.drop k) := by
 have := dM (a.take k) (a.drop k)
 rw [List.take_append_drop, List.length_take, Nat.min_eq_left h] at this
 exact this
theorem nB (a : List Nat) (k d : Nat) (h : k < a.length) : val (a.set k d) + pw k * a.getD k 0 = val a + pw k * d := by
 have e1 : a.set k d = a.take k ++ (d :: a.drop (k + 1)) := by rw [List.set_eq_take_append_cons_drop]; simp [h]
 have e2 : a = a.take k ++ (a.getD k 0 :: a.drop (k + 1)) := by
  conv => lhs; rw [← List.take_append_drop k a, List.drop_eq_getElem_cons h]
  simp [h]
 have v1 := dM (a.take k) (d :: a.drop (k + 1))
 have v2 := dM (a.take k) (a.getD k 0 :: a.drop (k + 1))
 rw [← e1] at v1
 rw [← e2] at v2
 rw [v1, v2, List.length_take, Nat.min_eq_left (by omega)]
 simp only [val, Nat.mul_add]
 omega
structure Nd (ds : List Nat) : Prop where
 sm : Sm ds
 top : 0 < ds.length → pw (ds.length - 1) ≤ val ds
theorem Nd.lt {a : List Nat} (h : Nd a) : val a < pw a.length := jU h.sm
theorem Nd.zero {a : List Nat} (h : Nd a) : val a = 0 ↔ a.length = 0 := by
 constructor
 ·intro e
  by_cases hl : 0 < a.length
  ·have := h.top hl; have := wg (a.length - 1); omega
  ·omega
 ·intro e
  have : a = [] := List.length_eq_zero_iff.1 e
  subst this; rfl
theorem Nd.len_lt {a b : List Nat} (ha : Nd a) (hb : Nd b) (h : a.length < b.length) : val a < val b := by
 have h1 := ha.lt
 have h2 := hb.top (by omega)
 have := ni (show a.length ≤ b.length - 1 by omega)
 omega
theorem Nd.len_le {a b : List Nat} (ha : Nd a) (hb : Nd b) (h : val a ≤ val b) : a.length ≤ b.length := by
 by_cases hl : b.length < a.length
 ·have := hb.len_lt ha hl; omega
 ·omega
theorem lq {a b : List Nat} (ha : Sm a) (hb : Sm b) (hl : a.length = b.length) (k : Nat) (hk : k < a.length) (he : a.drop (k + 1) = b.drop (k + 1)) (h : a.getD k 0 < b.getD k 0) : val a < val b := by
 have e1 := nA a (k + 1) (by omega)
 have e2 := nA b (k + 1) (by omega)
 have s1 := aL a k hk
 have s2 := aL b k (by omega)
 have l1 := jU (jO k ha)
 have l2 := jU (jO k hb)
 rw [List.length_take, Nat.min_eq_left (by omega)] at l1 l2
 rw [e1, e2, he, s1, s2]
 have : pw k * (a.getD k 0 + 1) ≤ pw k * b.getD k 0 := Nat.mul_le_mul_left _ h
 rw [Nat.mul_add] at this
 omega
theorem nZ {a b : List Nat} (hl : a.length = b.length) (k : Nat) (hk : k < a.length) (he : a.drop (k + 1) = b.drop (k + 1)) (h : a.getD k 0 = b.getD k 0) : a.drop k = b.drop k := by
 rw [List.drop_eq_getElem_cons hk, List.drop_eq_getElem_cons (show k < b.length by omega), he]
 simp [hk, show k < b.length by omega] at h
 rw [h]
def cmpN (x y : Nat) : Int := if x < y then -1 else if y < x then 1 else 0
theorem jk {x y : Nat} (h : x < y) : cmpN x y = -1 := by simp [cmpN, h]
theorem jj {x y : Nat} (h : y < x) : cmpN x y = 1 := by simp [cmpN, h]; omega
theorem mI (x : Nat) : cmpN x x = 0 := by simp [cmpN]
theorem dF (p A B c x y s : Nat) (h : s + p * c = A + B) : s + p * ((c + x + y) % 4294967296) + (4294967296 * p) * ((c + x + y) / 4294967296) = (A + p * x) + (B + p * y) := by
 have e := Nat.div_add_mod (c + x + y) 4294967296
 generalize (c + x + y) % 4294967296 = m at *
 generalize (c + x + y) / 4294967296 = q at *
 have : p * m + 4294967296 * p * q = p * (c + x + y) := by rw [← e, Nat.mul_add, Nat.mul_comm 4294967296 p, Nat.mul_assoc]; omega
 rw [Nat.mul_add, Nat.mul_add] at this
 omega
end Go.Proofs.YtjkiplndbcmmbaaGreatDoor