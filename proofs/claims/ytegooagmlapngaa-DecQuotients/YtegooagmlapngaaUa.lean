/- The plain arithmetic under the document's long numbers: lists of digits below 2^32, the lowest first. No program's run in this text. -/
import Derived.Lib.BitFns
namespace Go.Proofs.Ytegooagmlapngaa

/-- The number of a list of digits. -/
def val : List Nat → Nat
  | [] => 0
  | d :: ds => d + 4294967296 * val ds
def Sm (ds : List Nat) : Prop := ∀ k, k < ds.length → ds.getD k 0 < 4294967296
/-- The base to a power, behind a name. -/
def pw (k : Nat) : Nat := 4294967296 ^ k
theorem pw_zero : pw 0 = 1 := rfl
theorem pw_succ (k : Nat) : pw (k + 1) = 4294967296 * pw k := by unfold pw; rw [Nat.pow_succ, Nat.mul_comm]
theorem pw_pos (k : Nat) : 0 < pw k := Nat.pow_pos (by decide)
theorem pw_add (a b : Nat) : pw (a + b) = pw a * pw b := by unfold pw; rw [Nat.pow_add]
theorem pw_mono {a b : Nat} (h : a ≤ b) : pw a ≤ pw b := Nat.pow_le_pow_right (by decide) h
theorem pw_two (k : Nat) : pw k = 2 ^ (32 * k) := by unfold pw; rw [show (4294967296 : Nat) = 2 ^ 32 from rfl, ← Nat.pow_mul]

theorem val_append (a b : List Nat) : val (a ++ b) = val a + pw a.length * val b := by
  induction a with
  | nil => simp [val, pw]
  | cons d a ih =>
    simp only [List.cons_append, val, ih, List.length_cons, pw_succ, Nat.mul_add]
    rw [← Nat.mul_assoc]; omega
theorem val_snoc (a : List Nat) (d : Nat) : val (a ++ [d]) = val a + pw a.length * d := by rw [val_append]; simp [val]
theorem sm_nil : Sm [] := fun k h => by simp at h
theorem sm_mem {ds : List Nat} (h : Sm ds) : ∀ d ∈ ds, d < 4294967296 := by
  intro d hd
  obtain ⟨k, hk, e⟩ := List.getElem_of_mem hd
  have := h k hk
  simpa [hk, e] using this
theorem sm_of {ds : List Nat} (h : ∀ d ∈ ds, d < 4294967296) : Sm ds := by
  intro k hk
  simp only [List.getD_eq_getElem?_getD, List.getElem?_eq_getElem hk, Option.getD_some]
  exact h _ (List.getElem_mem hk)
theorem sm_append {a b : List Nat} (ha : Sm a) (hb : Sm b) : Sm (a ++ b) :=
  sm_of fun d hd => by
    rcases List.mem_append.1 hd with h | h
    · exact sm_mem ha d h
    · exact sm_mem hb d h
theorem sm_snoc {a : List Nat} {d : Nat} (ha : Sm a) (hd : d < 4294967296) : Sm (a ++ [d]) :=
  sm_append ha (sm_of fun x hx => by simp at hx; omega)
theorem sm_take {a : List Nat} (k : Nat) (ha : Sm a) : Sm (a.take k) := sm_of fun d hd => sm_mem ha d (List.mem_of_mem_take hd)
theorem sm_drop {a : List Nat} (k : Nat) (ha : Sm a) : Sm (a.drop k) := sm_of fun d hd => sm_mem ha d (List.mem_of_mem_drop hd)
theorem sm_replicate (n : Nat) : Sm (List.replicate n 0) := sm_of fun d hd => by rw [List.eq_of_mem_replicate hd]; decide
theorem sm_set {a : List Nat} {k d : Nat} (ha : Sm a) (hd : d < 4294967296) : Sm (a.set k d) := sm_of fun x hx => by
  rcases List.mem_or_eq_of_mem_set hx with h | h
  · exact sm_mem ha x h
  · omega
theorem sm_getD {a : List Nat} (k : Nat) (ha : Sm a) : a.getD k 0 < 4294967296 := by
  by_cases h : k < a.length
  · exact ha k h
  · simp [h]
theorem val_replicate (n : Nat) : val (List.replicate n 0) = 0 := by
  induction n with
  | zero => rfl
  | succ n ih => simp [List.replicate_succ, val, ih]
theorem val_lt {a : List Nat} (h : Sm a) : val a < pw a.length := by
  induction a with
  | nil => simp [val, pw]
  | cons d a ih =>
    have hd := sm_mem h d (by simp)
    have := ih (sm_of fun x hx => sm_mem h x (by simp [hx]))
    simp only [val, List.length_cons, pw_succ]; omega
theorem take_snoc' (a : List Nat) (k : Nat) (h : k < a.length) : a.take (k + 1) = a.take k ++ [a.getD k 0] := by
  rw [List.take_succ_eq_append_getElem h]; simp [h]
theorem val_take_succ (a : List Nat) (k : Nat) (h : k < a.length) : val (a.take (k + 1)) = val (a.take k) + pw k * a.getD k 0 := by
  rw [take_snoc' a k h, val_snoc, List.length_take, Nat.min_eq_left (by omega)]
theorem val_take_past (a : List Nat) (k : Nat) (h : a.length ≤ k) : val (a.take k) = val a := by rw [List.take_of_length_le h]
/-- the digit at k, nought behind the end: the step of a sum -/
theorem val_take_step (a : List Nat) (k : Nat) : val (a.take (k + 1)) = val (a.take k) + pw k * a.getD k 0 := by
  by_cases h : k < a.length
  · exact val_take_succ a k h
  · rw [val_take_past a k (by omega), val_take_past a (k + 1) (by omega)]; simp [h]
theorem val_cut (a : List Nat) (k : Nat) (h : k ≤ a.length) : val a = val (a.take k) + pw k * val (a.drop k) := by
  have := val_append (a.take k) (a.drop k)
  rw [List.take_append_drop, List.length_take, Nat.min_eq_left h] at this
  exact this
theorem val_set (a : List Nat) (k d : Nat) (h : k < a.length) : val (a.set k d) + pw k * a.getD k 0 = val a + pw k * d := by
  have e1 : a.set k d = a.take k ++ (d :: a.drop (k + 1)) := by rw [List.set_eq_take_append_cons_drop]; simp [h]
  have e2 : a = a.take k ++ (a.getD k 0 :: a.drop (k + 1)) := by
    conv => lhs; rw [← List.take_append_drop k a, List.drop_eq_getElem_cons h]
    simp [h]
  have v1 := val_append (a.take k) (d :: a.drop (k + 1))
  have v2 := val_append (a.take k) (a.getD k 0 :: a.drop (k + 1))
  rw [← e1] at v1
  rw [← e2] at v2
  rw [v1, v2, List.length_take, Nat.min_eq_left (by omega)]
  simp only [val, Nat.mul_add]
  omega

/-- In form: the last digit is not nought. -/
structure Nd (ds : List Nat) : Prop where
  sm : Sm ds
  top : 0 < ds.length → pw (ds.length - 1) ≤ val ds
theorem nd_nil : Nd [] := ⟨sm_nil, fun h => by simp at h⟩
theorem Nd.lt {a : List Nat} (h : Nd a) : val a < pw a.length := val_lt h.sm
theorem Nd.zero {a : List Nat} (h : Nd a) : val a = 0 ↔ a.length = 0 := by
  constructor
  · intro e
    by_cases hl : 0 < a.length
    · have := h.top hl; have := pw_pos (a.length - 1); omega
    · omega
  · intro e
    have : a = [] := List.length_eq_zero_iff.1 e
    subst this; rfl
theorem Nd.len_lt {a b : List Nat} (ha : Nd a) (hb : Nd b) (h : a.length < b.length) : val a < val b := by
  have h1 := ha.lt
  have h2 := hb.top (by omega)
  have := pw_mono (show a.length ≤ b.length - 1 by omega)
  omega
theorem Nd.len_le {a b : List Nat} (ha : Nd a) (hb : Nd b) (h : val a ≤ val b) : a.length ≤ b.length := by
  by_cases hl : b.length < a.length
  · have := hb.len_lt ha hl; omega
  · omega
/-- where all digits above k are alike, those at k say it -/
theorem val_less {a b : List Nat} (ha : Sm a) (hb : Sm b) (hl : a.length = b.length) (k : Nat) (hk : k < a.length) (he : a.drop (k + 1) = b.drop (k + 1)) (h : a.getD k 0 < b.getD k 0) : val a < val b := by
  have e1 := val_cut a (k + 1) (by omega)
  have e2 := val_cut b (k + 1) (by omega)
  have s1 := val_take_succ a k hk
  have s2 := val_take_succ b k (by omega)
  have l1 := val_lt (sm_take k ha)
  have l2 := val_lt (sm_take k hb)
  rw [List.length_take, Nat.min_eq_left (by omega)] at l1 l2
  rw [e1, e2, he, s1, s2]
  have : pw k * (a.getD k 0 + 1) ≤ pw k * b.getD k 0 := Nat.mul_le_mul_left _ h
  rw [Nat.mul_add] at this
  omega
theorem drop_same {a b : List Nat} (hl : a.length = b.length) (k : Nat) (hk : k < a.length) (he : a.drop (k + 1) = b.drop (k + 1)) (h : a.getD k 0 = b.getD k 0) : a.drop k = b.drop k := by
  rw [List.drop_eq_getElem_cons hk, List.drop_eq_getElem_cons (show k < b.length by omega), he]
  simp [hk, show k < b.length by omega] at h
  rw [h]
/-- -1, 0 or 1 -/
def cmpN (x y : Nat) : Int := if x < y then -1 else if y < x then 1 else 0
theorem cmpN_lt {x y : Nat} (h : x < y) : cmpN x y = -1 := by simp [cmpN, h]
theorem cmpN_gt {x y : Nat} (h : y < x) : cmpN x y = 1 := by simp [cmpN, h]; omega
theorem cmpN_eq (x : Nat) : cmpN x x = 0 := by simp [cmpN]

/-! sums -/
theorem plus_round (p A B c x y s : Nat) (h : s + p * c = A + B) : s + p * ((c + x + y) % 4294967296) + (4294967296 * p) * ((c + x + y) / 4294967296) = (A + p * x) + (B + p * y) := by
  have e := Nat.div_add_mod (c + x + y) 4294967296
  generalize (c + x + y) % 4294967296 = m at *
  generalize (c + x + y) / 4294967296 = q at *
  have : p * m + 4294967296 * p * q = p * (c + x + y) := by rw [← e, Nat.mul_add, Nat.mul_comm 4294967296 p, Nat.mul_assoc]; omega
  rw [Nat.mul_add, Nat.mul_add] at this
  omega
/-! differences: s digits so far, b the borrow -/
theorem minus_round (p A B b x y s : Nat) (hy : y + b ≤ x + 4294967296) (h : s + B = A + p * b) :
    s + p * ((x + 4294967296 - b - y) % 4294967296) + (B + p * y) + (4294967296 * p) * ((x + 4294967296 - b - y) / 4294967296) = (A + p * x) + 4294967296 * p := by
  have e := Nat.div_add_mod (x + 4294967296 - b - y) 4294967296
  generalize (x + 4294967296 - b - y) % 4294967296 = m at *
  generalize (x + 4294967296 - b - y) / 4294967296 = q at *
  have h1 : 4294967296 * q + m + b + y = x + 4294967296 := by omega
  have : p * m + 4294967296 * p * q + p * b + p * y = p * x + 4294967296 * p := by
    have : p * (4294967296 * q + m + b + y) = p * (x + 4294967296) := by rw [h1]
    simp only [Nat.mul_add] at this
    rw [Nat.mul_comm 4294967296 p, Nat.mul_assoc]; omega
  omega
/-! bits -/
/-- s bits, and no fewer -/
structure IsSize (x s : Nat) : Prop where
  hi : x < 2 ^ s
  lo : 0 < s → 2 ^ (s - 1) ≤ x
theorem isSize_zero : IsSize 0 0 := ⟨by decide, fun h => by omega⟩
theorem isSize_le {x y s t : Nat} (hx : IsSize x s) (hy : IsSize y t) (h : x ≤ y) : s ≤ t := by
  by_cases hs : t < s
  · have h1 := hx.lo (by omega)
    have h2 := hy.hi
    have : 2 ^ t ≤ 2 ^ (s - 1) := Nat.pow_le_pow_right (by decide) (by omega)
    omega
  · omega
theorem isSize_bound {x s k : Nat} (hx : IsSize x s) (h : x < 2 ^ k) : s ≤ k := by
  by_cases hs : k < s
  · have h1 := hx.lo (by omega)
    have : 2 ^ k ≤ 2 ^ (s - 1) := Nat.pow_le_pow_right (by decide) (by omega)
    omega
  · omega
theorem isSize_above {x s k : Nat} (hx : IsSize x s) (h : 2 ^ k ≤ x) : k < s := by
  by_cases hs : s ≤ k
  · have h1 := hx.hi
    have : 2 ^ s ≤ 2 ^ k := Nat.pow_le_pow_right (by decide) hs
    omega
  · omega
/-- the top digit's bits, and the digits below it -/
theorem isSize_val {a : List Nat} (h : Nd a) (hl : 0 < a.length) {t : Nat} (ht : IsSize (a.getD (a.length - 1) 0) t) : IsSize (val a) (32 * (a.length - 1) + t) := by
  have hs := val_take_succ a (a.length - 1) (by omega)
  rw [show a.length - 1 + 1 = a.length by omega, List.take_length] at hs
  have hlt := val_lt (sm_take (a.length - 1) h.sm)
  rw [List.length_take, Nat.min_eq_left (by omega)] at hlt
  have htop := h.top hl
  have hd : 0 < a.getD (a.length - 1) 0 := by
    by_cases h0 : a.getD (a.length - 1) 0 = 0
    · rw [h0] at hs; omega
    · omega
  have ht0 : 0 < t := by
    by_cases h0 : t = 0
    · subst h0; have := ht.hi; omega
    · omega
  have h1 := ht.hi
  have h2 := ht.lo ht0
  constructor
  · rw [Nat.pow_add, ← pw_two, hs]
    have : pw (a.length - 1) * (a.getD (a.length - 1) 0 + 1) ≤ pw (a.length - 1) * 2 ^ t := Nat.mul_le_mul_left _ h1
    rw [Nat.mul_add] at this
    omega
  · intro _
    rw [show 32 * (a.length - 1) + t - 1 = 32 * (a.length - 1) + (t - 1) by omega, Nat.pow_add, ← pw_two, hs]
    have : pw (a.length - 1) * 2 ^ (t - 1) ≤ pw (a.length - 1) * a.getD (a.length - 1) 0 := Nat.mul_le_mul_left _ h2
    omega
/-- halving: the step of the loop that counts bits -/
theorem isSize_half {x n : Nat} (h : IsSize (x / 2) n) (hx : 0 < x) : IsSize x (n + 1) := by
  constructor
  · have := h.hi; rw [Nat.pow_succ]; omega
  · intro _
    by_cases hn : 0 < n
    · have := h.lo hn
      rw [show n + 1 - 1 = (n - 1) + 1 by omega, Nat.pow_succ]; omega
    · have : n = 0 := by omega
      subst this; simp; omega
/-! the quotient bit by bit -/
theorem quo_start {a b s t : Nat} (ha : IsSize a s) (hb : IsSize b t) (h0 : 0 < b) (h : t ≤ s) : a < b * 2 ^ (s - t + 1) := by
  have ht : 0 < t := by
    by_cases e : t = 0
    · subst e; have := hb.hi; omega
    · omega
  have h1 := ha.hi
  have h2 := hb.lo ht
  have h3 : 2 ^ (t - 1) * 2 ^ (s - t + 1) ≤ b * 2 ^ (s - t + 1) := Nat.mul_le_mul_right _ h2
  rw [← Nat.pow_add, show t - 1 + (s - t + 1) = s by omega] at h3
  omega
theorem quo_small {a b s t : Nat} (ha : IsSize a s) (hb : IsSize b t) (h : s < t) : a < b := by
  have h1 := ha.hi
  have h2 := hb.lo (by omega)
  have : 2 ^ s ≤ 2 ^ (t - 1) := Nat.pow_le_pow_right (by decide) (by omega)
  omega
theorem quo_yes {a b c q n : Nat} (h : a = q * b + c) (hc : c < b * 2 ^ (n + 1)) (hle : b * 2 ^ n ≤ c) : a = (q + 2 ^ n) * b + (c - b * 2 ^ n) ∧ c - b * 2 ^ n < b * 2 ^ n := by
  constructor
  · rw [Nat.add_mul, Nat.mul_comm (2 ^ n) b]; omega
  · rw [Nat.pow_succ, ← Nat.mul_assoc] at hc; omega
theorem quo_end {a b c q : Nat} (h : a = q * b + c) (hc : c < b) : q = a / b ∧ c = a % b := by
  subst h
  rw [Nat.mul_comm q b, Nat.add_comm]
  constructor
  · rw [Nat.add_mul_div_left _ _ (by omega), Nat.div_eq_of_lt hc]; omega
  · rw [Nat.add_mul_mod_self_left, Nat.mod_eq_of_lt hc]
end Go.Proofs.Ytegooagmlapngaa
