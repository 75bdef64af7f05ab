/- The plain arithmetic under the document's long numbers: lists of digits below 2^32, the lowest first. No program's run in this text. -/
import Derived.Lib.BitFns
import Derived.Test.YtbgglghapjfdeaaDoorProg
import Derived.WalkKit
import Derived.BigQuiet
import Derived.Deep.QuietTactic
namespace Go.Proofs.YtbgglghapjfdeaaDoor

/-- The number of a list of digits. -/
def val : List Nat → Nat
  | [] => 0
  | d :: ds => d + 4294967296 * val ds
def Sm (ds : List Nat) : Prop := ∀ k, k < ds.length → ds.getD k 0 < 4294967296
/-- The base to a power, behind a name. -/
def pw (k : Nat) : Nat := 4294967296 ^ k
theorem pw_zero : pw 0 = 1 := rfl
theorem pw_succ (k : Nat) : pw (k + 1) = 4294967296 * pw k := by unfold pw; rw [Nat.pow_succ, Nat.mul_comm]
theorem pw_pos (k : Nat) : 0 < pw k := Nat.pow_pos (by decide)
theorem pw_add (a b : Nat) : pw (a + b) = pw a * pw b := by unfold pw; rw [Nat.pow_add]
theorem pw_mono {a b : Nat} (h : a ≤ b) : pw a ≤ pw b := Nat.pow_le_pow_right (by decide) h
theorem pw_two (k : Nat) : pw k = 2 ^ (32 * k) := by unfold pw; rw [show (4294967296 : Nat) = 2 ^ 32 from rfl, ← Nat.pow_mul]

theorem val_append (a b : List Nat) : val (a ++ b) = val a + pw a.length * val b := by
  induction a with
  | nil => simp [val, pw]
  | cons d a ih =>
    simp only [List.cons_append, val, ih, List.length_cons, pw_succ, Nat.mul_add]
    rw [← Nat.mul_assoc]; omega
theorem val_snoc (a : List Nat) (d : Nat) : val (a ++ [d]) = val a + pw a.length * d := by rw [val_append]; simp [val]
theorem sm_nil : Sm [] := fun k h => by simp at h
theorem sm_mem {ds : List Nat} (h : Sm ds) : ∀ d ∈ ds, d < 4294967296 := by
  intro d hd
  obtain ⟨k, hk, e⟩ := List.getElem_of_mem hd
  have := h k hk
  simpa [hk, e] using this
theorem sm_of {ds : List Nat} (h : ∀ d ∈ ds, d < 4294967296) : Sm ds := by
  intro k hk
  simp only [List.getD_eq_getElem?_getD, List.getElem?_eq_getElem hk, Option.getD_some]
  exact h _ (List.getElem_mem hk)
theorem sm_append {a b : List Nat} (ha : Sm a) (hb : Sm b) : Sm (a ++ b) :=
  sm_of fun d hd => by
    rcases List.mem_append.1 hd with h | h
    · exact sm_mem ha d h
    · exact sm_mem hb d h
theorem sm_snoc {a : List Nat} {d : Nat} (ha : Sm a) (hd : d < 4294967296) : Sm (a ++ [d]) :=
  sm_append ha (sm_of fun x hx => by simp at hx; omega)
theorem sm_take {a : List Nat} (k : Nat) (ha : Sm a) : Sm (a.take k) := sm_of fun d hd => sm_mem ha d (List.mem_of_mem_take hd)
theorem sm_drop {a : List Nat} (k : Nat) (ha : Sm a) : Sm (a.drop k) := sm_of fun d hd => sm_mem ha d (List.mem_of_mem_drop hd)
theorem sm_replicate (n : Nat) : Sm (List.replicate n 0) := sm_of fun d hd => by rw [List.eq_of_mem_replicate hd]; decide
theorem sm_set {a : List Nat} {k d : Nat} (ha : Sm a) (hd : d < 4294967296) : Sm (a.set k d) := sm_of fun x hx => by
  rcases List.mem_or_eq_of_mem_set hx with h | h
  · exact sm_mem ha x h
  · omega
theorem sm_getD {a : List Nat} (k : Nat) (ha : Sm a) : a.getD k 0 < 4294967296 := by
  by_cases h : k < a.length
  · exact ha k h
  · simp [h]
theorem val_replicate (n : Nat) : val (List.replicate n 0) = 0 := by
  induction n with
  | zero => rfl
  | succ n ih => simp [List.replicate_succ, val, ih]
theorem val_lt {a : List Nat} (h : Sm a) : val a < pw a.length := by
  induction a with
  | nil => simp [val, pw]
  | cons d a ih =>
    have hd := sm_mem h d (by simp)
    have := ih (sm_of fun x hx => sm_mem h x (by simp [hx]))
    simp only [val, List.length_cons, pw_succ]; omega
theorem take_snoc' (a : List Nat) (k : Nat) (h : k < a.length) : a.take (k + 1) = a.take k ++ [a.getD k 0] := by
  rw [List.take_succ_eq_append_getElem h]; simp [h]
theorem val_take_succ (a : List Nat) (k : Nat) (h : k < a.length) : val (a.take (k + 1)) = val (a.take k) + pw k * a.getD k 0 := by
  rw [take_snoc' a k h, val_snoc, List.length_take, Nat.min_eq_left (by omega)]
theorem val_take_past (a : List Nat) (k : Nat) (h : a.length ≤ k) : val (a.take k) = val a := by rw [List.take_of_length_le h]
/-- the digit at k, nought behind the end: the step of a sum -/
theorem val_take_step (a : List Nat) (k : Nat) : val (a.take (k + 1)) = val (a.take k) + pw k * a.getD k 0 := by
  by_cases h : k < a.length
  · exact val_take_succ a k h
  · rw [val_take_past a k (by omega), val_take_past a (k + 1) (by omega)]; simp [h]
theorem val_cut (a : List Nat) (k : Nat) (h : k ≤ a.length) : val a = val (a.take k) + pw k * val (a.drop k) := by
  have := val_append (a.take k) (a.drop k)
  rw [List.take_append_drop, List.length_take, Nat.min_eq_left h] at this
  exact this
theorem val_set (a : List Nat) (k d : Nat) (h : k < a.length) : val (a.set k d) + pw k * a.getD k 0 = val a + pw k * d := by
  have e1 : a.set k d = a.take k ++ (d :: a.drop (k + 1)) := by rw [List.set_eq_take_append_cons_drop]; simp [h]
  have e2 : a = a.take k ++ (a.getD k 0 :: a.drop (k + 1)) := by
    conv => lhs; rw [← List.take_append_drop k a, List.drop_eq_getElem_cons h]
    simp [h]
  have v1 := val_append (a.take k) (d :: a.drop (k + 1))
  have v2 := val_append (a.take k) (a.getD k 0 :: a.drop (k + 1))
  rw [← e1] at v1
  rw [← e2] at v2
  rw [v1, v2, List.length_take, Nat.min_eq_left (by omega)]
  simp only [val, Nat.mul_add]
  omega

/-- In form: the last digit is not nought. -/
structure Nd (ds : List Nat) : Prop where
  sm : Sm ds
  top : 0 < ds.length → pw (ds.length - 1) ≤ val ds
theorem nd_nil : Nd [] := ⟨sm_nil, fun h => by simp at h⟩
theorem Nd.lt {a : List Nat} (h : Nd a) : val a < pw a.length := val_lt h.sm
theorem Nd.zero {a : List Nat} (h : Nd a) : val a = 0 ↔ a.length = 0 := by
  constructor
  · intro e
    by_cases hl : 0 < a.length
    · have := h.top hl; have := pw_pos (a.length - 1); omega
    · omega
  · intro e
    have : a = [] := List.length_eq_zero_iff.1 e
    subst this; rfl
theorem Nd.len_lt {a b : List Nat} (ha : Nd a) (hb : Nd b) (h : a.length < b.length) : val a < val b := by
  have h1 := ha.lt
  have h2 := hb.top (by omega)
  have := pw_mono (show a.length ≤ b.length - 1 by omega)
  omega
theorem Nd.len_le {a b : List Nat} (ha : Nd a) (hb : Nd b) (h : val a ≤ val b) : a.length ≤ b.length := by
  by_cases hl : b.length < a.length
  · have := hb.len_lt ha hl; omega
  · omega
/-- where all digits above k are alike, those at k say it -/
theorem val_less {a b : List Nat} (ha : Sm a) (hb : Sm b) (hl : a.length = b.length) (k : Nat) (hk : k < a.length) (he : a.drop (k + 1) = b.drop (k + 1)) (h : a.getD k 0 < b.getD k 0) : val a < val b := by
  have e1 := val_cut a (k + 1) (by omega)
  have e2 := val_cut b (k + 1) (by omega)
  have s1 := val_take_succ a k hk
  have s2 := val_take_succ b k (by omega)
  have l1 := val_lt (sm_take k ha)
  have l2 := val_lt (sm_take k hb)
  rw [List.length_take, Nat.min_eq_left (by omega)] at l1 l2
  rw [e1, e2, he, s1, s2]
  have : pw k * (a.getD k 0 + 1) ≤ pw k * b.getD k 0 := Nat.mul_le_mul_left _ h
  rw [Nat.mul_add] at this
  omega
theorem drop_same {a b : List Nat} (hl : a.length = b.length) (k : Nat) (hk : k < a.length) (he : a.drop (k + 1) = b.drop (k + 1)) (h : a.getD k 0 = b.getD k 0) : a.drop k = b.drop k := by
  rw [List.drop_eq_getElem_cons hk, List.drop_eq_getElem_cons (show k < b.length by omega), he]
  simp [hk, show k < b.length by omega] at h
  rw [h]
/-- -1, 0 or 1 -/
def cmpN (x y : Nat) : Int := if x < y then -1 else if y < x then 1 else 0
theorem cmpN_lt {x y : Nat} (h : x < y) : cmpN x y = -1 := by simp [cmpN, h]
theorem cmpN_gt {x y : Nat} (h : y < x) : cmpN x y = 1 := by simp [cmpN, h]; omega
theorem cmpN_eq (x : Nat) : cmpN x x = 0 := by simp [cmpN]

/-! sums -/
theorem plus_round (p A B c x y s : Nat) (h : s + p * c = A + B) : s + p * ((c + x + y) % 4294967296) + (4294967296 * p) * ((c + x + y) / 4294967296) = (A + p * x) + (B + p * y) := by
  have e := Nat.div_add_mod (c + x + y) 4294967296
  generalize (c + x + y) % 4294967296 = m at *
  generalize (c + x + y) / 4294967296 = q at *
  have : p * m + 4294967296 * p * q = p * (c + x + y) := by rw [← e, Nat.mul_add, Nat.mul_comm 4294967296 p, Nat.mul_assoc]; omega
  rw [Nat.mul_add, Nat.mul_add] at this
  omega
/-! differences: s digits so far, b the borrow -/
theorem minus_round (p A B b x y s : Nat) (hy : y + b ≤ x + 4294967296) (h : s + B = A + p * b) :
    s + p * ((x + 4294967296 - b - y) % 4294967296) + (B + p * y) + (4294967296 * p) * ((x + 4294967296 - b - y) / 4294967296) = (A + p * x) + 4294967296 * p := by
  have e := Nat.div_add_mod (x + 4294967296 - b - y) 4294967296
  generalize (x + 4294967296 - b - y) % 4294967296 = m at *
  generalize (x + 4294967296 - b - y) / 4294967296 = q at *
  have h1 : 4294967296 * q + m + b + y = x + 4294967296 := by omega
  have : p * m + 4294967296 * p * q + p * b + p * y = p * x + 4294967296 * p := by
    have : p * (4294967296 * q + m + b + y) = p * (x + 4294967296) := by rw [h1]
    simp only [Nat.mul_add] at this
    rw [Nat.mul_comm 4294967296 p, Nat.mul_assoc]; omega
  omega
/-! bits -/
/-- s bits, and no fewer -/
structure IsSize (x s : Nat) : Prop where
  hi : x < 2 ^ s
  lo : 0 < s → 2 ^ (s - 1) ≤ x
theorem isSize_zero : IsSize 0 0 := ⟨by decide, fun h => by omega⟩
theorem isSize_le {x y s t : Nat} (hx : IsSize x s) (hy : IsSize y t) (h : x ≤ y) : s ≤ t := by
  by_cases hs : t < s
  · have h1 := hx.lo (by omega)
    have h2 := hy.hi
    have : 2 ^ t ≤ 2 ^ (s - 1) := Nat.pow_le_pow_right (by decide) (by omega)
    omega
  · omega
theorem isSize_bound {x s k : Nat} (hx : IsSize x s) (h : x < 2 ^ k) : s ≤ k := by
  by_cases hs : k < s
  · have h1 := hx.lo (by omega)
    have : 2 ^ k ≤ 2 ^ (s - 1) := Nat.pow_le_pow_right (by decide) (by omega)
    omega
  · omega
theorem isSize_above {x s k : Nat} (hx : IsSize x s) (h : 2 ^ k ≤ x) : k < s := by
  by_cases hs : s ≤ k
  · have h1 := hx.hi
    have : 2 ^ s ≤ 2 ^ k := Nat.pow_le_pow_right (by decide) hs
    omega
  · omega
/-- the top digit's bits, and the digits below it -/
theorem isSize_val {a : List Nat} (h : Nd a) (hl : 0 < a.length) {t : Nat} (ht : IsSize (a.getD (a.length - 1) 0) t) : IsSize (val a) (32 * (a.length - 1) + t) := by
  have hs := val_take_succ a (a.length - 1) (by omega)
  rw [show a.length - 1 + 1 = a.length by omega, List.take_length] at hs
  have hlt := val_lt (sm_take (a.length - 1) h.sm)
  rw [List.length_take, Nat.min_eq_left (by omega)] at hlt
  have htop := h.top hl
  have hd : 0 < a.getD (a.length - 1) 0 := by
    by_cases h0 : a.getD (a.length - 1) 0 = 0
    · rw [h0] at hs; omega
    · omega
  have ht0 : 0 < t := by
    by_cases h0 : t = 0
    · subst h0; have := ht.hi; omega
    · omega
  have h1 := ht.hi
  have h2 := ht.lo ht0
  constructor
  · rw [Nat.pow_add, ← pw_two, hs]
    have : pw (a.length - 1) * (a.getD (a.length - 1) 0 + 1) ≤ pw (a.length - 1) * 2 ^ t := Nat.mul_le_mul_left _ h1
    rw [Nat.mul_add] at this
    omega
  · intro _
    rw [show 32 * (a.length - 1) + t - 1 = 32 * (a.length - 1) + (t - 1) by omega, Nat.pow_add, ← pw_two, hs]
    have : pw (a.length - 1) * 2 ^ (t - 1) ≤ pw (a.length - 1) * a.getD (a.length - 1) 0 := Nat.mul_le_mul_left _ h2
    omega
/-- halving: the step of the loop that counts bits -/
theorem isSize_half {x n : Nat} (h : IsSize (x / 2) n) (hx : 0 < x) : IsSize x (n + 1) := by
  constructor
  · have := h.hi; rw [Nat.pow_succ]; omega
  · intro _
    by_cases hn : 0 < n
    · have := h.lo hn
      rw [show n + 1 - 1 = (n - 1) + 1 by omega, Nat.pow_succ]; omega
    · have : n = 0 := by omega
      subst this; simp; omega
/-! the quotient bit by bit -/
theorem quo_start {a b s t : Nat} (ha : IsSize a s) (hb : IsSize b t) (h0 : 0 < b) (h : t ≤ s) : a < b * 2 ^ (s - t + 1) := by
  have ht : 0 < t := by
    by_cases e : t = 0
    · subst e; have := hb.hi; omega
    · omega
  have h1 := ha.hi
  have h2 := hb.lo ht
  have h3 : 2 ^ (t - 1) * 2 ^ (s - t + 1) ≤ b * 2 ^ (s - t + 1) := Nat.mul_le_mul_right _ h2
  rw [← Nat.pow_add, show t - 1 + (s - t + 1) = s by omega] at h3
  omega
theorem quo_small {a b s t : Nat} (ha : IsSize a s) (hb : IsSize b t) (h : s < t) : a < b := by
  have h1 := ha.hi
  have h2 := hb.lo (by omega)
  have : 2 ^ s ≤ 2 ^ (t - 1) := Nat.pow_le_pow_right (by decide) (by omega)
  omega
theorem quo_yes {a b c q n : Nat} (h : a = q * b + c) (hc : c < b * 2 ^ (n + 1)) (hle : b * 2 ^ n ≤ c) : a = (q + 2 ^ n) * b + (c - b * 2 ^ n) ∧ c - b * 2 ^ n < b * 2 ^ n := by
  constructor
  · rw [Nat.add_mul, Nat.mul_comm (2 ^ n) b]; omega
  · rw [Nat.pow_succ, ← Nat.mul_assoc] at hc; omega
theorem quo_end {a b c q : Nat} (h : a = q * b + c) (hc : c < b) : q = a / b ∧ c = a % b := by
  subst h
  rw [Nat.mul_comm q b, Nat.add_comm]
  constructor
  · rw [Nat.add_mul_div_left _ _ (by omega), Nat.div_eq_of_lt hc]; omega
  · rw [Nat.add_mul_mod_self_left, Nat.mod_eq_of_lt hc]
end Go.Proofs.YtbgglghapjfdeaaDoor
/- The document's long numbers: slices of digits; the contracts of Norm, Word, Fits, Compare, Size. -/
namespace Go.Proofs.YtbgglghapjfdeaaDoor
open Go.RowKit
set_option linter.unusedVariables false

/-- The digit number k, as the program has it. -/
def dg (ds : List Nat) (k : Nat) : Int := ((ds.getD k 0 : Nat) : Int)
theorem dg_bd {ds : List Nat} (h : Sm ds) (k : Nat) : 0 ≤ dg ds k ∧ dg ds k ≤ 4294967295 := by
  have := sm_getD k h
  unfold dg; omega
/-- The slice v holds the digits ds. -/
structure Row (w : World) (v : Value) (ds : List Nat) : Prop where
  short : ds.length ≤ 200
  form : ∃ a c, v = .slice a ds.length c ∧ ds.length ≤ c ∧ (0 < ds.length → ∃ b off, a = some ⟨b, off, none⟩ ∧ (b < w.heap.size ∧ ∃ cur fr, w.heap[b]? = some (.cells cur 42 fr)) ∧ ∀ k, k < ds.length → w.cell? ⟨b, off + k, none⟩ = some (.int .u64 (dg ds k)))
theorem Row.step {w w' : World} {v : Value} {ds : List Nat} (h : Row w v ds) (k : Below w.heap.size w w') : Row w' v ds := by
  obtain ⟨s, a, c, e, hc, f⟩ := h
  refine ⟨s, a, c, e, hc, fun h0 => ?_⟩
  obtain ⟨b, off, ea, ⟨hb, cur, fr, hk⟩, hx⟩ := f h0
  exact ⟨b, off, ea, ⟨Nat.lt_of_lt_of_le hb k.size, cur, fr, by rw [k.block b hb]; exact hk⟩, fun j hj => (k.cell (p := ⟨b, off + j, none⟩) hb).trans (hx j hj)⟩
/-- a store into a block of another kind -/
theorem Row.store {w : World} {v : Value} {ds : List Nat} (h : Row w v ds) {p : Nat} {cur : Array Value} {T : TypeId} {fr : Nat × Nat} (hp : w.heap[p]? = some (.cells cur T fr)) (hT : T ≠ 42) (o : Nat) (u : Value) : Row (w.setCell ⟨p, o, none⟩ u) v ds := by
  obtain ⟨s, a, c, e, hc, f⟩ := h
  refine ⟨s, a, c, e, hc, fun h0 => ?_⟩
  obtain ⟨b, off, ea, ⟨hb, cur', fr', hk⟩, hx⟩ := f h0
  have hne : b ≠ p := by
    intro e
    subst e
    rw [hp] at hk
    simp at hk
    exact hT hk.2.1
  have hh : (w.setCell ⟨p, o, none⟩ u).heap[b]? = w.heap[b]? := Below.heap_setCell _ _ _ _ hne
  exact ⟨b, off, ea, ⟨by simpa [World.setCell] using hb, cur', fr', by rw [hh]; exact hk⟩, fun j hj => (World.cell?_of_block (w := w) (a := ⟨b, off + j, none⟩) hh).trans (hx j hj)⟩
theorem dg_take (ds : List Nat) (n k : Nat) (h : k < n) : dg (ds.take n) k = dg ds k := by
  unfold dg; simp [h]
/-- The slice v holds the number x. -/
structure Nm (w : World) (v : Value) (x : Nat) : Prop where
  ex : ∃ ds, Row w v ds ∧ Nd ds ∧ val ds = x
theorem Nm.step {w w' : World} {v : Value} {x : Nat} (h : Nm w v x) (k : Below w.heap.size w w') : Nm w' v x := by
  obtain ⟨ds, r, n, e⟩ := h
  exact ⟨ds, r.step k, n, e⟩
theorem Nm.store {w : World} {v : Value} {x : Nat} (h : Nm w v x) {p : Nat} {cur : Array Value} {T : TypeId} {fr : Nat × Nat} (hp : w.heap[p]? = some (.cells cur T fr)) (hT : T ≠ 42) (o : Nat) (u : Value) : Nm (w.setCell ⟨p, o, none⟩ u) v x := by
  obtain ⟨ds, r, n, e⟩ := h
  exact ⟨ds, r.store hp hT o u, n, e⟩
theorem nm_nil (w : World) : Nm w (.slice none 0 0) 0 := ⟨[], ⟨by simp, none, 0, rfl, by simp, fun h => by simp at h⟩, nd_nil, rfl⟩
theorem row_cut {w : World} {a : Option Addr} {c : Nat} {ds : List Nat} (hm : ds.length ≤ 200) (hc : ds.length ≤ c) (k : Nat) (hk : k ≤ ds.length)
    (f : 0 < ds.length → ∃ b off, a = some ⟨b, off, none⟩ ∧ (b < w.heap.size ∧ ∃ cur fr, w.heap[b]? = some (.cells cur 42 fr)) ∧ ∀ k, k < ds.length → w.cell? ⟨b, off + k, none⟩ = some (.int .u64 (dg ds k))) : Row w (.slice a k c) (ds.take k) := by
  have hl : (ds.take k).length = k := by rw [List.length_take]; omega
  refine ⟨by omega, a, c, by rw [hl], by omega, fun h => ?_⟩
  obtain ⟨b, off, e, hb, hx⟩ := f (by omega)
  exact ⟨b, off, e, hb, fun j hj => by rw [dg_take ds k j (by omega)]; exact hx j (by omega)⟩
theorem nd_take {ds : List Nat} (hs : Sm ds) (k : Nat) (hk : k ≤ ds.length) (h : 0 < k → dg ds (k - 1) ≠ 0) : Nd (ds.take k) := by
  have hl : (ds.take k).length = k := by rw [List.length_take]; omega
  refine ⟨sm_take k hs, fun h0 => ?_⟩
  rw [hl] at h0 ⊢
  have hz := h h0
  have := val_take_succ ds (k - 1) (by omega)
  rw [show k - 1 + 1 = k by omega] at this
  have hp : pw (k - 1) * 1 ≤ pw (k - 1) * ds.getD (k - 1) 0 := Nat.mul_le_mul_left _ (by unfold dg at hz; omega)
  omega
theorem val_take_drop0 {ds : List Nat} (k : Nat) (hk : 0 < k) (hk2 : k ≤ ds.length) (h : dg ds (k - 1) = 0) : val (ds.take k) = val (ds.take (k - 1)) := by
  have := val_take_succ ds (k - 1) (by omega)
  rw [show k - 1 + 1 = k by omega] at this
  have hz : ds.getD (k - 1) 0 = 0 := by unfold dg at h; omega
  rw [this, hz]; simp
theorem norm_ok (v : Value) (ds : List Nat) (w : World) (h : Row w v ds) (hs : Sm ds) :
    Calls Tryd.prog 25 #[v] w fun e w' => (∃ u, e = .returned u ∧ Nm w u (val ds)) ∧ w' = w := by
  obtain ⟨hm, a, c, rfl, hlc, hx⟩ := h
  have HX := (show Hid _ from hx)
  have HS := (show Hid _ from hs)
  clear hx hs
  obtain ⟨n, hn⟩ : ∃ n, n = ds.length := ⟨_, rfl⟩
  have HN : Hid (n = ds.length) := hn
  rw [← hn] at hm hlc
  rw [← hn]
  clear hn
  go_enter Tryd.func25, Tryd.ntmps25
  go_wp2_with fail
  go_loop [3] (fun i => ∃ k : Nat, k ≤ n ∧ i = .int .i64 k ∧ Hid (val (ds.take k) = val ds)) (fun i => (intOf i).toNat)
  case atStart => exact ⟨n, Nat.le_refl _, rfl, by rw [HN.out]; exact congrArg val (List.take_length)⟩
  case round =>
    obtain ⟨k, hk, rfl, hv⟩ := hrel
    have fin : ∀ (h : 0 < k → dg ds (k - 1) ≠ 0), Hid (Nm w (.slice a k c) (val ds)) := fun h => ⟨ds.take k, row_cut (by have := HN.out; omega) (by have := HN.out; omega) k (by have := HN.out; omega) HX.out, nd_take HS.out k (by have := HN.out; omega) h, hv.out⟩
    by_cases h0 : k = 0
    · subst h0
      have F := fin (fun h => by omega)
      clear fin
      go_wp2_with fail
      go_ret
      exact ⟨⟨_, rfl, F.out⟩, rfl⟩
    · obtain ⟨b, off, rfl, ⟨hb, _⟩, hc⟩ := HX.out (by have := HN.out; omega)
      have hcell := hc (k - 1) (by have := HN.out; omega)
      clear hc HX
      have hk1 : 1 ≤ k := by omega
      by_cases hz : dg ds (k - 1) = 0
      · rw [hz] at hcell
        have hv' : Hid (val (ds.take (k - 1)) = val ds) := by rw [← val_take_drop0 k hk1 (by have := HN.out; omega) hz]; exact hv.out
        clear hz fin
        go_wp2_with fail
        go_round
        case rel => exact ⟨k - 1, by omega, by go_num, hv'⟩
        case measure => simp [intOf]; omega
      · have F := fin (fun _ => hz)
        have hz' : (dg ds (k - 1) == 0) = false := by simp [hz]
        clear fin
        go_wp2_with fail
        go_ret
        exact ⟨⟨_, rfl, F.out⟩, rfl⟩
end Go.Proofs.YtbgglghapjfdeaaDoor
/- The document's long numbers: the contracts of Word, Fits, Compare, Size. -/
namespace Go.Proofs.YtbgglghapjfdeaaDoor
open Go.RowKit
set_option linter.unusedVariables false

theorem word_row (w : World) (m : Int) (h0 : 0 ≤ m) :
    Row (w.alloc (.cells #[.int .u64 (m % 4294967296), .int .u64 (m / 4294967296)] 42)) (.slice (some ⟨w.heap.size, 0, none⟩) 2 2) [m.toNat % 4294967296, m.toNat / 4294967296] := by
  refine ⟨by simp, _, _, rfl, by simp, fun _ => ⟨w.heap.size, 0, rfl, ⟨by simp, _, _, heap_alloc_new w _⟩, fun k hk => ?_⟩⟩
  have e0 : dg [m.toNat % 4294967296, m.toNat / 4294967296] 0 = m % 4294967296 := by simp [dg]; omega
  have e1 : dg [m.toNat % 4294967296, m.toNat / 4294967296] 1 = m / 4294967296 := by simp [dg]; omega
  match k, hk with
  | 0, _ => rw [e0]; simp [go_sem]
  | 1, _ => rw [e1]; simp [go_sem]
theorem word_ok (m : Int) (w : World) (h0 : 0 ≤ m) (h1 : m ≤ 18446744073709551615) :
    Calls Tryd.prog 12 #[.int .u64 m] w fun e w' => (∃ u, e = .returned u ∧ Nm w' u m.toNat) ∧ Below w.heap.size w w' := by
  have hs : Sm [m.toNat % 4294967296, m.toNat / 4294967296] := sm_of fun d hd => by simp at hd; omega
  have hv : val [m.toNat % 4294967296, m.toNat / 4294967296] = m.toNat := by simp [val]; omega
  have HS := (show Hid _ from hs)
  have HV := (show Hid _ from hv)
  clear hs hv
  go_enter Tryd.func12, Tryd.ntmps12
  go_wp2_with fail
  refine (norm_ok _ _ _ (word_row w m h0) HS.out).mono ?_
  rintro e w1 ⟨⟨u, rfl, hn⟩, rfl⟩
  rw [HV.out] at hn
  have HN := (show Hid _ from hn)
  clear hn
  go_wp2_with fail
  go_ret
  exact ⟨⟨_, rfl, HN.out⟩, (Below.refl _ _).alloc (Nat.le_refl _) _⟩

theorem val_drop_step (ds : List Nat) (k : Nat) (h : k < ds.length) : val (ds.drop k) = ds.getD k 0 + 4294967296 * val (ds.drop (k + 1)) := by
  rw [List.drop_eq_getElem_cons h]; simp [val, h]
theorem bel_drewN {B : Nat} {a w : World} (h : Below B a w) (n : Nat) : Below B a (w.drewN n) := ⟨h.os, h.tape, h.output, h.size, h.block⟩
/-- a number modulo 2^64, as the program has it -/
def m64 (x : Nat) : Int := ((x % 18446744073709551616 : Nat) : Int)
theorem m64_small {x : Nat} (h : x < 18446744073709551616) : m64 x = (x : Int) := by unfold m64; rw [Nat.mod_eq_of_lt h]
theorem fits_step (ds : List Nat) (k : Nat) (h : k < ds.length) :
    IntKind.u64.wrap (IntKind.u64.wrap (m64 (val (ds.drop (k + 1))) * 4294967296) + dg ds k) = m64 (val (ds.drop k)) := by
  rw [val_drop_step ds k h, IntKind.wrap_u64, IntKind.wrap_u64]
  unfold dg m64
  omega
theorem fits_ok (v : Value) (ds : List Nat) (w : World) (h : Row w v ds) (hs : Sm ds) :
    Calls Tryd.prog 13 #[v] w fun e w' => e = .returned (.tuple #[.int .u64 (m64 (val ds)), .bool (decide (ds.length ≤ 2))]) ∧ w' = w := by
  obtain ⟨hm, a, c, rfl, hlc, hx⟩ := h
  have HX := (show Hid _ from hx)
  have HS := (show Hid _ from hs)
  clear hx hs
  obtain ⟨n, hn⟩ : ∃ n, n = ds.length := ⟨_, rfl⟩
  have HN : Hid (n = ds.length) := hn
  rw [← hn] at hm hlc
  rw [← hn]
  clear hn
  go_enter Tryd.func13, Tryd.ntmps13
  go_wp2_with fail
  go_loop [4, 5] (fun s i => ∃ k : Nat, k ≤ n ∧ i = .int .i64 ((k : Int) - 1) ∧ s = .int .u64 (m64 (val (ds.drop k)))) (fun _ i => (intOf i + 1).toNat)
  case atStart => exact ⟨n, Nat.le_refl _, rfl, by rw [HN.out, List.drop_length]; rfl⟩
  case round =>
    obtain ⟨k, hk, rfl, rfl⟩ := hrel
    by_cases h0 : k = 0
    · subst h0
      go_wp2_with fail
      refine bodyPost_ret (v := .tuple #[.int .u64 (m64 (val ds)), .bool (decide (n ≤ 2))]) (by simp [results, Tryd.results13, go_sem]; omega) rfl ⟨rfl, rfl⟩
    · obtain ⟨k, rfl⟩ : ∃ j, k = j + 1 := ⟨k - 1, by omega⟩
      obtain ⟨b, off, rfl, ⟨hb, _⟩, hc⟩ := HX.out (by have := HN.out; omega)
      have hcell := hc k (by have := HN.out; omega)
      clear hc HX
      have hst := fits_step ds k (by have := HN.out; omega)
      have HST := (show Hid _ from hst)
      clear hst
      have hd := dg_bd HS.out k
      go_wp2_with fail
      exact ⟨⟨k, by omega, rfl, by rw [← HST.out]⟩, by simp [intOf]⟩
theorem fits_yes (v : Value) (x : Nat) (w : World) (h : Nm w v x) (hx : x < 18446744073709551616) :
    Calls Tryd.prog 13 #[v] w fun e w' => e = .returned (.tuple #[.int .u64 (x : Int), .bool true]) ∧ w' = w := by
  obtain ⟨ds, hr, hn, rfl⟩ := h
  have hl : ds.length ≤ 2 := by
    by_cases h3 : 3 ≤ ds.length
    · have h1 := hn.top (by omega)
      have h2 := pw_mono (show 2 ≤ ds.length - 1 by omega)
      have : pw 2 = 18446744073709551616 := by decide
      omega
    · omega
  have h := fits_ok v ds w hr hn.sm
  rw [m64_small hx, show decide (ds.length ≤ 2) = true by simp [hl]] at h
  exact h
theorem fits_no (v : Value) (x : Nat) (w : World) (h : Nm w v x) (hx : 18446744073709551616 ≤ x) :
    Calls Tryd.prog 13 #[v] w fun e w' => e = .returned (.tuple #[.int .u64 (m64 x), .bool false]) ∧ w' = w := by
  obtain ⟨ds, hr, hn, rfl⟩ := h
  have hl : ¬ ds.length ≤ 2 := by
    intro h3
    have h1 := hn.lt
    have h2 := pw_mono h3
    have : pw 2 = 18446744073709551616 := by decide
    omega
  have h := fits_ok v ds w hr hn.sm
  rw [show decide (ds.length ≤ 2) = false by simp [hl]] at h
  exact h

theorem size_ok (v : Value) (x : Nat) (w : World) (h : Nm w v x) :
    Calls Tryd.prog 23 #[v] w fun e w' => (∃ s : Nat, e = .returned (.int .i64 s) ∧ IsSize x s ∧ s ≤ 6400) ∧ w' = w := by
  obtain ⟨ds, ⟨hm, a, c, rfl, hlc, hx⟩, hn, rfl⟩ := h
  have HX := (show Hid _ from hx)
  have HD : Hid (Nd ds) := hn
  clear hx hn
  obtain ⟨n, hn⟩ : ∃ n, n = ds.length := ⟨_, rfl⟩
  have HN : Hid (n = ds.length) := hn
  rw [← hn] at hm hlc
  rw [← hn]
  clear hn
  by_cases h0 : n = 0
  · subst h0
    go_enter Tryd.func23, Tryd.ntmps23
    go_wp2_with fail
    go_ret
    refine ⟨⟨0, rfl, ?_, by omega⟩, rfl⟩
    rw [HD.out.zero.2 HN.out.symm]
    exact isSize_zero
  · obtain ⟨b, off, rfl, ⟨hb, _⟩, hc⟩ := HX.out (by have := HN.out; omega)
    have hcell := hc (n - 1) (by have := HN.out; omega)
    clear hc HX
    have hd := dg_bd HD.out.sm (n - 1)
    go_enter Tryd.func23, Tryd.ntmps23
    go_wp2_with fail
    go_loop [3, 4] (fun s y => ∃ j z : Nat, j ≤ 32 ∧ s = .int .i64 (32 * ((n : Int) - 1) + j) ∧ y = .int .u64 z ∧ Hid (z < 2 ^ (32 - j)) ∧ Hid (∀ t, IsSize z t → IsSize (ds.getD (n - 1) 0) (j + t))) (fun _ y => (intOf y).toNat)
    case atStart => exact ⟨0, ds.getD (n - 1) 0, by omega, by simp, by simp [dg], by have := sm_getD (n - 1) HD.out.sm; exact this, fun t h => by rw [Nat.zero_add]; exact h⟩
    case round =>
      obtain ⟨j, z, hj, rfl, rfl, hz, ht⟩ := hrel
      by_cases h1 : z = 0
      · subst h1
        go_wp2_with fail
        go_ret
        refine ⟨⟨32 * (n - 1) + j, by go_num, ?_, by omega⟩, rfl⟩
        have := isSize_val HD.out (by have := HN.out; omega) (by have := ht.out 0 isSize_zero; rw [HN.out] at this; exact this)
        rw [HN.out]
        exact this
      · have hz2 : z < 4294967296 := Nat.lt_of_lt_of_le hz.out (Nat.pow_le_pow_right (by decide) (by omega) : 2 ^ (32 - j) ≤ 2 ^ 32)
        have hj2 : j < 32 := by
          by_cases e : j = 32
          · subst e; have := hz.out; simp at this; omega
          · omega
        have hz' : Hid (z / 2 < 2 ^ (32 - (j + 1))) := by
          have h := hz.out
          rw [show 32 - j = 32 - (j + 1) + 1 by omega, Nat.pow_succ] at h
          show z / 2 < 2 ^ (32 - (j + 1))
          omega
        have ht' : Hid (∀ t, IsSize (z / 2) t → IsSize (ds.getD (n - 1) 0) (j + 1 + t)) := fun t h => by
          have := ht.out (t + 1) (isSize_half h (by omega))
          rw [show j + 1 + t = j + (t + 1) by omega]; exact this
        clear hz ht
        go_wp2_with fail
        go_round
        case rel => exact ⟨j + 1, z / 2, by omega, by go_num, by go_num, hz', ht'⟩
        case measure => simp [intOf]; omega

set_option maxHeartbeats 400000 in
theorem compare_rows (v u : Value) (ds es : List Nat) (w : World) (h : Row w v ds) (h2 : Row w u es) (hd : Nd ds) (he : Nd es) :
    Calls Tryd.prog 22 #[v, u] w fun e w' => e = .returned (.int .i64 (cmpN (val ds) (val es))) ∧ Below w.heap.size w w' := by
  obtain ⟨hm, a, c, rfl, hlc, hx⟩ := h
  obtain ⟨hm2, a2, c2, rfl, hlc2, hx2⟩ := h2
  have HX := (show Hid _ from hx)
  have HX2 := (show Hid _ from hx2)
  have HD : Hid (Nd ds) := hd
  have HE : Hid (Nd es) := he
  clear hx hx2 hd he
  by_cases hl : ds.length = es.length
  · obtain ⟨n, hn⟩ : ∃ n, n = es.length := ⟨_, rfl⟩
    have HN : Hid (n = es.length) := hn
    have HM : Hid (ds.length = n) := by rw [hn]; exact hl
    rw [← hn] at hm2 hlc2 hl
    rw [hl] at hm hlc
    rw [hl, ← hn]
    clear hn hl
    go_enter Tryd.func22, Tryd.ntmps22
    go_wp2_with fail
    go_loopw [5] (fun i wr => ∃ k : Nat, k ≤ n ∧ i = .int .i64 ((k : Int) - 1) ∧ Below w.heap.size w wr ∧ Hid (ds.drop k = es.drop k)) (fun i _ => (intOf i + 1).toNat)
    case atStart => exact ⟨n, Nat.le_refl _, rfl, Below.refl _ _, by show ds.drop n = es.drop n; rw [List.drop_of_length_le (by rw [HM.out]; exact Nat.le_refl _), List.drop_of_length_le (by rw [HN.out]; exact Nat.le_refl _)]⟩
    case round =>
      obtain ⟨k, hk, rfl, hbel, hsame⟩ := hrel
      by_cases h0 : k = 0
      · subst h0
        go_wp2_with fail
        go_ret
        have : ds = es := by have := hsame.out; simpa using this
        subst this
        exact ⟨by rw [cmpN_eq]; rfl, hbel⟩
      · obtain ⟨k, rfl⟩ : ∃ j, k = j + 1 := ⟨k - 1, by omega⟩
        obtain ⟨b, off, rfl, ⟨hb, _⟩, hc⟩ := HX.out (by have := HM.out; omega)
        obtain ⟨b2, off2, rfl, ⟨hb2, _⟩, hc2⟩ := HX2.out (by have := HN.out; omega)
        have hcell := (hbel.cell (p := ⟨b, off + k, none⟩) hb).trans (hc k (by have := HM.out; omega))
        have hcell2 := (hbel.cell (p := ⟨b2, off2 + k, none⟩) hb2).trans (hc2 k (by have := HN.out; omega))
        clear hc HX hc2 HX2
        have b1' := dg_bd HD.out.sm k
        have b2' := dg_bd HE.out.sm k
        have i1 : (0 : Int) ≤ (k : Int) := by omega
        have i2 : (k : Int) < n := by omega
        rw [show ((k + 1 : Nat) : Int) - 1 = (k : Int) by omega]
        rcases (show dg ds k < dg es k ∨ dg es k < dg ds k ∨ dg ds k = dg es k by omega) with hlt | hgt | heq
        · have t1 : decide (dg ds k < dg es k) = true := by simp [hlt]
          go_wp2_with fail
          go_quiet (fail)
          have hbel := bel_drewN hbel nq
          generalize wr.drewN nq = wq at *
          clear hcell hcell2
          go_wp2_with fail
          go_ret
          exact ⟨by rw [cmpN_lt (val_less HD.out.sm HE.out.sm (by rw [HM.out, HN.out]) k (by have := HM.out; omega) hsame.out (by unfold dg at hlt; omega))]; rfl, hbel⟩
        · have t1 : decide (dg ds k < dg es k) = false := by simp; omega
          have t2 : decide (dg es k < dg ds k) = true := by simp; omega
          go_wp2_with fail
          go_quiet (fail)
          have hcell' : (wr.drewN nq).cell? ⟨b, off + k, none⟩ = some (.int .u64 (dg ds k)) := hcell
          have hcell2' : (wr.drewN nq).cell? ⟨b2, off2 + k, none⟩ = some (.int .u64 (dg es k)) := hcell2
          have hbel := bel_drewN hbel nq
          clear hcell hcell2
          generalize wr.drewN nq = wq at *
          go_wp2_with fail
          go_quiet (fail)
          have hbel := bel_drewN hbel nq
          generalize wq.drewN nq = wp at *
          clear hcell' hcell2'
          go_wp2_with fail
          go_ret
          exact ⟨by rw [cmpN_gt (val_less HE.out.sm HD.out.sm (by rw [HM.out, HN.out]) k (by have := HN.out; omega) hsame.out.symm (by unfold dg at hgt; omega))]; rfl, hbel⟩
        · have t1 : decide (dg ds k < dg es k) = false := by simp; omega
          have t2 : decide (dg es k < dg ds k) = false := by simp; omega
          have hs' : Hid (ds.drop k = es.drop k) := drop_same (by rw [HM.out, HN.out]) k (by have := HM.out; omega) hsame.out (by unfold dg at heq; omega)
          have HQ : Hid (dg ds k = dg es k) := heq
          clear heq
          go_wp2_with fail
          go_quiet (fail)
          have hcell' : (wr.drewN nq).cell? ⟨b, off + k, none⟩ = some (.int .u64 (dg ds k)) := hcell
          have hcell2' : (wr.drewN nq).cell? ⟨b2, off2 + k, none⟩ = some (.int .u64 (dg es k)) := hcell2
          have hbel := bel_drewN hbel nq
          clear hcell hcell2
          generalize wr.drewN nq = wq at *
          go_wp2_with fail
          go_quiet (fail)
          have hbel := bel_drewN hbel nq
          generalize wq.drewN nq = wp at *
          clear hcell' hcell2'
          go_wp2_with fail
          exact ⟨⟨k, by omega, rfl, hbel, hs'⟩, by simp [intOf]⟩
  · have hl' : ((ds.length : Int) == (es.length : Int)) = false := by rw [beq_eq_false_iff_ne]; omega
    rcases (show ds.length < es.length ∨ es.length < ds.length by omega) with hlt | hgt
    · have F := (show Hid _ from cmpN_lt (HD.out.len_lt HE.out hlt))
      generalize ds.length = n at *
      generalize es.length = m at *
      go_enter Tryd.func22, Tryd.ntmps22
      go_wp2_with fail
      go_ret
      exact ⟨by rw [F.out]; rfl, Below.refl _ _⟩
    · have F := (show Hid _ from cmpN_gt (HE.out.len_lt HD.out hgt))
      generalize ds.length = n at *
      generalize es.length = m at *
      go_enter Tryd.func22, Tryd.ntmps22
      go_wp2_with fail
      go_ret
      exact ⟨by rw [F.out]; rfl, Below.refl _ _⟩
theorem compare_ok (v u : Value) (x y : Nat) (w : World) (h : Nm w v x) (h2 : Nm w u y) :
    Calls Tryd.prog 22 #[v, u] w fun e w' => e = .returned (.int .i64 (cmpN x y)) ∧ Below w.heap.size w w' := by
  obtain ⟨ds, r, n, rfl⟩ := h
  obtain ⟨es, r2, n2, rfl⟩ := h2
  exact compare_rows v u ds es w r r2 n n2
end Go.Proofs.YtbgglghapjfdeaaDoor
/- The document's long numbers: rows that a call makes itself (make, append); the contract of Plus. -/
namespace Go.Proofs.YtbgglghapjfdeaaDoor
open Go.RowKit
set_option linter.unusedVariables false

theorem info64 : (Tryd.prog.info? 42).map (fun i => (i.zero, i.size, i.bytes)) = some (some (.int .u64 0), 1, 8) := by kernel_rfl
/-- digits as cells -/
def cl (cs : List Nat) : List Value := cs.map fun (d : Nat) => Value.int .u64 (d : Int)
theorem cl_snoc (cs : List Nat) (d : Nat) : cl cs ++ [.int .u64 (d : Int)] = cl (cs ++ [d]) := by simp [cl]
theorem cl_get (cs : List Nat) (k : Nat) (h : k < cs.length) : (cl cs)[k]? = some (.int .u64 (dg cs k)) := by simp [cl, dg, h]
/-- The row v of the call's own holds the digits cs. -/
structure Owns (w : World) (B : Nat) (v : Value) (cs : List Nat) : Prop where
  own : w.ownsRow B 42 1 v cs.length (cl cs)
theorem owns_nil (w : World) (B : Nat) : Owns w B (.slice none 0 0) [] := ⟨World.ownsRow_nil _ _ _ _⟩
theorem Owns.row {w : World} {B : Nat} {v : Value} {cs : List Nat} (h : Owns w B v cs) (hm : cs.length ≤ 200) : Row w v cs := by
  obtain ⟨hl, h2⟩ := h.own
  rcases h2 with ⟨rfl, h0⟩ | ⟨g, cap, cur, rfl, hb, hg, hcap, hcm, hcs, htk⟩
  · exact ⟨hm, none, 0, by rw [h0], by omega, fun h => by omega⟩
  · refine ⟨hm, _, cap, rfl, hcap, fun h0 => ⟨g, 0, rfl, ⟨?_, cur, _, hg⟩, fun k hk => ?_⟩⟩
    · rcases Nat.lt_or_ge g w.heap.size with hlt | hge
      · exact hlt
      · rw [Array.getElem?_eq_none hge] at hg; cases hg
    · have ho : w.ownsRow B 42 1 (.slice (some ⟨g, 0, none⟩) cs.length cap) cs.length (cl cs) := ⟨hl, Or.inr ⟨g, cap, cur, rfl, hb, hg, hcap, hcm, hcs, htk⟩⟩
      rw [Nat.zero_add, ho.cellAt k (by omega), cl_get cs k hk]
theorem Owns.block {w : World} {B : Nat} {v : Value} {cs : List Nat} (h : Owns w B v cs) : ∀ k, v.ownBlock = some k → B ≤ k := by
  obtain ⟨hl, h2⟩ := h.own
  rcases h2 with ⟨rfl, h0⟩ | ⟨g, cap, cur, rfl, hb, _⟩
  · intro k hk; simp [Value.ownBlock] at hk
  · intro k hk; simp [Value.ownBlock] at hk; omega
theorem app1 {w : World} {ops : Array Oper} {rest : List Oper} {o : Oper} {a : Act} {Q : Exit → Act → World → Prop} {T : TypeId} (hgd : o.guard = none) (s x : Operand)
    (ho : o.op = .call { callee := .builtin .append, args := #[s, x], argTypes := #[37, 37] })
    (B : Nat) (cs : List Nat) (v : Value) (d : Int) (hs : a.eval s = v) (hx : a.eval x = .slice (some ⟨w.heap.size, 0, none⟩) 1 1) (hd : 0 ≤ d)
    (hown : Owns w B v cs) (hB : B ≤ w.heap.size) (hl : cs.length ≤ 300)
    (h : ∀ v' w', Owns w' B v' (cs ++ [d.toNat]) → Below B w w' → wpList Tryd.prog ops Q rest (a.put o.dst v') w') :
    wpList Tryd.prog ops Q (o :: rest) a (w.alloc (.cells #[.int .u64 d] T)) := by
  obtain ⟨i0, hi, hz0, hz1, hz2⟩ := info_parts info64
  refine wpList_append_own _ hgd s x 37 ho B 42 i0 (.int .u64 0) 1 8 Tryd.underlying37 hi hz0 hz1 hz2 rfl (by decide) v cs.length (cl cs) hs (hown.own.alloc _) ⟨w.heap.size, 0, none⟩ 1 1 [.int .u64 d] hx rfl ?_ ?_ ?_ ?_ ?_ ?_
  · intro j u hj
    match j, hj with
    | 0, hj => simp at hj; subst hj; simp [Addr.add]
  · intro u hu; simp at hu; subst hu; rfl
  · unfold maxLen; omega
  · omega
  · simp; omega
  · intro v' w' hown' hgrow _
    refine h v' w' ?_ ?_
    · have e : cl cs ++ [.int .u64 d] = cl (cs ++ [d.toNat]) := by rw [← cl_snoc, Int.toNat_of_nonneg hd]
      refine ⟨?_⟩
      rw [List.length_append, List.length_singleton, ← e]
      exact hown'
    · exact ((Below.refl _ _).alloc hB _).grown hgrow (by simp; omega) hown.block

theorem getD_past {ds : List Nat} {k : Nat} (h : ds.length ≤ k) : ds.getD k 0 = 0 := by simp [h]
theorem plus_carry (q x y : Nat) (hq : q ≤ 1) (hx : x < 4294967296) (hy : y < 4294967296) : (q + x + y) / 4294967296 ≤ 1 := by omega
set_option maxRecDepth 100000 in
set_option maxHeartbeats 1000000 in
theorem plus_rows (v u : Value) (ds es : List Nat) (w : World) (h : Row w v ds) (h2 : Row w u es) (hd : Sm ds) (he : Sm es) (h100 : ds.length ≤ 100) (h101 : es.length ≤ 100) :
    Calls Tryd.prog 19 #[v, u] w fun e w' => (∃ r, e = .returned r ∧ Nm w' r (val ds + val es)) ∧ Below w.heap.size w w' := by
  obtain ⟨hm, a, c, rfl, hlc, hx⟩ := h
  obtain ⟨hm2, a2, c2, rfl, hlc2, hx2⟩ := h2
  have HX := (show Hid _ from hx)
  have HX2 := (show Hid _ from hx2)
  have HD : Hid (Sm ds) := hd
  have HE : Hid (Sm es) := he
  clear hx hx2 hd he
  obtain ⟨n, hn⟩ : ∃ n, n = ds.length := ⟨_, rfl⟩
  obtain ⟨m, hmm⟩ : ∃ m, m = es.length := ⟨_, rfl⟩
  have HN : Hid (n = ds.length) := hn
  have HM : Hid (m = es.length) := hmm
  rw [← hn] at hm hlc h100
  rw [← hmm] at hm2 hlc2 h101
  rw [← hn, ← hmm]
  clear hn hmm
  go_enter Tryd.func19, Tryd.ntmps19
  go_wp2_with fail
  go_loopw [5, 6, 7] (fun r s i wr => ∃ k q : Nat, k ≤ 101 ∧ (n < k ∧ m < k → q = 0) ∧ i = .int .i64 k ∧ s = .int .u64 q ∧ q ≤ 1 ∧ (k ≤ n ∨ k ≤ m ∨ (k = n + 1 ∨ k = m + 1)) ∧ Below w.heap.size w wr ∧ Hid (∃ cs, Owns wr w.heap.size r cs ∧ cs.length = k ∧ Sm cs ∧ val cs + pw k * q = val (ds.take k) + val (es.take k))) (fun _ _ i _ => 200 - (intOf i).toNat)
  case atStart => exact ⟨0, 0, by omega, fun _ => rfl, rfl, rfl, by omega, by omega, Below.refl _ _, [], owns_nil _ _, rfl, sm_nil, by simp [val, pw]⟩
  case round =>
    obtain ⟨k, q, hk, hq0, rfl, rfl, hq, hkk, hbel, hcs⟩ := hrel
    have hsz := hbel.size
    by_cases hA : k < n
    · by_cases hB : k < m
      · have hkn : k < n := by omega
        obtain ⟨b, off, rfl, ⟨hb, _⟩, hc⟩ := HX.out (by have := HN.out; omega)
        have hcell := (hbel.cell (p := ⟨b, off + k, none⟩) hb).trans (hc k (by have := HN.out; omega))
        clear hc HX
        have hkm : k < m := by omega
        obtain ⟨b2, off2, rfl, ⟨hb2, _⟩, hc2⟩ := HX2.out (by have := HM.out; omega)
        have hcell2 := (hbel.cell (p := ⟨b2, off2 + k, none⟩) hb2).trans (hc2 k (by have := HM.out; omega))
        clear hc2 HX2
        have b1 := dg_bd HD.out k
        have b2' := dg_bd HE.out k
        obtain ⟨cs, hown, hlen, hsm, hval⟩ := hcs.out
        have H1 := (show Hid _ from hlen)
        have H2 := (show Hid _ from hsm)
        have H3 := (show Hid _ from hval)
        have H4 := (show Hid _ from hown)
        clear hlen hsm hval hcs hown
        go_wp2_with (at_builtin; refine app1 rfl _ _ rfl w.heap.size cs _ (((q : Int) + dg ds k + dg es k) % 4294967296) (by rfl) (by rfl) (by omega) H4.out hsz (by have := H1.out; omega) ?_; intro v' w1 hown' hbel')
        have R := plus_round (pw k) (val (ds.take k)) (val (es.take k)) q (ds.getD k 0) (es.getD k 0) (val cs) H3.out
        rw [← val_take_step, ← val_take_step, ← pw_succ] at R
        have e1 : (((q : Int) + dg ds k + dg es k) % 4294967296).toNat = (q + ds.getD k 0 + es.getD k 0) % 4294967296 := by
          unfold dg; omega
        have e2 : ((q : Int) + dg ds k + dg es k) / 4294967296 = (((q + ds.getD k 0 + es.getD k 0) / 4294967296 : Nat) : Int) := by
          unfold dg; omega
        have hq' := plus_carry q _ _ hq (sm_getD k HD.out) (sm_getD k HE.out)
        have hlast : n < k + 1 ∧ m < k + 1 → (q + ds.getD k 0 + es.getD k 0) / 4294967296 = 0 := by intro h; omega
        rw [e1] at hown'
        have HF : Hid (∃ cs, Owns w1 w.heap.size v' cs ∧ cs.length = k + 1 ∧ Sm cs ∧ val cs + pw (k + 1) * ((q + ds.getD k 0 + es.getD k 0) / 4294967296) = val (ds.take (k + 1)) + val (es.take (k + 1))) :=
          ⟨_, hown', by simp [H1.out], sm_snoc H2.out (Nat.mod_lt _ (by decide)), by rw [val_snoc, H1.out]; exact R⟩
        clear hown' R e1 H4
        generalize (q + ds.getD k 0 + es.getD k 0) / 4294967296 = q' at *
        have hbel1 : Below w.heap.size w w1 := hbel.trans hbel'
        clear hbel hbel'
        have E2 := (show Hid _ from e2)
        clear e2
        go_wp2_with fail
        go_roundw
        case rel => exact ⟨k + 1, q', by omega, by omega, by go_num, by rw [E2.out], hq', by omega, hbel1, HF⟩
        case measure => simp [intOf]; omega
      · have hkn : k < n := by omega
        obtain ⟨b, off, rfl, ⟨hb, _⟩, hc⟩ := HX.out (by have := HN.out; omega)
        have hcell := (hbel.cell (p := ⟨b, off + k, none⟩) hb).trans (hc k (by have := HN.out; omega))
        clear hc HX
        have hz2 : Hid (es.getD k 0 = 0) := getD_past (by have := HM.out; omega)
        have b1 := dg_bd HD.out k
        have b2' := dg_bd HE.out k
        obtain ⟨cs, hown, hlen, hsm, hval⟩ := hcs.out
        have H1 := (show Hid _ from hlen)
        have H2 := (show Hid _ from hsm)
        have H3 := (show Hid _ from hval)
        have H4 := (show Hid _ from hown)
        clear hlen hsm hval hcs hown
        go_wp2_with (at_builtin; refine app1 rfl _ _ rfl w.heap.size cs _ (((q : Int) + dg ds k) % 4294967296) (by rfl) (by rfl) (by omega) H4.out hsz (by have := H1.out; omega) ?_; intro v' w1 hown' hbel')
        have R := plus_round (pw k) (val (ds.take k)) (val (es.take k)) q (ds.getD k 0) (es.getD k 0) (val cs) H3.out
        rw [← val_take_step, ← val_take_step, ← pw_succ] at R
        have e1 : (((q : Int) + dg ds k) % 4294967296).toNat = (q + ds.getD k 0 + es.getD k 0) % 4294967296 := by
          have := hz2.out; unfold dg; omega
        have e2 : ((q : Int) + dg ds k) / 4294967296 = (((q + ds.getD k 0 + es.getD k 0) / 4294967296 : Nat) : Int) := by
          have := hz2.out; unfold dg; omega
        have hq' := plus_carry q _ _ hq (sm_getD k HD.out) (sm_getD k HE.out)
        have hlast : n < k + 1 ∧ m < k + 1 → (q + ds.getD k 0 + es.getD k 0) / 4294967296 = 0 := by intro h; omega
        rw [e1] at hown'
        have HF : Hid (∃ cs, Owns w1 w.heap.size v' cs ∧ cs.length = k + 1 ∧ Sm cs ∧ val cs + pw (k + 1) * ((q + ds.getD k 0 + es.getD k 0) / 4294967296) = val (ds.take (k + 1)) + val (es.take (k + 1))) :=
          ⟨_, hown', by simp [H1.out], sm_snoc H2.out (Nat.mod_lt _ (by decide)), by rw [val_snoc, H1.out]; exact R⟩
        clear hown' R e1 H4
        generalize (q + ds.getD k 0 + es.getD k 0) / 4294967296 = q' at *
        have hbel1 : Below w.heap.size w w1 := hbel.trans hbel'
        clear hbel hbel'
        have E2 := (show Hid _ from e2)
        clear e2
        go_wp2_with fail
        go_roundw
        case rel => exact ⟨k + 1, q', by omega, by omega, by go_num, by rw [E2.out], hq', by omega, hbel1, HF⟩
        case measure => simp [intOf]; omega
    · by_cases hB : k < m
      · have hz1 : Hid (ds.getD k 0 = 0) := getD_past (by have := HN.out; omega)
        have hkm : k < m := by omega
        obtain ⟨b2, off2, rfl, ⟨hb2, _⟩, hc2⟩ := HX2.out (by have := HM.out; omega)
        have hcell2 := (hbel.cell (p := ⟨b2, off2 + k, none⟩) hb2).trans (hc2 k (by have := HM.out; omega))
        clear hc2 HX2
        have b1 := dg_bd HD.out k
        have b2' := dg_bd HE.out k
        obtain ⟨cs, hown, hlen, hsm, hval⟩ := hcs.out
        have H1 := (show Hid _ from hlen)
        have H2 := (show Hid _ from hsm)
        have H3 := (show Hid _ from hval)
        have H4 := (show Hid _ from hown)
        clear hlen hsm hval hcs hown
        go_wp2_with (at_builtin; refine app1 rfl _ _ rfl w.heap.size cs _ (((q : Int) + dg es k) % 4294967296) (by rfl) (by rfl) (by omega) H4.out hsz (by have := H1.out; omega) ?_; intro v' w1 hown' hbel')
        have R := plus_round (pw k) (val (ds.take k)) (val (es.take k)) q (ds.getD k 0) (es.getD k 0) (val cs) H3.out
        rw [← val_take_step, ← val_take_step, ← pw_succ] at R
        have e1 : (((q : Int) + dg es k) % 4294967296).toNat = (q + ds.getD k 0 + es.getD k 0) % 4294967296 := by
          have := hz1.out; unfold dg; omega
        have e2 : ((q : Int) + dg es k) / 4294967296 = (((q + ds.getD k 0 + es.getD k 0) / 4294967296 : Nat) : Int) := by
          have := hz1.out; unfold dg; omega
        have hq' := plus_carry q _ _ hq (sm_getD k HD.out) (sm_getD k HE.out)
        have hlast : n < k + 1 ∧ m < k + 1 → (q + ds.getD k 0 + es.getD k 0) / 4294967296 = 0 := by intro h; omega
        rw [e1] at hown'
        have HF : Hid (∃ cs, Owns w1 w.heap.size v' cs ∧ cs.length = k + 1 ∧ Sm cs ∧ val cs + pw (k + 1) * ((q + ds.getD k 0 + es.getD k 0) / 4294967296) = val (ds.take (k + 1)) + val (es.take (k + 1))) :=
          ⟨_, hown', by simp [H1.out], sm_snoc H2.out (Nat.mod_lt _ (by decide)), by rw [val_snoc, H1.out]; exact R⟩
        clear hown' R e1 H4
        generalize (q + ds.getD k 0 + es.getD k 0) / 4294967296 = q' at *
        have hbel1 : Below w.heap.size w w1 := hbel.trans hbel'
        clear hbel hbel'
        have E2 := (show Hid _ from e2)
        clear e2
        go_wp2_with fail
        go_roundw
        case rel => exact ⟨k + 1, q', by omega, by omega, by go_num, by rw [E2.out], hq', by omega, hbel1, HF⟩
        case measure => simp [intOf]; omega
      · by_cases hq1 : 0 < q
        · have hz1 : Hid (ds.getD k 0 = 0) := getD_past (by have := HN.out; omega)
          have hz2 : Hid (es.getD k 0 = 0) := getD_past (by have := HM.out; omega)
          have b1 := dg_bd HD.out k
          have b2' := dg_bd HE.out k
          obtain ⟨cs, hown, hlen, hsm, hval⟩ := hcs.out
          have H1 := (show Hid _ from hlen)
          have H2 := (show Hid _ from hsm)
          have H3 := (show Hid _ from hval)
          have H4 := (show Hid _ from hown)
          clear hlen hsm hval hcs hown
          go_wp2_with (at_builtin; refine app1 rfl _ _ rfl w.heap.size cs _ (((q : Int)) % 4294967296) (by rfl) (by rfl) (by omega) H4.out hsz (by have := H1.out; omega) ?_; intro v' w1 hown' hbel')
          have R := plus_round (pw k) (val (ds.take k)) (val (es.take k)) q (ds.getD k 0) (es.getD k 0) (val cs) H3.out
          rw [← val_take_step, ← val_take_step, ← pw_succ] at R
          have e1 : (((q : Int)) % 4294967296).toNat = (q + ds.getD k 0 + es.getD k 0) % 4294967296 := by
            have := hz1.out; have := hz2.out; omega
          have e2 : ((q : Int)) / 4294967296 = (((q + ds.getD k 0 + es.getD k 0) / 4294967296 : Nat) : Int) := by
            have := hz1.out; have := hz2.out; omega
          have hq' := plus_carry q _ _ hq (sm_getD k HD.out) (sm_getD k HE.out)
          have hlast : n < k + 1 ∧ m < k + 1 → (q + ds.getD k 0 + es.getD k 0) / 4294967296 = 0 := by intro h; have := hz1.out; have := hz2.out; omega
          rw [e1] at hown'
          have HF : Hid (∃ cs, Owns w1 w.heap.size v' cs ∧ cs.length = k + 1 ∧ Sm cs ∧ val cs + pw (k + 1) * ((q + ds.getD k 0 + es.getD k 0) / 4294967296) = val (ds.take (k + 1)) + val (es.take (k + 1))) :=
            ⟨_, hown', by simp [H1.out], sm_snoc H2.out (Nat.mod_lt _ (by decide)), by rw [val_snoc, H1.out]; exact R⟩
          clear hown' R e1 H4
          generalize (q + ds.getD k 0 + es.getD k 0) / 4294967296 = q' at *
          have hbel1 : Below w.heap.size w w1 := hbel.trans hbel'
          clear hbel hbel'
          have E2 := (show Hid _ from e2)
          clear e2
          go_wp2_with fail
          go_roundw
          case rel => exact ⟨k + 1, q', by omega, by omega, by go_num, by rw [E2.out], hq', by omega, hbel1, HF⟩
          case measure => simp [intOf]; omega
        · obtain rfl : q = 0 := by omega
          obtain ⟨cs, hown, hlen, hsm, hval⟩ := hcs.out
          have H0 : Hid (Row wr _ cs) := hown.row (by omega)
          have H2 := (show Hid _ from hsm)
          have H3 : Hid (val cs = val ds + val es) := by
            rw [val_take_past ds k (by have := HN.out; omega), val_take_past es k (by have := HM.out; omega)] at hval
            show val cs = val ds + val es
            omega
          clear hlen hsm hval hown hcs
          go_wp2_with fail
          refine (norm_ok _ cs _ H0.out H2.out).mono ?_
          rintro e w1 ⟨⟨u, rfl, hn⟩, rfl⟩
          rw [H3.out] at hn
          have HR := (show Hid _ from hn)
          clear hn
          go_wp2_with fail
          go_ret
          exact ⟨⟨_, rfl, HR.out⟩, hbel⟩
end Go.Proofs.YtbgglghapjfdeaaDoor
/- The document's long numbers: rows that are made whole; the contracts of Minus, Times. -/
namespace Go.Proofs.YtbgglghapjfdeaaDoor
open Go.RowKit
set_option linter.unusedVariables false

theorem mk1 {w : World} {ops : Array Oper} {rest : List Oper} {o : Oper} {a : Act} {Q : Exit → Act → World → Prop} (hgd : o.guard = none) (l c : Operand) (ho : o.op = Op.makeSlice 37 l c)
    (n : Nat) (L C : Int) (hl : a.eval l = .int .i64 L) (hc : a.eval c = .int .i64 C) (hL : L = n) (hC : C = n) (hn : n ≤ 300)
    (h : ∀ w', Owns w' w.heap.size (.slice (some ⟨w.heap.size, 0, none⟩) n n) (List.replicate n 0) → Below w.heap.size w w' → wpList Tryd.prog ops Q rest (a.put o.dst (.slice (some ⟨w.heap.size, 0, none⟩) n n)) w') :
    wpList Tryd.prog ops Q (o :: rest) a w := by
  obtain ⟨i0, hi, hz0, hz1, hz2⟩ := info_parts info64
  refine wpList_make_full w hgd l c 37 ho w.heap.size 42 i0 (.int .u64 0) 1 Tryd.underlying37 hi hz0 hz1 .i64 .i64 L C n hl hc hL hC (by rw [hz2]; omega) (by unfold maxLen; omega) (Nat.le_refl _) ?_
  intro w' hown hg
  refine h w' ?_ ((Below.refl _ _).grown hg (Nat.le_refl _) (fun k hk => by cases hk))
  have e : (madeCells (Value.int .u64 0).cells (n * 1)).toList = cl (List.replicate n 0) := by
    rw [Nat.mul_one]
    show (madeCells #[Value.int .u64 0] n).toList = _
    rw [toList_madeCells_one]
    simp [cl]
  refine ⟨?_⟩
  rw [List.length_replicate, ← e]
  exact hown
theorem Owns.set {w : World} {B g n : Nat} {cs : List Nat} (h : Owns w B (.slice (some ⟨g, 0, none⟩) n n) cs) (hl : cs.length = n) (j : Nat) (d : Int) (hd : 0 ≤ d) :
    Owns (w.setCell ⟨g, j, none⟩ (.int .u64 d)) B (.slice (some ⟨g, 0, none⟩) n n) (cs.set j d.toNat) := by
  subst hl
  have := (World.ownsRow.stored h.own j (.int .u64 d)).1
  refine ⟨?_⟩
  rw [List.length_set]
  have e : cl (cs.set j d.toNat) = (cl cs).set j (.int .u64 d) := by simp [cl, List.map_set, Int.toNat_of_nonneg hd]
  rw [e]
  exact this
theorem Owns.cell {w : World} {B g n : Nat} {cs : List Nat} (h : Owns w B (.slice (some ⟨g, 0, none⟩) n n) cs) (hl : cs.length = n) (j : Nat) (hj : j < n) : w.cell? ⟨g, j, none⟩ = some (.int .u64 (dg cs j)) := by
  subst hl
  rw [World.ownsRow.cellAt h.own j (by omega), cl_get cs j hj]
theorem Owns.free {w : World} {B g n : Nat} {cs : List Nat} (h : Owns w B (.slice (some ⟨g, 0, none⟩) n n) cs) (hl : cs.length = n) (j : Nat) : w.frozen? ⟨g, j, none⟩ = false := by
  subst hl
  exact World.ownsRow.frozenAt h.own j
theorem val_set_take (cs : List Nat) (k d : Nat) (h : k < cs.length) : val ((cs.set k d).take (k + 1)) = val (cs.take k) + pw k * d := by
  rw [val_take_succ _ k (by simpa using h)]
  have e1 : (cs.set k d).take k = cs.take k := by rw [List.take_set]; exact List.set_eq_of_length_le (by rw [List.length_take]; omega)
  have e2 : (cs.set k d).getD k 0 = d := by simp [h]
  rw [e1, e2]
theorem Owns.len {w : World} {B g n c : Nat} {cs : List Nat} (h : Owns w B (.slice (some ⟨g, 0, none⟩) n c) cs) : cs.length = n := by
  obtain ⟨_, h2⟩ := h.own
  rcases h2 with ⟨h, _⟩ | ⟨g', cap, cur, h, _⟩
  · cases h
  · injection h with _ h _; exact h.symm
theorem minus_stp (p A C b x y s X : Nat) (hX : X + b + y = x + 4294967296) (h : s + C = A + p * b) :
    s + p * (X % 4294967296) + (C + p * y) + (4294967296 * p) * (X / 4294967296) = (A + p * x) + 4294967296 * p := by
  have e := Nat.div_add_mod X 4294967296
  generalize X % 4294967296 = m at *
  generalize X / 4294967296 = q at *
  subst e
  have h1 : p * (4294967296 * q + m + b + y) = p * (x + 4294967296) := by rw [hX]
  simp only [Nat.mul_add] at h1
  rw [Nat.mul_comm 4294967296 p, Nat.mul_assoc]
  omega
theorem minus_last (S q' z P V E D : Nat) (hz : z ≤ 1) (hq : q' + z = 1) (R : S + E + P * z = D + P) : S + E = D + P * q' := by
  rcases (show z = 0 ∨ z = 1 by omega) with rfl | rfl
  · obtain rfl : q' = 1 := by omega
    omega
  · obtain rfl : q' = 0 := by omega
    omega
theorem minus_digits (x y : Int) (q X : Nat) (hX : (X : Int) + q + y = x + 4294967296) : (x + 4294967296 - (q : Int) - y) % 4294967296 = ((X % 4294967296 : Nat) : Int) ∧ (x + 4294967296 - (q : Int) - y) / 4294967296 = ((X / 4294967296 : Nat) : Int) := by
  have : x + 4294967296 - (q : Int) - y = X := by omega
  rw [this]
  exact ⟨rfl, rfl⟩
theorem minus_all (ds es cs : List Nat) (k q : Nat) (hq : q ≤ 1) (hd : Sm ds) (he : Sm es) (hk : k < cs.length) (h : val (cs.take k) + val (es.take k) = val (ds.take k) + pw k * q) :
    ∃ d q' : Nat, d < 4294967296 ∧ q' ≤ 1 ∧ (dg ds k + 4294967296 - (q : Int) - dg es k) % 4294967296 = d ∧ 1 - (dg ds k + 4294967296 - (q : Int) - dg es k) / 4294967296 = q' ∧
      val ((cs.set k d).take (k + 1)) + val (es.take (k + 1)) = val (ds.take (k + 1)) + pw (k + 1) * q' := by
  have s1 := sm_getD k hd
  have s2 := sm_getD k he
  obtain ⟨X, hX⟩ : ∃ X, X + q + es.getD k 0 = ds.getD k 0 + 4294967296 := by
    obtain ⟨X, hX⟩ := Nat.exists_eq_add_of_le (show q + es.getD k 0 ≤ ds.getD k 0 + 4294967296 by omega)
    exact ⟨X, by omega⟩
  have R := minus_stp (pw k) (val (ds.take k)) (val (es.take k)) q (ds.getD k 0) (es.getD k 0) (val (cs.take k)) X hX h
  rw [← val_take_step, ← val_take_step, ← pw_succ] at R
  have hz : X / 4294967296 ≤ 1 := by omega
  obtain ⟨q', hq'⟩ : ∃ q', q' + X / 4294967296 = 1 := by
    rcases (show X / 4294967296 = 0 ∨ X / 4294967296 = 1 by omega) with e | e
    · exact ⟨1, by omega⟩
    · exact ⟨0, by omega⟩
  obtain ⟨e1, e2⟩ := minus_digits (dg ds k) (dg es k) q X (by unfold dg; omega)
  refine ⟨X % 4294967296, q', by omega, by omega, e1, by rw [e2]; omega, ?_⟩
  rw [val_set_take cs k _ hk]
  exact minus_last _ q' (X / 4294967296) _ 0 _ _ hz hq' R
theorem minus_all0 (ds es cs : List Nat) (k q : Nat) (hq : q ≤ 1) (hd : Sm ds) (he : Sm es) (hk : k < cs.length) (hz : es.length ≤ k) (h : val (cs.take k) + val (es.take k) = val (ds.take k) + pw k * q) :
    ∃ d q' : Nat, d < 4294967296 ∧ q' ≤ 1 ∧ (dg ds k + 4294967296 - (q : Int)) % 4294967296 = d ∧ 1 - (dg ds k + 4294967296 - (q : Int)) / 4294967296 = q' ∧
      val ((cs.set k d).take (k + 1)) + val (es.take (k + 1)) = val (ds.take (k + 1)) + pw (k + 1) * q' := by
  have := minus_all ds es cs k q hq hd he hk h
  have e : dg es k = 0 := by unfold dg; rw [getD_past hz]; rfl
  rw [e, Int.sub_zero] at this
  exact this
set_option maxRecDepth 100000 in
set_option maxHeartbeats 1000000 in
theorem minus_rows (v u : Value) (ds es : List Nat) (w : World) (h : Row w v ds) (h2 : Row w u es) (hd : Sm ds) (he : Sm es) (h100 : ds.length ≤ 200) (h101 : es.length ≤ 200) (hll : es.length ≤ ds.length) (hle : val es ≤ val ds) :
    Calls Tryd.prog 21 #[v, u] w fun e w' => (∃ r, e = .returned r ∧ Nm w' r (val ds - val es)) ∧ Below w.heap.size w w' := by
  have HLL : Hid (es.length ≤ ds.length) := hll
  have HLE : Hid (val es ≤ val ds) := hle
  clear hll hle
  obtain ⟨hm, a, c, rfl, hlc, hx⟩ := h
  obtain ⟨hm2, a2, c2, rfl, hlc2, hx2⟩ := h2
  have HX := (show Hid _ from hx)
  have HX2 := (show Hid _ from hx2)
  have HD : Hid (Sm ds) := hd
  have HE : Hid (Sm es) := he
  clear hx hx2 hd he
  obtain ⟨n, hn⟩ : ∃ n, n = ds.length := ⟨_, rfl⟩
  obtain ⟨m, hmm⟩ : ∃ m, m = es.length := ⟨_, rfl⟩
  have HN : Hid (n = ds.length) := hn
  have HM : Hid (m = es.length) := hmm
  rw [← hn] at hm hlc h100
  rw [← hmm] at hm2 hlc2 h101
  rw [← hn, ← hmm]
  clear hn hmm
  go_enter Tryd.func21, Tryd.ntmps21
  go_wp2_with (at_make; refine mk1 rfl _ _ rfl n _ _ (by rfl) (by rfl) rfl rfl (by omega) ?_; intro w1 hown hbel)
  obtain ⟨B, hB⟩ : ∃ B, B = w.heap.size := ⟨_, rfl⟩
  rw [← hB] at hown hbel
  rw [← hB]
  have HB : Hid (B = w.heap.size) := hB
  have hown' := (show Hid _ from hown)
  clear hB hown
  go_loopw [6, 14] (fun s i wr => ∃ k q : Nat, k ≤ n ∧ i = .int .i64 k ∧ s = .int .u64 q ∧ q ≤ 1 ∧ Below B w wr ∧ Hid (∃ cs, Owns wr B (.slice (some ⟨B, 0, none⟩) n n) cs ∧ Sm cs ∧ val (cs.take k) + val (es.take k) = val (ds.take k) + pw k * q)) (fun _ i _ => n - (intOf i).toNat)
  case atStart => exact ⟨0, 0, by omega, rfl, rfl, by omega, hbel, _, hown'.out, sm_replicate _, by simp [val, pw]⟩
  case round =>
    clear hown' hbel
    obtain ⟨k, q, hk, rfl, rfl, hq, hbel, hcs⟩ := hrel
    obtain ⟨cs, hown, hsm, hval⟩ := hcs.out
    have H1 : Hid (cs.length = n) := hown.len
    have H2 := (show Hid _ from hsm)
    have H3 := (show Hid _ from hval)
    have H4 := (show Hid _ from hown)
    clear hcs hsm hval
    by_cases hkn : k < n
    · by_cases hB : k < m
      · have hkn : k < n := by omega
        obtain ⟨b, off, rfl, ⟨hb, _⟩, hc⟩ := HX.out (by have := HN.out; omega)
        have hcell := (hbel.cell (p := ⟨b, off + k, none⟩) (by rw [HB.out]; exact hb)).trans (hc k (by have := HN.out; omega))
        have hc0 := hown.cell H1.out k hkn
        have hf0 := hown.free H1.out k
        clear hc HX hown
        obtain ⟨b2, off2, rfl, ⟨hb2, _⟩, hc2⟩ := HX2.out (by have := HM.out; omega)
        have hcell2 := (hbel.cell (p := ⟨b2, off2 + k, none⟩) (by rw [HB.out]; exact hb2)).trans (hc2 k (by have := HM.out; omega))
        clear hc2 HX2
        have b1 := dg_bd HD.out k
        have b2' := dg_bd HE.out k
        obtain ⟨d, q', hd', hq', e1, e2, hv⟩ := minus_all ds es cs k q hq HD.out HE.out (by have := H1.out; omega) H3.out
        have E1 := (show Hid _ from e1)
        have E2 := (show Hid _ from e2)
        have O : Hid (Owns (wr.setCell ⟨B, k, none⟩ (.int .u64 d)) B (.slice (some ⟨B, 0, none⟩) n n) (cs.set k d)) := by
          have := H4.out.set H1.out k (d : Int) (Int.natCast_nonneg _)
          rw [Int.toNat_natCast] at this
          exact this
        have HF : Hid (∃ cs', Owns (wr.setCell ⟨B, k, none⟩ (.int .u64 d)) B (.slice (some ⟨B, 0, none⟩) n n) cs' ∧ Sm cs' ∧ val (cs'.take (k + 1)) + val (es.take (k + 1)) = val (ds.take (k + 1)) + pw (k + 1) * q') :=
          ⟨_, O.out, sm_set H2.out hd', hv⟩
        have HB1 : Hid (Below B w (wr.setCell ⟨B, k, none⟩ (.int .u64 d))) := hbel.setCell (p := ⟨B, k, none⟩) (Nat.le_refl _) (.int .u64 d)
        clear e1 e2 O H3 H4 hv
        go_wp2_with fail
        rw [E1.out, E2.out]
        exact ⟨⟨k + 1, q', by omega, by go_num, rfl, by omega, HB1.out, HF⟩, by simp [intOf]; omega⟩
      · have hkn : k < n := by omega
        obtain ⟨b, off, rfl, ⟨hb, _⟩, hc⟩ := HX.out (by have := HN.out; omega)
        have hcell := (hbel.cell (p := ⟨b, off + k, none⟩) (by rw [HB.out]; exact hb)).trans (hc k (by have := HN.out; omega))
        have hc0 := hown.cell H1.out k hkn
        have hf0 := hown.free H1.out k
        clear hc HX hown
        have hz2 : Hid (es.getD k 0 = 0) := getD_past (by have := HM.out; omega)
        have b1 := dg_bd HD.out k
        have b2' := dg_bd HE.out k
        obtain ⟨d, q', hd', hq', e1, e2, hv⟩ := minus_all0 ds es cs k q hq HD.out HE.out (by have := H1.out; omega) (by have := HM.out; omega) H3.out
        have E1 := (show Hid _ from e1)
        have E2 := (show Hid _ from e2)
        have O : Hid (Owns (wr.setCell ⟨B, k, none⟩ (.int .u64 d)) B (.slice (some ⟨B, 0, none⟩) n n) (cs.set k d)) := by
          have := H4.out.set H1.out k (d : Int) (Int.natCast_nonneg _)
          rw [Int.toNat_natCast] at this
          exact this
        have HF : Hid (∃ cs', Owns (wr.setCell ⟨B, k, none⟩ (.int .u64 d)) B (.slice (some ⟨B, 0, none⟩) n n) cs' ∧ Sm cs' ∧ val (cs'.take (k + 1)) + val (es.take (k + 1)) = val (ds.take (k + 1)) + pw (k + 1) * q') :=
          ⟨_, O.out, sm_set H2.out hd', hv⟩
        have HB1 : Hid (Below B w (wr.setCell ⟨B, k, none⟩ (.int .u64 d))) := hbel.setCell (p := ⟨B, k, none⟩) (Nat.le_refl _) (.int .u64 d)
        clear e1 e2 O H3 H4 hv
        go_wp2_with fail
        rw [E1.out, E2.out]
        exact ⟨⟨k + 1, q', by omega, by go_num, rfl, by omega, HB1.out, HF⟩, by simp [intOf]; omega⟩
    · obtain rfl : k = n := by omega
      have H0 : Hid (Row wr _ cs) := H4.out.row (by have := H1.out; omega)
      have H3 : Hid (val cs = val ds - val es) := by
        have hv := H3.out
        rw [val_take_past ds k (by have := HN.out; omega), val_take_past es k (by have := HN.out; have := HLL.out; omega), val_take_past cs k (by have := H1.out; omega)] at hv
        have hl := val_lt H2.out
        rw [H1.out] at hl
        have := HLE.out
        rcases (show q = 0 ∨ q = 1 by omega) with rfl | rfl
        · show val cs = val ds - val es
          omega
        · omega
      have hbel : Below w.heap.size w wr := by rw [← HB.out]; exact hbel
      clear hown
      go_wp2_with fail
      refine (norm_ok _ cs _ H0.out H2.out).mono ?_
      rintro e w1 ⟨⟨u, rfl, hn⟩, rfl⟩
      rw [H3.out] at hn
      have HR := (show Hid _ from hn)
      clear hn
      go_wp2_with fail
      go_ret
      exact ⟨⟨_, rfl, HR.out⟩, hbel⟩
theorem minus_ok (v u : Value) (x y : Nat) (w : World) (h : Nm w v x) (h2 : Nm w u y) (hle : y ≤ x) :
    Calls Tryd.prog 21 #[v, u] w fun e w' => (∃ r, e = .returned r ∧ Nm w' r (x - y)) ∧ Below w.heap.size w w' := by
  obtain ⟨ds, r, n, rfl⟩ := h
  obtain ⟨es, r2, n2, rfl⟩ := h2
  exact minus_rows v u ds es w r r2 n.sm n2.sm r.short r2.short (n2.len_le n hle) hle
end Go.Proofs.YtbgglghapjfdeaaDoor
/- The document's long numbers: the contract of Times. -/
namespace Go.Proofs.YtbgglghapjfdeaaDoor
open Go.RowKit
set_option linter.unusedVariables false

/-- noughts from a place on -/
def Zf (cs : List Nat) (k : Nat) : Prop := ∀ j, k ≤ j → cs.getD j 0 = 0
theorem zf_replicate (n k : Nat) : Zf (List.replicate n 0) k := fun j _ => by
  by_cases h : j < n <;> simp [h]
theorem zf_set {cs : List Nat} {k i d : Nat} (h : Zf cs k) (hi : i < k) : Zf (cs.set i d) k := fun j hj => by
  have := h j hj
  simp only [List.getD_eq_getElem?_getD, List.getElem?_set] at *
  rw [if_neg (by omega)]; exact this
theorem zf_mono {cs : List Nat} {k i : Nat} (h : Zf cs k) (hi : k ≤ i) : Zf cs i := fun j hj => h j (by omega)
theorem mul_sm32 {x y : Nat} (hx : x < 4294967296) (hy : y < 4294967296) : x * y ≤ 18446744065119617025 := by
  have := Nat.mul_le_mul (show x ≤ 4294967295 by omega) (show y ≤ 4294967295 by omega)
  omega
theorem times_in (ds es cs : List Nat) (k l q T A : Nat) (hl : l < es.length) (hk : k + l < cs.length) (hd : Sm ds) (he : Sm es) (hc : Sm cs) (hq : q < 4294967296)
    (hT : T = q + (ds.getD k 0 * es.getD l 0 + cs.getD (k + l) 0)) (h : val cs + pw (k + l) * q = A + pw k * (ds.getD k 0 * val (es.take l))) :
    T / 4294967296 < 4294967296 ∧ val (cs.set (k + l) (T % 4294967296)) + pw (k + (l + 1)) * (T / 4294967296) = A + pw k * (ds.getD k 0 * val (es.take (l + 1))) := by
  have s3 := sm_getD (k + l) hc
  have hm := mul_sm32 (sm_getD k hd) (sm_getD l he)
  constructor
  · rw [hT]; omega
  · have hs := val_set cs (k + l) (T % 4294967296) hk
    have e := Nat.div_add_mod T 4294967296
    rw [val_take_succ es l hl, show k + (l + 1) = k + l + 1 by omega, pw_succ]
    have hp : pw (k + l) * T = pw (k + l) * q + pw (k + l) * (ds.getD k 0 * es.getD l 0) + pw (k + l) * cs.getD (k + l) 0 := by rw [hT, Nat.mul_add, Nat.mul_add]; omega
    have hp2 : pw (k + l) * T = pw (k + l) * (T % 4294967296) + 4294967296 * pw (k + l) * (T / 4294967296) := by
      conv => lhs; rw [← e]
      rw [Nat.mul_add, Nat.mul_comm 4294967296 (pw (k + l)), Nat.mul_assoc]; omega
    have hp3 : pw k * (ds.getD k 0 * (val (es.take l) + pw l * es.getD l 0)) = pw k * (ds.getD k 0 * val (es.take l)) + pw (k + l) * (ds.getD k 0 * es.getD l 0) := by
      rw [Nat.mul_add, Nat.mul_add, pw_add, Nat.mul_left_comm (ds.getD k 0) (pw l), Nat.mul_assoc]
    omega
theorem times_out (ds es cs : List Nat) (k q : Nat) (hk : k + es.length < cs.length) (hkd : k < ds.length) (hz : cs.getD (k + es.length) 0 = 0)
    (h : val cs + pw (k + es.length) * q = val (ds.take k) * val es + pw k * (ds.getD k 0 * val (es.take es.length))) : val (cs.set (k + es.length) q) = val (ds.take (k + 1)) * val es := by
  have hs := val_set cs (k + es.length) q hk
  rw [hz, Nat.mul_zero, Nat.add_zero, h, List.take_length] at hs
  rw [hs, val_take_succ ds k hkd, Nat.add_mul, Nat.mul_assoc]
theorem dg_zf {cs : List Nat} {k : Nat} (h : Zf cs k) : dg cs k = 0 := by unfold dg; rw [h k (Nat.le_refl _)]; rfl
theorem times_wraps (ds es cs : List Nat) (k l q : Nat) (hd : Sm ds) (he : Sm es) (hc : Sm cs) (hq : q ≤ 4294967295) : ∃ T : Nat, T = q + (ds.getD k 0 * es.getD l 0 + cs.getD (k + l) 0) ∧ T ≤ 18446744073709551615 ∧
    IntKind.u64.wrap (dg ds k * dg es l) = dg ds k * dg es l ∧ IntKind.u64.wrap (dg ds k * dg es l + dg cs (k + l)) = dg ds k * dg es l + dg cs (k + l) ∧
    IntKind.u64.wrap ((q : Int) + (dg ds k * dg es l + dg cs (k + l))) = (T : Int) := by
  have s3 := sm_getD (k + l) hc
  have hm := mul_sm32 (sm_getD k hd) (sm_getD l he)
  have e : dg ds k * dg es l = ((ds.getD k 0 * es.getD l 0 : Nat) : Int) := by unfold dg; rw [Int.natCast_mul]
  refine ⟨_, rfl, by omega, ?_, ?_, ?_⟩
  · rw [e, IntKind.wrap_u64]; omega
  · rw [e, IntKind.wrap_u64]; unfold dg; omega
  · rw [e, IntKind.wrap_u64]; unfold dg; omega
theorem wrap_idx (k l : Nat) (hk : k ≤ 1000) (hl : l ≤ 1000) : IntKind.i64.wrap ((k : Int) + (l : Int)) = (k : Int) + (l : Int) := by rw [IntKind.wrap_i64]; omega
set_option maxRecDepth 100000 in
set_option maxHeartbeats 1000000 in
theorem times_rows (v u : Value) (ds es : List Nat) (w : World) (h : Row w v ds) (h2 : Row w u es) (hd : Sm ds) (he : Sm es) (h100 : ds.length ≤ 100) (h101 : es.length ≤ 100) :
    Calls Tryd.prog 11 #[v, u] w fun e w' => (∃ r, e = .returned r ∧ Nm w' r (val ds * val es)) ∧ Below w.heap.size w w' := by
  obtain ⟨hm, a, c, rfl, hlc, hx⟩ := h
  obtain ⟨hm2, a2, c2, rfl, hlc2, hx2⟩ := h2
  have HX := (show Hid _ from hx)
  have HX2 := (show Hid _ from hx2)
  have HD : Hid (Sm ds) := hd
  have HE : Hid (Sm es) := he
  clear hx hx2 hd he
  obtain ⟨n, hn⟩ : ∃ n, n = ds.length := ⟨_, rfl⟩
  obtain ⟨m, hmm⟩ : ∃ m, m = es.length := ⟨_, rfl⟩
  have HN : Hid (n = ds.length) := hn
  have HM : Hid (m = es.length) := hmm
  rw [← hn] at hm hlc h100
  rw [← hmm] at hm2 hlc2 h101
  rw [← hn, ← hmm]
  clear hn hmm
  go_enter Tryd.func11, Tryd.ntmps11
  go_wp2_with (at_make; refine mk1 rfl _ _ rfl (n + m) _ _ (by rfl) (by rfl) (by omega) (by omega) (by omega) ?_; intro w1 hown hbel)
  obtain ⟨B, hB⟩ : ∃ B, B = w.heap.size := ⟨_, rfl⟩
  rw [← hB] at hown hbel
  rw [← hB]
  have HB : Hid (B = w.heap.size) := hB
  have hown' := (show Hid _ from hown)
  clear hB hown
  go_loopw [17] (fun i wr => ∃ k : Nat, k ≤ n ∧ i = .int .i64 k ∧ Below B w wr ∧ Hid (∃ cs, Owns wr B (.slice (some ⟨B, 0, none⟩) (n + m) (n + m)) cs ∧ Sm cs ∧ val cs = val (ds.take k) * val es ∧ Zf cs (k + m))) (fun i _ => n - (intOf i).toNat)
  case atStart => exact ⟨0, by omega, rfl, hbel, _, hown'.out, sm_replicate _, by simp [val, val_replicate], zf_replicate _ _⟩
  case round =>
    clear hown' hbel
    obtain ⟨k, hk, rfl, hbel, hcs⟩ := hrel
    by_cases hkn : k < n
    · obtain ⟨b, off, rfl, ⟨hb, _⟩, hc⟩ := HX.out (by have := HN.out; omega)
      have HC : Hid (w.cell? ⟨b, off + k, none⟩ = some (.int .u64 (dg ds k))) := hc k (by have := HN.out; omega)
      have b1 := dg_bd HD.out k
      clear hc HX
      go_wp2_with fail
      go_loopw [7, 22] (fun s i wi => ∃ l q : Nat, l ≤ m ∧ i = .int .i64 l ∧ s = .int .u64 q ∧ q ≤ 4294967295 ∧ Below B w wi ∧ Hid (∃ cs, Owns wi B (.slice (some ⟨B, 0, none⟩) (n + m) (n + m)) cs ∧ Sm cs ∧ val cs + pw (k + l) * q = val (ds.take k) * val es + pw k * (ds.getD k 0 * val (es.take l)) ∧ Zf cs (k + m))) (fun _ i _ => m - (intOf i).toNat)
      case atStart => exact ⟨0, 0, by omega, rfl, rfl, by omega, hbel, by obtain ⟨cs, a1, a2, a3, a4⟩ := hcs.out; exact ⟨cs, a1, a2, by simp [val, a3], a4⟩⟩
      case round =>
        clear hcs hbel
        obtain ⟨l, q, hl, rfl, rfl, hq, hbel, hcs⟩ := hrel
        obtain ⟨cs, hown, hsm, hval, hzf⟩ := hcs.out
        have H1 : Hid (cs.length = n + m) := hown.len
        have H2 : Hid (Sm cs) := hsm
        have H3 := (show Hid _ from hval)
        have H4 : Hid (Owns _ _ _ cs) := hown
        have H5 : Hid (Zf cs (k + m)) := hzf
        clear hcs hsm hval hzf
        have hcell := (hbel.cell (p := ⟨b, off + k, none⟩) (by rw [HB.out]; exact hb)).trans HC.out
        by_cases hlm : l < m
        · obtain ⟨b2, off2, rfl, ⟨hb2, _⟩, hc2⟩ := HX2.out (by have := HM.out; omega)
          have hcell2 := (hbel.cell (p := ⟨b2, off2 + l, none⟩) (by rw [HB.out]; exact hb2)).trans (hc2 l (by have := HM.out; omega))
          clear hc2 HX2
          have hc0 := hown.cell H1.out (k + l) (by omega)
          have hf0 := hown.free H1.out (k + l)
          clear hown
          have b2' := dg_bd HE.out l
          have b3 := dg_bd H2.out (k + l)
          obtain ⟨T, hT, hT2, x2, x3, x4⟩ := times_wraps ds es cs k l q HD.out HE.out H2.out hq
          have HT := (show Hid _ from hT)
          have x1 := wrap_idx k l (by omega) (by omega)
          have i1 : (0 : Int) ≤ (k : Int) + (l : Int) := by omega
          have i2 : (k : Int) + (l : Int) < (n : Int) + (m : Int) := by omega
          clear hT
          go_wp2_with fail
          go_quiet (fail)
          have hbel' := bel_drewN hbel nq
          have H4' : Hid (Owns (wr.drewN nq) B _ cs) := ⟨H4.out.own⟩
          have hf0' : (wr.drewN nq).frozen? ⟨B, k + l, none⟩ = false := hf0
          have hc0' : (wr.drewN nq).cell? ⟨B, k + l, none⟩ = some (.int .u64 (dg cs (k + l))) := hc0
          clear hbel H4 hf0 hc0 hcell hcell2 x1 x2 x3 x4 b1 b2' b3
          generalize wr.drewN nq = wq at *
          obtain ⟨hq2, hv⟩ := times_in ds es cs k l q T (val (ds.take k) * val es) (by have := HM.out; omega) (by have := H1.out; omega) HD.out HE.out H2.out (by omega) HT.out H3.out
          have e1 : (T : Int) % 4294967296 = ((T % 4294967296 : Nat) : Int) := rfl
          have e2 : (T : Int) / 4294967296 = ((T / 4294967296 : Nat) : Int) := rfl
          have O : Hid (Owns (wq.setCell ⟨B, k + l, none⟩ (.int .u64 ((T % 4294967296 : Nat) : Int))) B (.slice (some ⟨B, 0, none⟩) (n + m) (n + m)) (cs.set (k + l) (T % 4294967296))) := by
            have := H4'.out.set H1.out (k + l) ((T % 4294967296 : Nat) : Int) (Int.natCast_nonneg _)
            rw [Int.toNat_natCast] at this
            exact this
          have HF : Hid (∃ cs', Owns (wq.setCell ⟨B, k + l, none⟩ (.int .u64 ((T % 4294967296 : Nat) : Int))) B (.slice (some ⟨B, 0, none⟩) (n + m) (n + m)) cs' ∧ Sm cs' ∧ val cs' + pw (k + (l + 1)) * (T / 4294967296) = val (ds.take k) * val es + pw k * (ds.getD k 0 * val (es.take (l + 1))) ∧ Zf cs' (k + m)) :=
            ⟨_, O.out, sm_set H2.out (Nat.mod_lt _ (by decide)), hv, zf_set H5.out (by omega)⟩
          have HB1 : Hid (Below B w (wq.setCell ⟨B, k + l, none⟩ (.int .u64 ((T % 4294967296 : Nat) : Int)))) := hbel'.setCell (p := ⟨B, k + l, none⟩) (Nat.le_refl _) _
          have E1 := (show Hid _ from e1)
          have E2 := (show Hid _ from e2)
          clear e1 e2 O H3 H4' hv
          go_wp2_with fail
          rw [E1.out, E2.out]
          exact ⟨⟨l + 1, T / 4294967296, by omega, by go_num, rfl, by omega, HB1.out, HF⟩, by simp [intOf]; omega⟩
        · obtain rfl : l = m := by omega
          have hc0 := hown.cell H1.out (k + l) (by omega)
          rw [dg_zf H5.out] at hc0
          have hf0 := hown.free H1.out (k + l)
          clear hown hcell
          have hv : val (cs.set (k + l) q) = val (ds.take (k + 1)) * val es := by
            have e := HM.out
            subst e
            exact times_out ds es cs k q (by have := H1.out; omega) (by have := HN.out; omega) (H5.out _ (Nat.le_refl _)) H3.out
          have O : Hid (Owns (wr.setCell ⟨B, k + l, none⟩ (.int .u64 (q : Int))) B (.slice (some ⟨B, 0, none⟩) (n + l) (n + l)) (cs.set (k + l) q)) := by
            have := H4.out.set H1.out (k + l) (q : Int) (Int.natCast_nonneg _)
            rw [Int.toNat_natCast] at this
            exact this
          have HF : Hid (∃ cs', Owns (wr.setCell ⟨B, k + l, none⟩ (.int .u64 (q : Int))) B (.slice (some ⟨B, 0, none⟩) (n + l) (n + l)) cs' ∧ Sm cs' ∧ val cs' = val (ds.take (k + 1)) * val es ∧ Zf cs' (k + 1 + l)) :=
            ⟨_, O.out, sm_set H2.out (by omega), hv, zf_set (zf_mono H5.out (by omega)) (by omega)⟩
          have HB1 : Hid (Below B w (wr.setCell ⟨B, k + l, none⟩ (.int .u64 (q : Int)))) := hbel.setCell (p := ⟨B, k + l, none⟩) (Nat.le_refl _) _
          clear O H3 H4 hv
          go_wp2_with fail
          exact ⟨⟨k + 1, by omega, by go_num, HB1.out, HF⟩, by simp [intOf]; omega⟩
    · obtain rfl : k = n := by omega
      obtain ⟨cs, hown, hsm, hval, hzf⟩ := hcs.out
      have H0 : Hid (Row wr _ cs) := hown.row (by have := hown.len; omega)
      have H2 : Hid (Sm cs) := hsm
      have H3 : Hid (val cs = val ds * val es) := by rw [val_take_past ds k (by have := HN.out; omega)] at hval; exact hval
      have hbel : Below w.heap.size w wr := by rw [← HB.out]; exact hbel
      clear hcs hsm hval hzf hown
      go_wp2_with fail
      refine (norm_ok _ cs _ H0.out H2.out).mono ?_
      rintro e w1 ⟨⟨u, rfl, hn⟩, rfl⟩
      rw [H3.out] at hn
      have HR := (show Hid _ from hn)
      clear hn
      go_wp2_with fail
      go_ret
      exact ⟨⟨_, rfl, HR.out⟩, hbel⟩
/-- Small enough for all that is done here. -/
def Md (x : Nat) : Prop := x < pw 32
theorem lt_pw {x k : Nat} (h : x < 2 ^ k) (j : Nat) (hk : k ≤ 32 * j) : x < pw j := by
  rw [pw_two]
  exact Nat.lt_of_lt_of_le h (Nat.pow_le_pow_right (by decide) hk)
theorem md_of {x k : Nat} (h : x < 2 ^ k) (hk : k ≤ 1024) : Md x := lt_pw h 32 (by omega)
theorem md_le {x y : Nat} (h : Md y) (hk : x ≤ y) : Md x := Nat.lt_of_le_of_lt hk h
theorem len_md {ds : List Nat} (h : Nd ds) (hx : Md (val ds)) : ds.length ≤ 32 := by
  by_cases hl : 32 < ds.length
  · have h1 := h.top (by omega)
    have h2 := pw_mono (show 32 ≤ ds.length - 1 by omega)
    unfold Md at hx
    omega
  · omega
theorem times_ok (v u : Value) (x y : Nat) (w : World) (h : Nm w v x) (h2 : Nm w u y) (hx : Md x) (hy : Md y) :
    Calls Tryd.prog 11 #[v, u] w fun e w' => (∃ r, e = .returned r ∧ Nm w' r (x * y)) ∧ Below w.heap.size w w' := by
  obtain ⟨ds, r, n, rfl⟩ := h
  obtain ⟨es, r2, n2, rfl⟩ := h2
  exact times_rows v u ds es w r r2 n.sm n2.sm (by have := len_md n hx; omega) (by have := len_md n2 hy; omega)
theorem plus_ok (v u : Value) (x y : Nat) (w : World) (h : Nm w v x) (h2 : Nm w u y) (hx : Md x) (hy : Md y) :
    Calls Tryd.prog 19 #[v, u] w fun e w' => (∃ r, e = .returned r ∧ Nm w' r (x + y)) ∧ Below w.heap.size w w' := by
  obtain ⟨ds, r, n, rfl⟩ := h
  obtain ⟨es, r2, n2, rfl⟩ := h2
  exact plus_rows v u ds es w r r2 n.sm n2.sm (by have := len_md n hx; omega) (by have := len_md n2 hy; omega)
end Go.Proofs.YtbgglghapjfdeaaDoor
/- The document's long numbers: the contracts of Left, Quo, Ten. -/
namespace Go.Proofs.YtbgglghapjfdeaaDoor
open Go.RowKit
set_option linter.unusedVariables false

theorem left_step (ds cs : List Nat) (k q Q R T : Nat) (hk : k < ds.length) (hl : cs.length = Q + k) (hT : T = ds.getD k 0 * 2 ^ R + q) (h : val cs + pw (Q + k) * q = pw Q * (2 ^ R * val (ds.take k))) :
    val (cs ++ [T % 4294967296]) + pw (Q + (k + 1)) * (T / 4294967296) = pw Q * (2 ^ R * val (ds.take (k + 1))) := by
  have e := Nat.div_add_mod T 4294967296
  rw [val_snoc, hl, val_take_succ ds k hk, show Q + (k + 1) = Q + k + 1 by omega, pw_succ]
  have hp2 : pw (Q + k) * T = pw (Q + k) * (T % 4294967296) + 4294967296 * pw (Q + k) * (T / 4294967296) := by
    conv => lhs; rw [← e]
    rw [Nat.mul_add, Nat.mul_comm 4294967296 (pw (Q + k)), Nat.mul_assoc]; omega
  have hp : pw (Q + k) * T = pw (Q + k) * (ds.getD k 0 * 2 ^ R) + pw (Q + k) * q := by rw [hT, Nat.mul_add]
  have hp3 : pw Q * (2 ^ R * (val (ds.take k) + pw k * ds.getD k 0)) = pw Q * (2 ^ R * val (ds.take k)) + pw (Q + k) * (ds.getD k 0 * 2 ^ R) := by
    rw [Nat.mul_add, Nat.mul_add, pw_add, Nat.mul_assoc, Nat.mul_left_comm (2 ^ R) (pw k), Nat.mul_comm (2 ^ R) (ds.getD k 0)]
  omega
theorem left_bd {x q R : Nat} (hx : x < 4294967296) (hq : q < 4294967296) (hR : R < 32) : x * 2 ^ R + q < 18446744073709551616 ∧ (q < 2 ^ R → (x * 2 ^ R + q) / 4294967296 < 2 ^ R) := by
  have h2 : (2 : Nat) ^ R ≤ 2147483648 := by
    have := Nat.pow_le_pow_right (show 0 < 2 by decide) (show R ≤ 31 by omega)
    simpa using this
  have h1 : x * 2 ^ R ≤ 4294967295 * 2 ^ R := Nat.mul_le_mul_right _ (by omega)
  constructor
  · omega
  · intro h; omega
theorem pow_lt {R : Nat} (hR : R < 32) : (2 : Nat) ^ R ≤ 2147483648 := by
  have := Nat.pow_le_pow_right (show 0 < 2 by decide) (show R ≤ 31 by omega)
  simpa using this
theorem left_word (ds : List Nat) (k q N : Nat) (hd : Sm ds) (hq : q < 2 ^ (N % 32)) : ∃ T : Nat, T = ds.getD k 0 * 2 ^ (N % 32) + q ∧ T ≤ 18446744073709551615 ∧ T / 4294967296 < 2 ^ (N % 32) ∧
    IntKind.u64.wrap (IntKind.u64.wrap (dg ds k * 2 ^ (N % 32)) + (q : Int)) = (T : Int) := by
  have hR : N % 32 < 32 := Nat.mod_lt _ (by decide)
  have hp := pow_lt hR
  have hs := sm_getD k hd
  obtain ⟨h1, h2⟩ := left_bd (q := q) hs (by omega) hR
  refine ⟨_, rfl, by omega, h2 hq, ?_⟩
  have e : dg ds k * 2 ^ (N % 32) = ((ds.getD k 0 * 2 ^ (N % 32) : Nat) : Int) := by unfold dg; rw [Int.natCast_mul, Int.natCast_pow]; rfl
  rw [e, IntKind.wrap_u64, IntKind.wrap_u64]
  generalize ds.getD k 0 * 2 ^ (N % 32) = X at *
  omega
set_option maxRecDepth 100000 in
set_option maxHeartbeats 1000000 in
theorem left_rows (v : Value) (ds : List Nat) (N : Nat) (w : World) (h : Row w v ds) (hd : Sm ds) (h100 : ds.length ≤ 100) (hN : N ≤ 1500) :
    Calls Tryd.prog 24 #[v, .int .i64 N] w fun e w' => (∃ r, e = .returned r ∧ Nm w' r (val ds * 2 ^ N)) ∧ Below w.heap.size w w' := by
  obtain ⟨hm, a, c, rfl, hlc, hx⟩ := h
  have HX := (show Hid _ from hx)
  have HD : Hid (Sm ds) := hd
  clear hx hd
  obtain ⟨n, hn⟩ : ∃ n, n = ds.length := ⟨_, rfl⟩
  have HN : Hid (n = ds.length) := hn
  rw [← hn] at hm hlc h100
  rw [← hn]
  clear hn
  go_enter Tryd.func24, Tryd.ntmps24
  go_wp2_with (at_make; refine mk1 rfl _ _ rfl (N / 32) _ _ (by rfl) (by rfl) (by omega) (by omega) (by omega) ?_; intro w1 hown hbel)
  obtain ⟨B, hB⟩ : ∃ B, B = w.heap.size := ⟨_, rfl⟩
  rw [← hB] at hown hbel
  rw [← hB]
  have HB : Hid (B = w.heap.size) := hB
  have hown' := (show Hid _ from hown)
  have hsz0 : B ≤ w.heap.size := by omega
  clear hB hown
  obtain ⟨R, hR⟩ : ∃ R, R = N % 32 := ⟨_, rfl⟩
  have HR : Hid (R = N % 32) := hR
  have hR2 : R < 32 := by omega
  clear hR
  go_loopw [5, 6, 14] (fun r s i wr => ∃ k q : Nat, k ≤ n ∧ i = .int .i64 k ∧ s = .int .u64 q ∧ Hid (q < 2 ^ R) ∧ Below B w wr ∧ Hid (∃ cs, Owns wr B r cs ∧ cs.length = N / 32 + k ∧ Sm cs ∧ val cs + pw (N / 32 + k) * q = pw (N / 32) * (2 ^ R * val (ds.take k)))) (fun _ _ i _ => n - (intOf i).toNat)
  case atStart => exact ⟨0, 0, by omega, rfl, rfl, Nat.pow_pos (by decide), hbel, _, hown'.out, by simp, sm_replicate _, by simp [val, val_replicate]⟩
  case round =>
    clear hown' hbel
    obtain ⟨k, q, hk, rfl, rfl, hq, hbel, hcs⟩ := hrel
    have hsz : B ≤ wr.heap.size := Nat.le_trans hsz0 hbel.size
    obtain ⟨cs, hown, hlen, hsm, hval⟩ := hcs.out
    have H1 := (show Hid _ from hlen)
    have H2 : Hid (Sm cs) := hsm
    have H3 := (show Hid _ from hval)
    have H4 : Hid (Owns _ _ _ cs) := hown
    have hqb : q ≤ 2147483648 := by have := hq.out; have := pow_lt hR2; omega
    clear hcs hsm hval hlen hown
    by_cases hkn : k < n
    · obtain ⟨b, off, rfl, ⟨hb, _⟩, hc⟩ := HX.out (by have := HN.out; omega)
      have hcell := (hbel.cell (p := ⟨b, off + k, none⟩) (by rw [HB.out]; exact hb)).trans (hc k (by have := HN.out; omega))
      have b1 := dg_bd HD.out k
      clear hc HX
      obtain ⟨T, hT, hT2, hT3, hw⟩ := left_word ds k q N HD.out (by rw [← HR.out]; exact hq.out)
      have HT : Hid (T = ds.getD k 0 * 2 ^ R + q) := by rw [HR.out]; exact hT
      have HT3 : Hid (T / 4294967296 < 2 ^ R) := by rw [HR.out]; exact hT3
      clear hT hT3 hq
      go_wp2_with (at_builtin; refine app1 rfl _ _ rfl B cs _ ((T : Int) % 4294967296) (by rfl) (by rfl) (by omega) H4.out hsz (by have := H1.out; omega) ?_; intro v' w1 hown' hbel')
      have e1 : ((T : Int) % 4294967296).toNat = T % 4294967296 := by omega
      rw [e1] at hown'
      have HF : Hid (∃ cs, Owns w1 B v' cs ∧ cs.length = N / 32 + (k + 1) ∧ Sm cs ∧ val cs + pw (N / 32 + (k + 1)) * (T / 4294967296) = pw (N / 32) * (2 ^ R * val (ds.take (k + 1)))) :=
        ⟨_, hown', by rw [List.length_append, H1.out]; rfl, sm_snoc H2.out (Nat.mod_lt _ (by decide)), left_step ds cs k q (N / 32) R T (by have := HN.out; omega) H1.out HT.out H3.out⟩
      have hbel1 : Below B w w1 := hbel.trans hbel'
      have E2 : Hid ((T : Int) / 4294967296 = ((T / 4294967296 : Nat) : Int)) := rfl
      clear hown' e1 H4 hbel hbel' hw hcell
      go_wp2_with fail
      rw [E2.out]
      exact ⟨⟨k + 1, T / 4294967296, by omega, by go_num, rfl, HT3, hbel1, HF⟩, by simp [intOf]; omega⟩
    · obtain rfl : k = n := by omega
      go_wp2_with (at_builtin; refine app1 rfl _ _ rfl B cs _ (q : Int) (by rfl) (by rfl) (by omega) H4.out hsz (by have := H1.out; omega) ?_; intro v' w1 hown' hbel')
      rw [Int.toNat_natCast] at hown'
      have HV : Hid (val (cs ++ [q]) = val ds * 2 ^ N) := by
        have hv := H3.out
        rw [val_take_past ds k (by have := HN.out; omega)] at hv
        show val (cs ++ [q]) = val ds * 2 ^ N
        have e : N = 32 * (N / 32) + R := by have := HR.out; omega
        rw [val_snoc, H1.out, hv, pw_two, ← Nat.mul_assoc, ← Nat.pow_add, ← e, Nat.mul_comm]
      have H2' : Hid (Sm (cs ++ [q])) := sm_snoc H2.out (by omega)
      have H0 : Hid (Row w1 v' (cs ++ [q])) := hown'.row (by rw [List.length_append, H1.out]; simp; omega)
      have hbel1 : Below w.heap.size w w1 := by rw [← HB.out]; exact hbel.trans hbel'
      clear hown' H4 hbel hbel'
      refine (norm_ok _ _ _ H0.out H2'.out).mono ?_
      rintro e w2 ⟨⟨u, rfl, hn⟩, rfl⟩
      rw [HV.out] at hn
      have HR2 := (show Hid _ from hn)
      clear hn
      go_wp2_with fail
      go_ret
      exact ⟨⟨_, rfl, HR2.out⟩, hbel1⟩
theorem left_ok (v : Value) (x N : Nat) (w : World) (h : Nm w v x) (hx : Md x) (hN : N ≤ 1500) :
    Calls Tryd.prog 24 #[v, .int .i64 N] w fun e w' => (∃ r, e = .returned r ∧ Nm w' r (x * 2 ^ N)) ∧ Below w.heap.size w w' := by
  obtain ⟨ds, r, n, rfl⟩ := h
  exact left_rows v ds N w r n.sm (by have := len_md n hx; omega) hN

theorem ten_md (k : Nat) (h : k ≤ 40) : Md (10 ^ k) := by
  have h1 : (10 : Nat) ^ k ≤ 16 ^ k := Nat.pow_le_pow_left (by decide) k
  have h2 : (16 : Nat) ^ k = 2 ^ (4 * k) := by rw [show (16 : Nat) = 2 ^ 4 from rfl, ← Nat.pow_mul]
  exact md_of (k := 4 * k + 1) (by rw [Nat.pow_succ, ← h2]; have := Nat.pow_pos (n := k) (show 0 < 16 by decide); omega) (by omega)
end Go.Proofs.YtbgglghapjfdeaaDoor
/- The document's long numbers: the contract of Quo. -/
namespace Go.Proofs.YtbgglghapjfdeaaDoor
open Go.RowKit
set_option linter.unusedVariables false

theorem norm_nm (v : Value) (x : Nat) (w : World) (h : Nm w v x) :
    Calls Tryd.prog 25 #[v] w fun e w' => (∃ u, e = .returned u ∧ Nm w u x) ∧ w' = w := by
  obtain ⟨ds, r, n, rfl⟩ := h
  exact norm_ok v ds w r n.sm
theorem size_md {x s : Nat} (h : IsSize x s) (hx : Md x) : s ≤ 1024 := by
  unfold Md at hx
  rw [pw_two] at hx
  have := isSize_bound h hx
  omega
theorem two_md {k : Nat} (h : k < 1024) : Md (1 * 2 ^ k) := by
  rw [Nat.one_mul]
  exact md_of (k := k + 1) (by rw [Nat.pow_succ]; have := Nat.pow_pos (n := k) (show 0 < 2 by decide); omega) (by omega)
theorem quo_q {x y c q : Nat} (h : x = q * y + c) (hy : 0 < y) : q ≤ x := by
  have := Nat.le_mul_of_pos_right q hy
  omega
theorem cmpN_le {x y : Nat} (h : x ≤ y) : decide (cmpN x y ≤ 0) = true := by
  rcases (show x < y ∨ x = y by omega) with h | rfl
  · rw [cmpN_lt h]; rfl
  · rw [cmpN_eq]; rfl
theorem cmpN_ge {x y : Nat} (h : y ≤ x) : 0 ≤ cmpN x y := by
  rcases (show y < x ∨ y = x by omega) with h | rfl
  · rw [cmpN_gt h]; decide
  · rw [cmpN_eq]; decide
theorem cmpN_bd (x y : Nat) : -1 ≤ cmpN x y ∧ cmpN x y ≤ 1 := by
  unfold cmpN; split
  · omega
  · split <;> omega
theorem cmpN_iff (x y : Nat) : cmpN x y ≤ 0 ↔ x ≤ y := by
  unfold cmpN; split
  · omega
  · split <;> omega
/-- Behind a quotient's rounds. -/
structure Qs (w : World) (a q : Value) (x y k : Nat) (cx qx : Nat) : Prop where
  a : Nm w a cx
  q : Nm w q qx
  e : x = qx * y + cx
  lt : cx < y * 2 ^ k
set_option maxRecDepth 100000 in
set_option maxHeartbeats 1000000 in
theorem lquo_ok (v u : Value) (x y : Nat) (w : World) (h : Nm w v x) (h2 : Nm w u y) (hx : Md x) (hy : Md y) (hy0 : 0 < y) :
    Calls Tryd.prog 10 #[v, u] w fun e w' => (∃ q r, e = .returned (.tuple #[q, r]) ∧ Nm w' q (x / y) ∧ Nm w' r (x % y)) ∧ Below w.heap.size w w' := by
  have H1 : Hid (Nm w v x) := h
  have H2 : Hid (Nm w u y) := h2
  have HX : Hid (Md x) := hx
  have HY : Hid (Md y) := hy
  clear h h2 hx hy
  go_enter Tryd.func10, Tryd.ntmps10
  go_wp2_with fail
  refine (size_ok v x _ H1.out).mono ?_
  rintro e w1 ⟨⟨s, rfl, hs, hs2⟩, rfl⟩
  have HS := (show Hid _ from hs)
  clear hs
  go_wp2_with fail
  refine (size_ok u y _ H2.out).mono ?_
  rintro e w2 ⟨⟨t, rfl, ht, ht2⟩, rfl⟩
  have HT := (show Hid _ from ht)
  clear ht
  by_cases hst : s < t
  · have e1 : Hid (x / y = 0) := Nat.div_eq_of_lt (quo_small HS.out HT.out hst)
    have e2 : Hid (x % y = x) := Nat.mod_eq_of_lt (quo_small HS.out HT.out hst)
    go_wp2_with fail
    refine wp_loop_rounds 1 ?_
    rw [rounds_succ]
    go_wp2_with fail
    refine (norm_nm _ x _ H1.out).mono ?_
    rintro e w3 ⟨⟨r, rfl, hr⟩, rfl⟩
    have HR := (show Hid _ from hr)
    clear hr
    go_wp2_with fail
    refine bodyPost_ret (v := .tuple #[.slice none 0 0, r]) (by simp [results, Tryd.results10, go_sem]) rfl ⟨⟨_, _, rfl, ?_, ?_⟩, Below.refl _ _⟩
    · rw [e1.out]; exact nm_nil _
    · rw [e2.out]; exact HR.out
  · have ht0 : 0 < t := by
      by_cases e : t = 0
      · subst e; have := HT.out.hi; simp at this; omega
      · omega
    have hs1024 := size_md HS.out HX.out
    have hst2 := (show Hid _ from quo_start HS.out HT.out hy0 (by omega))
    go_wp2_with fail
    go_loopw [0, 6, 7] (fun a q i wr => ∃ k : Nat, k ≤ 1024 ∧ i = .int .i64 ((k : Int) - 1) ∧ Below w2.heap.size w2 wr ∧ Hid (∃ cx qx, Qs wr a q x y k cx qx)) (fun _ _ i _ => (intOf i + 1).toNat)
    case atStart => exact ⟨s - t + 1, by omega, by go_num, Below.refl _ _, x, 0, H1.out, nm_nil _, by omega, hst2.out⟩
    case round =>
      obtain ⟨k, hk, rfl, hbel, hqs⟩ := hrel
      obtain ⟨cx, qx, Q1⟩ := hqs.out
      have HQ := (show Hid _ from Q1)
      clear hqs Q1
      by_cases h0 : k = 0
      · subst h0
        obtain ⟨e1, e2⟩ := quo_end HQ.out.e (by have := HQ.out.lt; simpa using this)
        go_wp2_with fail
        refine (norm_nm _ cx _ HQ.out.a).mono ?_
        rintro e w3 ⟨⟨r, rfl, hr⟩, rfl⟩
        have HR := (show Hid _ from hr)
        have HQ2 := (show Hid _ from HQ.out.q)
        rw [e1] at HQ2
        rw [e2] at HR
        clear hr HQ e1 e2
        go_wp2_with fail
        refine bodyPost_ret (v := .tuple #[_, r]) (by simp [results, Tryd.results10, go_sem]) rfl ⟨⟨_, _, rfl, HQ2.out, HR.out⟩, hbel⟩
      · obtain ⟨j, rfl⟩ : ∃ j, k = j + 1 := ⟨k - 1, by omega⟩
        rw [show ((j + 1 : Nat) : Int) - 1 = (j : Int) by omega]
        go_wp2_with fail
        refine (left_ok u y j _ (H2.out.step hbel) HY.out (by omega)).mono ?_
        rintro e w3 ⟨⟨t', rfl, hn⟩, hb⟩
        have HT' := (show Hid _ from hn)
        have HA := (show Hid _ from HQ.out.a.step hb)
        have HQq := (show Hid _ from HQ.out.q.step hb)
        have hbel := hbel.trans (hb.mono hbel.size)
        clear hn hb
        go_wp2_with fail
        refine (compare_ok _ _ _ _ _ HT'.out HA.out).mono ?_
        rintro e w4 ⟨rfl, hb⟩
        have HT' := (show Hid _ from HT'.out.step hb)
        have HA := (show Hid _ from HA.out.step hb)
        have HQq := (show Hid _ from HQq.out.step hb)
        have hbel := hbel.trans (hb.mono hbel.size)
        clear hb
        have hcm := cmpN_iff (y * 2 ^ j) cx
        have hcb := cmpN_bd (y * 2 ^ j) cx
        by_cases hle : y * 2 ^ j ≤ cx
        · have hc2 := hcm.2 hle
          obtain ⟨g1, g2⟩ := quo_yes HQ.out.e HQ.out.lt hle
          have G1 := (show Hid _ from g1)
          have G2 := (show Hid _ from g2)
          have HLE := (show Hid _ from hle)
          have hq1 := quo_q HQ.out.e hy0
          have HQX : Hid (Md qx) := md_le HX.out hq1
          clear g1 g2 hle hcm hq1
          generalize cmpN (y * 2 ^ j) cx = cc at *
          go_wp2_with fail
          refine (minus_ok _ _ _ _ _ HA.out HT'.out HLE.out).mono ?_
          rintro e w5 ⟨⟨a', rfl, hn⟩, hb⟩
          have HA' := (show Hid _ from hn)
          have HQq := (show Hid _ from HQq.out.step hb)
          have hbel := hbel.trans (hb.mono hbel.size)
          clear hn hb HT' HA
          go_wp2_with fail
          refine (word_ok 1 _ (by omega) (by omega)).mono ?_
          rintro e w6 ⟨⟨o, rfl, hn⟩, hb⟩
          have HO := (show Hid _ from hn)
          have HA' := (show Hid _ from HA'.out.step hb)
          have HQq := (show Hid _ from HQq.out.step hb)
          have hbel := hbel.trans (hb.mono hbel.size)
          clear hn hb
          go_wp2_with fail
          refine (left_ok _ 1 j _ HO.out (md_of (k := 1) (by decide) (by omega)) (by omega)).mono ?_
          rintro e w7 ⟨⟨o', rfl, hn⟩, hb⟩
          have HO' := (show Hid _ from hn)
          have HA' := (show Hid _ from HA'.out.step hb)
          have HQq := (show Hid _ from HQq.out.step hb)
          have hbel := hbel.trans (hb.mono hbel.size)
          clear hn hb HO
          go_wp2_with fail
          refine (plus_ok _ _ _ _ _ HQq.out HO'.out HQX.out (two_md (by omega))).mono ?_
          rintro e w8 ⟨⟨q', rfl, hn⟩, hb⟩
          have HF : Hid (∃ cx qx, Qs w8 a' q' x y j cx qx) := ⟨_, _, HA'.out.step hb, hn, by rw [Nat.one_mul]; exact G1.out, G2.out⟩
          have hbel := hbel.trans (hb.mono hbel.size)
          clear hn hb HO' HA' HQq G1 G2 HQX
          go_wp2_with fail
          exact ⟨⟨j, by omega, rfl, hbel, HF⟩, by simp [intOf]⟩
        · have hc2 : ¬ cmpN (y * 2 ^ j) cx ≤ 0 := fun h => hle (hcm.1 h)
          have HF := (show Hid (∃ cx qx, Qs _ _ _ x y j cx qx) from ⟨cx, qx, HA.out, HQq.out, HQ.out.e, by omega⟩)
          clear hcm hle HQ HA HQq HT'
          generalize cmpN (y * 2 ^ j) cx = cc at *
          go_wp2_with fail
          exact ⟨⟨j, by omega, rfl, hbel, HF⟩, by simp [intOf]⟩
end Go.Proofs.YtbgglghapjfdeaaDoor
