/- Numbers seven bits a byte: plain arithmetic of the form. -/
import Derived.Test.YtgabklihgjjjeaaGreatDoorProg
import Derived.WalkKit
namespace Go.Proofs.YtgabklihgjjjeaaGreatDoor.pk
set_option linter.unusedVariables false

/-- the bytes of a number -/
def enc (n : Nat) : List Nat := if h : n < 128 then [n] else (n % 128 + 128) :: enc (n / 128)
  termination_by n
  decreasing_by omega
theorem enc_lo {n : Nat} (h : n < 128) : enc n = [n] := by rw [enc]; simp [h]
theorem enc_hi {n : Nat} (h : ¬ n < 128) : enc n = (n % 128 + 128) :: enc (n / 128) := by rw [enc]; simp [h]
/-- the value of bytes that go on -/
def dv : List Nat → Nat
  | [] => 0
  | x :: t => x % 128 + 128 * dv t
theorem dv_lt : ∀ l : List Nat, dv l < 128 ^ l.length
  | [] => by simp [dv]
  | x :: t => by
    have := dv_lt t
    simp only [dv, List.length_cons, Nat.pow_succ]
    omega
theorem dv_snoc : ∀ (l : List Nat) (b : Nat), dv (l ++ [b]) = dv l + b % 128 * 128 ^ l.length
  | [], b => by simp [dv]
  | x :: t, b => by
    simp only [List.cons_append, dv, List.length_cons, Nat.pow_succ, dv_snoc t b]
    rw [Nat.mul_add, Nat.add_assoc]
    congr 2
    rw [Nat.mul_comm 128, Nat.mul_assoc]
theorem dv_take (bs : List Nat) (i : Nat) (h : i < bs.length) : dv (bs.take (i + 1)) = dv (bs.take i) + bs.getD i 0 % 128 * 128 ^ i := by
  rw [List.take_add_one, List.getElem?_eq_getElem h]
  simp only [Option.toList]
  rw [dv_snoc, List.length_take, Nat.min_eq_left (by omega)]
  simp [List.getD, h]
theorem enc_of : ∀ (l : List Nat) (b : Nat), (∀ x ∈ l, 128 ≤ x ∧ x < 256) → b < 128 → (b ≠ 0 ∨ l = []) → enc (dv l + b * 128 ^ l.length) = l ++ [b]
  | [], b, _, hb, _ => by simp [dv, enc_lo hb]
  | x :: t, b, hl, hb, h0 => by
    have hx := hl x (by simp)
    have hb0 : b ≠ 0 := by rcases h0 with h | h; exact h; simp at h
    have ih := enc_of t b (fun y hy => hl y (by simp [hy])) hb (Or.inl hb0)
    have hv : dv (x :: t) + b * 128 ^ (x :: t).length = x % 128 + 128 * (dv t + b * 128 ^ t.length) := by
      simp only [dv, List.length_cons, Nat.pow_succ]
      rw [Nat.mul_add, ← Nat.add_assoc]; congr 1
      rw [← Nat.mul_assoc, Nat.mul_comm]
    have hp : 0 < 128 ^ t.length := Nat.pow_pos (by omega)
    have h1 : 1 ≤ b * 128 ^ t.length := Nat.mul_pos (by omega) hp
    rw [hv]
    generalize dv t + b * 128 ^ t.length = m at *
    have hm : 1 ≤ m ∨ True := Or.inr trivial
    by_cases hz : m = 0
    · exfalso
      subst hz
      have : enc 0 = [0] := enc_lo (by omega)
      rw [this] at ih
      cases t with
      | nil => simp at ih; omega
      | cons a t => simp at ih
    rw [enc_hi (by omega), List.cons_append]
    congr 1
    · omega
    · rw [show (x % 128 + 128 * m) / 128 = m by omega, ih]
/-- what the bytes of a number are -/
structure Shape (n : Nat) (l : List Nat) (b : Nat) : Prop where
  eq : enc n = l ++ [b]
  mid : ∀ x ∈ l, 128 ≤ x ∧ x < 256
  lt : b < 128
  last : b ≠ 0 ∨ l = []
  val : n = dv l + b * 128 ^ l.length
theorem shape (n : Nat) : ∃ l b, Shape n l b := by
  induction n using Nat.strongRecOn with
  | _ n ih =>
    by_cases h : n < 128
    · exact ⟨[], n, by simp [enc_lo h], by simp, h, Or.inr rfl, by simp [dv]⟩
    · obtain ⟨l, b, s⟩ := ih (n / 128) (by omega)
      refine ⟨(n % 128 + 128) :: l, b, by rw [enc_hi h, s.eq]; rfl, ?_, s.lt, Or.inl ?_, ?_⟩
      · intro x hx
        rcases List.mem_cons.1 hx with rfl | hx
        · omega
        · exact s.mid x hx
      · rcases s.last with h0 | h0
        · exact h0
        · have := s.val
          rw [h0] at this
          simp [dv] at this
          omega
      · have := s.val
        simp only [dv, List.length_cons, Nat.pow_succ]
        have e : b * (128 ^ l.length * 128) = 128 * (b * 128 ^ l.length) := by rw [← Nat.mul_assoc, Nat.mul_comm]
        rw [e]
        omega
theorem enc_pos (n : Nat) : 0 < (enc n).length := by
  obtain ⟨l, b, s⟩ := shape n
  rw [s.eq]; simp
theorem enc_byte {n x : Nat} (h : x ∈ enc n) : x < 256 := by
  obtain ⟨l, b, s⟩ := shape n
  rw [s.eq] at h
  rcases List.mem_append.1 h with h | h
  · exact (s.mid x h).2
  · have := s.lt; simp at h; omega
theorem enc_len {n : Nat} (h : n < 18446744073709551616) : (enc n).length ≤ 10 := by
  obtain ⟨l, b, s⟩ := shape n
  rw [s.eq, List.length_append, List.length_singleton]
  by_cases hc : l.length ≤ 9
  · omega
  · exfalso
    have hl : l ≠ [] := by intro e; subst e; simp at hc
    have hb : b ≠ 0 := by rcases s.last with h | h; exact h; exact absurd h hl
    have h1 : 128 ^ 10 ≤ 128 ^ l.length := Nat.pow_le_pow_right (by omega) (by omega)
    have h2 : 1 * 128 ^ l.length ≤ b * 128 ^ l.length := Nat.mul_le_mul_right _ (by omega)
    have := s.val
    have h3 : (128 : Nat) ^ 10 = 1180591620717411303424 := by decide
    omega
theorem enc_inj_front : ∀ (n m : Nat) (bs : List Nat), enc n <+: bs → enc m <+: bs → n = m := by
  intro n
  induction n using Nat.strongRecOn with
  | _ n ih =>
    intro m bs hn hm
    obtain ⟨t, ht⟩ := hn
    obtain ⟨u, hu⟩ := hm
    by_cases h : n < 128
    · by_cases h' : m < 128
      · rw [enc_lo h] at ht; rw [enc_lo h'] at hu
        rw [← ht] at hu; simp at hu; omega
      · rw [enc_lo h] at ht; rw [enc_hi h'] at hu
        rw [← ht] at hu; simp at hu; omega
    · by_cases h' : m < 128
      · rw [enc_hi h] at ht; rw [enc_lo h'] at hu
        rw [← ht] at hu; simp at hu; omega
      · rw [enc_hi h] at ht; rw [enc_hi h'] at hu
        rw [← ht] at hu
        simp only [List.cons_append, List.cons.injEq] at hu
        have := ih (n / 128) (by omega) (m / 128) (enc (n / 128) ++ t) ⟨t, rfl⟩ ⟨u, hu.2⟩
        omega
theorem getD_at (l : List Nat) (b : Nat) (t : List Nat) : (l ++ [b] ++ t).getD l.length 0 = b := by simp [List.getD]
theorem getD_in (l : List Nat) (t : List Nat) (i : Nat) (h : i < l.length) : (l ++ t).getD i 0 ∈ l := by
  simp [List.getD, List.getElem?_append_left h, List.getElem?_eq_getElem h]
/-- there is a number's form at the front of the bytes just if .. -/
theorem front_at {n i : Nat} {bs : List Nat} (h : enc n <+: bs) (hi : i < bs.length) (hc : ∀ j, j < i → 128 ≤ bs.getD j 0) (hl : bs.getD i 0 < 128) :
    ∃ l, Shape n l (bs.getD i 0) ∧ l.length = i := by
  obtain ⟨l, b, s⟩ := shape n
  obtain ⟨t, ht⟩ := h
  rw [s.eq] at ht
  have h1 : bs.getD l.length 0 = b := by rw [← ht]; exact getD_at l b t
  have hlen : l.length = i := by
    rcases Nat.lt_trichotomy l.length i with h | h | h
    · have := hc _ h; have := s.lt; omega
    · exact h
    · have hm := getD_in l ([b] ++ t) i h
      rw [← List.append_assoc, ht] at hm
      have := (s.mid _ hm).1
      omega
  subst hlen
  rw [h1]
  exact ⟨l, s, rfl⟩
theorem front_none {n i : Nat} {bs : List Nat} (hi : i ≤ bs.length) (hc : ∀ j, j < i → 128 ≤ bs.getD j 0) (hx : bs.length ≤ i ∨ 10 ≤ i) (hn : n < 18446744073709551616) : ¬ enc n <+: bs := by
  intro h
  have hle := enc_len hn
  obtain ⟨l, b, s⟩ := shape n
  have hlb := h.length_le
  obtain ⟨t, ht⟩ := h
  rw [s.eq] at ht hle hlb
  simp at hle hlb
  have h1 : bs.getD l.length 0 = b := by rw [← ht]; exact getD_at l b t
  have := hc l.length (by omega)
  have := s.lt
  omega
theorem front_not {n i : Nat} {bs : List Nat} (hi : i < bs.length) (hc : ∀ j, j < i → 128 ≤ bs.getD j 0) (hl : bs.getD i 0 < 128) (hn : n < 18446744073709551616) (hm : (i = 9 ∧ bs.getD i 0 ≠ 1) ∨ (0 < i ∧ bs.getD i 0 = 0)) : ¬ enc n <+: bs := by
  intro h
  obtain ⟨l, s, e⟩ := front_at h hi hc hl
  have hv := s.val
  have hb : i = 0 ∨ bs.getD i 0 ≠ 0 := by rcases s.last with h | h; exact Or.inr h; subst h; left; simpa using e.symm
  rcases hm with ⟨rfl, h1⟩ | ⟨h1, h2⟩
  · rw [e] at hv
    have h3 : (128 : Nat) ^ 9 = 9223372036854775808 := by decide
    rw [h3] at hv
    generalize bs.getD 9 0 = b at *
    have : 2 ≤ b := by rcases hb with h | h; omega; omega
    omega
  · omega
theorem mem_take_getD {bs : List Nat} {i x : Nat} (h : x ∈ bs.take i) : ∃ j, j < i ∧ j < bs.length ∧ bs.getD j 0 = x := by
  obtain ⟨j, hj, e⟩ := List.getElem_of_mem h
  simp at hj e
  have hj2 : j < bs.length := by omega
  exact ⟨j, by omega, hj2, by rw [← e]; simp [List.getD, hj2]⟩
theorem front_yes {i : Nat} {bs : List Nat} (hi : i < bs.length) (hby : ∀ x ∈ bs, x < 256) (hc : ∀ j, j < i → 128 ≤ bs.getD j 0) (hl : bs.getD i 0 < 128) (h0 : bs.getD i 0 ≠ 0 ∨ i = 0) :
    enc (dv (bs.take (i + 1))) = bs.take (i + 1) := by
  have h1 : (bs.take i).length = i := by rw [List.length_take]; omega
  have := enc_of (bs.take i) (bs.getD i 0) (fun x hx => by
    obtain ⟨j, hj, hj2, e⟩ := mem_take_getD hx
    exact ⟨by rw [← e]; exact hc j hj, hby x (List.mem_of_mem_take hx)⟩) hl (h0.imp id (fun h => by subst h; rfl))
  rw [dv_take bs i hi, Nat.mod_eq_of_lt hl]
  rw [h1] at this
  rw [this, List.take_add_one, List.getElem?_eq_getElem hi]
  simp [List.getD, hi]
/-- numbers with a sign -/
def zz (n : Int) : Nat := if n < 0 then (-2 * n - 1).toNat else (2 * n).toNat
theorem zz_lt {n : Int} (h1 : -9223372036854775808 ≤ n) (h2 : n ≤ 9223372036854775807) : zz n < 18446744073709551616 := by
  unfold zz; split <;> omega
/-- .. and back -/
def uz (m : Nat) : Int := if m % 2 = 1 then -((m / 2 : Nat) : Int) - 1 else ((m / 2 : Nat) : Int)
theorem uz_zz (n : Int) : uz (zz n) = n := by
  unfold zz uz; split <;> split <;> omega
theorem zz_uz (m : Nat) : zz (uz m) = m := by
  unfold uz; split <;> (unfold zz; split <;> omega)
theorem uz_bd {m : Nat} (h : m < 18446744073709551616) : -9223372036854775808 ≤ uz m ∧ uz m ≤ 9223372036854775807 := by
  unfold uz; split <;> omega
end Go.Proofs.YtgabklihgjjjeaaGreatDoor.pk
