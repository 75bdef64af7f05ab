/- Numbers seven bits a byte: plain arithmetic of the form. -/
import Derived.Test.YtkmdegmpffgplaaGreatDoorProg
import Derived.WalkKit
import Derived.Laws.AppendOwn
import Derived.Laws.AppendOwnNone
import Derived.Laws.CopyOwn
import Derived.OwnWalk
import Derived.LoopTactic
import Derived.Below
import Derived.Handy
import Derived.BigQuiet
import Derived.Deep.QuietTactic
namespace Go.Proofs.YtkmdegmpffgplaaGreatDoor.pk
set_option linter.unusedVariables false

/-- the bytes of a number -/
def enc (n : Nat) : List Nat := if h : n < 128 then [n] else (n % 128 + 128) :: enc (n / 128)
  termination_by n
  decreasing_by omega
theorem enc_lo {n : Nat} (h : n < 128) : enc n = [n] := by rw [enc]; simp [h]
theorem enc_hi {n : Nat} (h : ¬ n < 128) : enc n = (n % 128 + 128) :: enc (n / 128) := by rw [enc]; simp [h]
/-- the value of bytes that go on -/
def dv : List Nat → Nat
  | [] => 0
  | x :: t => x % 128 + 128 * dv t
theorem dv_lt : ∀ l : List Nat, dv l < 128 ^ l.length
  | [] => by simp [dv]
  | x :: t => by
    have := dv_lt t
    simp only [dv, List.length_cons, Nat.pow_succ]
    omega
theorem dv_snoc : ∀ (l : List Nat) (b : Nat), dv (l ++ [b]) = dv l + b % 128 * 128 ^ l.length
  | [], b => by simp [dv]
  | x :: t, b => by
    simp only [List.cons_append, dv, List.length_cons, Nat.pow_succ, dv_snoc t b]
    rw [Nat.mul_add, Nat.add_assoc]
    congr 2
    rw [Nat.mul_comm 128, Nat.mul_assoc]
theorem dv_take (bs : List Nat) (i : Nat) (h : i < bs.length) : dv (bs.take (i + 1)) = dv (bs.take i) + bs.getD i 0 % 128 * 128 ^ i := by
  rw [List.take_add_one, List.getElem?_eq_getElem h]
  simp only [Option.toList]
  rw [dv_snoc, List.length_take, Nat.min_eq_left (by omega)]
  simp [List.getD, h]
theorem enc_of : ∀ (l : List Nat) (b : Nat), (∀ x ∈ l, 128 ≤ x ∧ x < 256) → b < 128 → (b ≠ 0 ∨ l = []) → enc (dv l + b * 128 ^ l.length) = l ++ [b]
  | [], b, _, hb, _ => by simp [dv, enc_lo hb]
  | x :: t, b, hl, hb, h0 => by
    have hx := hl x (by simp)
    have hb0 : b ≠ 0 := by rcases h0 with h | h; exact h; simp at h
    have ih := enc_of t b (fun y hy => hl y (by simp [hy])) hb (Or.inl hb0)
    have hv : dv (x :: t) + b * 128 ^ (x :: t).length = x % 128 + 128 * (dv t + b * 128 ^ t.length) := by
      simp only [dv, List.length_cons, Nat.pow_succ]
      rw [Nat.mul_add, ← Nat.add_assoc]; congr 1
      rw [← Nat.mul_assoc, Nat.mul_comm]
    have hp : 0 < 128 ^ t.length := Nat.pow_pos (by omega)
    have h1 : 1 ≤ b * 128 ^ t.length := Nat.mul_pos (by omega) hp
    rw [hv]
    generalize dv t + b * 128 ^ t.length = m at *
    have hm : 1 ≤ m ∨ True := Or.inr trivial
    by_cases hz : m = 0
    · exfalso
      subst hz
      have : enc 0 = [0] := enc_lo (by omega)
      rw [this] at ih
      cases t with
      | nil => simp at ih; omega
      | cons a t => simp at ih
    rw [enc_hi (by omega), List.cons_append]
    congr 1
    · omega
    · rw [show (x % 128 + 128 * m) / 128 = m by omega, ih]
/-- what the bytes of a number are -/
structure Shape (n : Nat) (l : List Nat) (b : Nat) : Prop where
  eq : enc n = l ++ [b]
  mid : ∀ x ∈ l, 128 ≤ x ∧ x < 256
  lt : b < 128
  last : b ≠ 0 ∨ l = []
  val : n = dv l + b * 128 ^ l.length
theorem shape (n : Nat) : ∃ l b, Shape n l b := by
  induction n using Nat.strongRecOn with
  | _ n ih =>
    by_cases h : n < 128
    · exact ⟨[], n, by simp [enc_lo h], by simp, h, Or.inr rfl, by simp [dv]⟩
    · obtain ⟨l, b, s⟩ := ih (n / 128) (by omega)
      refine ⟨(n % 128 + 128) :: l, b, by rw [enc_hi h, s.eq]; rfl, ?_, s.lt, Or.inl ?_, ?_⟩
      · intro x hx
        rcases List.mem_cons.1 hx with rfl | hx
        · omega
        · exact s.mid x hx
      · rcases s.last with h0 | h0
        · exact h0
        · have := s.val
          rw [h0] at this
          simp [dv] at this
          omega
      · have := s.val
        simp only [dv, List.length_cons, Nat.pow_succ]
        have e : b * (128 ^ l.length * 128) = 128 * (b * 128 ^ l.length) := by rw [← Nat.mul_assoc, Nat.mul_comm]
        rw [e]
        omega
theorem enc_pos (n : Nat) : 0 < (enc n).length := by
  obtain ⟨l, b, s⟩ := shape n
  rw [s.eq]; simp
theorem enc_byte {n x : Nat} (h : x ∈ enc n) : x < 256 := by
  obtain ⟨l, b, s⟩ := shape n
  rw [s.eq] at h
  rcases List.mem_append.1 h with h | h
  · exact (s.mid x h).2
  · have := s.lt; simp at h; omega
theorem enc_len {n : Nat} (h : n < 18446744073709551616) : (enc n).length ≤ 10 := by
  obtain ⟨l, b, s⟩ := shape n
  rw [s.eq, List.length_append, List.length_singleton]
  by_cases hc : l.length ≤ 9
  · omega
  · exfalso
    have hl : l ≠ [] := by intro e; subst e; simp at hc
    have hb : b ≠ 0 := by rcases s.last with h | h; exact h; exact absurd h hl
    have h1 : 128 ^ 10 ≤ 128 ^ l.length := Nat.pow_le_pow_right (by omega) (by omega)
    have h2 : 1 * 128 ^ l.length ≤ b * 128 ^ l.length := Nat.mul_le_mul_right _ (by omega)
    have := s.val
    have h3 : (128 : Nat) ^ 10 = 1180591620717411303424 := by decide
    omega
theorem enc_inj_front : ∀ (n m : Nat) (bs : List Nat), enc n <+: bs → enc m <+: bs → n = m := by
  intro n
  induction n using Nat.strongRecOn with
  | _ n ih =>
    intro m bs hn hm
    obtain ⟨t, ht⟩ := hn
    obtain ⟨u, hu⟩ := hm
    by_cases h : n < 128
    · by_cases h' : m < 128
      · rw [enc_lo h] at ht; rw [enc_lo h'] at hu
        rw [← ht] at hu; simp at hu; omega
      · rw [enc_lo h] at ht; rw [enc_hi h'] at hu
        rw [← ht] at hu; simp at hu; omega
    · by_cases h' : m < 128
      · rw [enc_hi h] at ht; rw [enc_lo h'] at hu
        rw [← ht] at hu; simp at hu; omega
      · rw [enc_hi h] at ht; rw [enc_hi h'] at hu
        rw [← ht] at hu
        simp only [List.cons_append, List.cons.injEq] at hu
        have := ih (n / 128) (by omega) (m / 128) (enc (n / 128) ++ t) ⟨t, rfl⟩ ⟨u, hu.2⟩
        omega
theorem getD_at (l : List Nat) (b : Nat) (t : List Nat) : (l ++ [b] ++ t).getD l.length 0 = b := by simp [List.getD]
theorem getD_in (l : List Nat) (t : List Nat) (i : Nat) (h : i < l.length) : (l ++ t).getD i 0 ∈ l := by
  simp [List.getD, List.getElem?_append_left h, List.getElem?_eq_getElem h]
/-- there is a number's form at the front of the bytes just if .. -/
theorem front_at {n i : Nat} {bs : List Nat} (h : enc n <+: bs) (hi : i < bs.length) (hc : ∀ j, j < i → 128 ≤ bs.getD j 0) (hl : bs.getD i 0 < 128) :
    ∃ l, Shape n l (bs.getD i 0) ∧ l.length = i := by
  obtain ⟨l, b, s⟩ := shape n
  obtain ⟨t, ht⟩ := h
  rw [s.eq] at ht
  have h1 : bs.getD l.length 0 = b := by rw [← ht]; exact getD_at l b t
  have hlen : l.length = i := by
    rcases Nat.lt_trichotomy l.length i with h | h | h
    · have := hc _ h; have := s.lt; omega
    · exact h
    · have hm := getD_in l ([b] ++ t) i h
      rw [← List.append_assoc, ht] at hm
      have := (s.mid _ hm).1
      omega
  subst hlen
  rw [h1]
  exact ⟨l, s, rfl⟩
theorem front_none {n i : Nat} {bs : List Nat} (hi : i ≤ bs.length) (hc : ∀ j, j < i → 128 ≤ bs.getD j 0) (hx : bs.length ≤ i ∨ 10 ≤ i) (hn : n < 18446744073709551616) : ¬ enc n <+: bs := by
  intro h
  have hle := enc_len hn
  obtain ⟨l, b, s⟩ := shape n
  have hlb := h.length_le
  obtain ⟨t, ht⟩ := h
  rw [s.eq] at ht hle hlb
  simp at hle hlb
  have h1 : bs.getD l.length 0 = b := by rw [← ht]; exact getD_at l b t
  have := hc l.length (by omega)
  have := s.lt
  omega
theorem front_not {n i : Nat} {bs : List Nat} (hi : i < bs.length) (hc : ∀ j, j < i → 128 ≤ bs.getD j 0) (hl : bs.getD i 0 < 128) (hn : n < 18446744073709551616) (hm : (i = 9 ∧ bs.getD i 0 ≠ 1) ∨ (0 < i ∧ bs.getD i 0 = 0)) : ¬ enc n <+: bs := by
  intro h
  obtain ⟨l, s, e⟩ := front_at h hi hc hl
  have hv := s.val
  have hb : i = 0 ∨ bs.getD i 0 ≠ 0 := by rcases s.last with h | h; exact Or.inr h; subst h; left; simpa using e.symm
  rcases hm with ⟨rfl, h1⟩ | ⟨h1, h2⟩
  · rw [e] at hv
    have h3 : (128 : Nat) ^ 9 = 9223372036854775808 := by decide
    rw [h3] at hv
    generalize bs.getD 9 0 = b at *
    have : 2 ≤ b := by rcases hb with h | h; omega; omega
    omega
  · omega
theorem mem_take_getD {bs : List Nat} {i x : Nat} (h : x ∈ bs.take i) : ∃ j, j < i ∧ j < bs.length ∧ bs.getD j 0 = x := by
  obtain ⟨j, hj, e⟩ := List.getElem_of_mem h
  simp at hj e
  have hj2 : j < bs.length := by omega
  exact ⟨j, by omega, hj2, by rw [← e]; simp [List.getD, hj2]⟩
theorem front_yes {i : Nat} {bs : List Nat} (hi : i < bs.length) (hby : ∀ x ∈ bs, x < 256) (hc : ∀ j, j < i → 128 ≤ bs.getD j 0) (hl : bs.getD i 0 < 128) (h0 : bs.getD i 0 ≠ 0 ∨ i = 0) :
    enc (dv (bs.take (i + 1))) = bs.take (i + 1) := by
  have h1 : (bs.take i).length = i := by rw [List.length_take]; omega
  have := enc_of (bs.take i) (bs.getD i 0) (fun x hx => by
    obtain ⟨j, hj, hj2, e⟩ := mem_take_getD hx
    exact ⟨by rw [← e]; exact hc j hj, hby x (List.mem_of_mem_take hx)⟩) hl (h0.imp id (fun h => by subst h; rfl))
  rw [dv_take bs i hi, Nat.mod_eq_of_lt hl]
  rw [h1] at this
  rw [this, List.take_add_one, List.getElem?_eq_getElem hi]
  simp [List.getD, hi]
/-- numbers with a sign -/
def zz (n : Int) : Nat := if n < 0 then (-2 * n - 1).toNat else (2 * n).toNat
theorem zz_lt {n : Int} (h1 : -9223372036854775808 ≤ n) (h2 : n ≤ 9223372036854775807) : zz n < 18446744073709551616 := by
  unfold zz; split <;> omega
/-- .. and back -/
def uz (m : Nat) : Int := if m % 2 = 1 then -((m / 2 : Nat) : Int) - 1 else ((m / 2 : Nat) : Int)
theorem uz_zz (n : Int) : uz (zz n) = n := by
  unfold zz uz; split <;> split <;> omega
theorem zz_uz (m : Nat) : zz (uz m) = m := by
  unfold uz; split <;> (unfold zz; split <;> omega)
theorem uz_bd {m : Nat} (h : m < 18446744073709551616) : -9223372036854775808 ≤ uz m ∧ uz m ≤ 9223372036854775807 := by
  unfold uz; split <;> omega
end Go.Proofs.YtkmdegmpffgplaaGreatDoor.pk
/- Slices of bytes: what a slice holds; rows that a call makes itself (make, copy, append). -/
namespace Go.Proofs.YtkmdegmpffgplaaGreatDoor.pk
open Go.RowKit
set_option linter.unusedVariables false

theorem info8 : (Tryz.prog.info? 5).map (fun i => (i.zero, i.size, i.bytes)) = some (some (.int .u8 0), 1, 1) := by kernel_rfl
theorem info8_parts : ∃ i, Tryz.prog.info? 5 = some i ∧ i.zero = some (.int .u8 0) ∧ i.size = 1 ∧ i.bytes = 1 := by
  obtain ⟨i, hi, hz⟩ := Option.map_eq_some_iff.1 info8
  simp only [Prod.mk.injEq] at hz
  exact ⟨i, hi, hz.1, hz.2.1, hz.2.2⟩
/-- byte number k -/
def bt (bs : List Nat) (k : Nat) : Int := ((bs.getD k 0 : Nat) : Int)
/-- bytes as cells -/
def cl (bs : List Nat) : List Value := bs.map fun (d : Nat) => Value.int .u8 (d : Int)
theorem cl_len (bs : List Nat) : (cl bs).length = bs.length := by simp [cl]
theorem cl_app (xs bs : List Nat) : cl xs ++ cl bs = cl (xs ++ bs) := by simp [cl]
theorem cl_get (bs : List Nat) (k : Nat) (h : k < bs.length) : (cl bs)[k]? = some (.int .u8 (bt bs k)) := by simp [cl, bt, h]
theorem cl_one {bs : List Nat} {u : Value} (h : u ∈ cl bs) : u.oneCell' = true := by
  obtain ⟨x, _, rfl⟩ := List.mem_map.1 h; rfl
/-- are these bytes? -/
def By (bs : List Nat) : Prop := ∀ x ∈ bs, x < 256
theorem By.app {xs bs : List Nat} (h : By xs) (k : By bs) : By (xs ++ bs) := fun x hx => by
  rcases List.mem_append.1 hx with hx | hx
  · exact h x hx
  · exact k x hx
theorem By.nil : By [] := fun x hx => by simp at hx
theorem By.one {d : Nat} (h : d < 256) : By [d] := fun x hx => by simp at hx; omega
theorem By.take {bs : List Nat} (h : By bs) (k : Nat) : By (bs.take k) := fun x hx => h x (List.mem_of_mem_take hx)
theorem By.drop {bs : List Nat} (h : By bs) (k : Nat) : By (bs.drop k) := fun x hx => h x (List.mem_of_mem_drop hx)
theorem bt_bd {bs : List Nat} (h : By bs) (k : Nat) : 0 ≤ bt bs k ∧ bt bs k ≤ 255 := by
  unfold bt
  by_cases hk : k < bs.length
  · have := h (bs.getD k 0) (by simp [hk])
    omega
  · simp [List.getD, List.getElem?_eq_none (Nat.le_of_not_lt hk)]
/-- where a slice's bytes lie -/
def Lies (w : World) (a : Option Addr) (bs : List Nat) : Prop := 0 < bs.length → ∃ b off, a = some ⟨b, off, none⟩ ∧ b < w.heap.size ∧ ∀ k, k < bs.length → w.cell? ⟨b, off + k, none⟩ = some (.int .u8 (bt bs k))
/-- The slice v holds the bytes bs. -/
structure Bs (w : World) (v : Value) (bs : List Nat) : Prop where
  byte : By bs
  form : ∃ a c, v = .slice a bs.length c ∧ bs.length ≤ c ∧ c ≤ 9223372036854775807 ∧ (a = none → c = 0) ∧ Lies w a bs
theorem Lies.step {w w' : World} {a : Option Addr} {bs : List Nat} (h : Lies w a bs) (k : Below w.heap.size w w') : Lies w' a bs := fun h0 => by
  obtain ⟨b, off, e, hb, hx⟩ := h h0
  exact ⟨b, off, e, Nat.lt_of_lt_of_le hb k.size, fun j hj => (k.cell (p := ⟨b, off + j, none⟩) hb).trans (hx j hj)⟩
theorem Bs.step {w w' : World} {v : Value} {bs : List Nat} (h : Bs w v bs) (k : Below w.heap.size w w') : Bs w' v bs := by
  obtain ⟨hb, a, c, e, h1, h2, h3, h4⟩ := h
  exact ⟨hb, a, c, e, h1, h2, h3, h4.step k⟩
theorem bs_nil (w : World) : Bs w (.slice none 0 0) [] := ⟨By.nil, none, 0, rfl, by simp, by omega, fun _ => rfl, fun h => by simp at h⟩
theorem bs_empty (w : World) (a : Addr) (c : Nat) (h : c ≤ 9223372036854775807) : Bs w (.slice (some a) 0 c) [] := ⟨By.nil, some a, c, rfl, by simp, h, fun h => (by cases h), fun h => by simp at h⟩
theorem bt_take (bs : List Nat) (n k : Nat) (h : k < n) : bt (bs.take n) k = bt bs k := by unfold bt; simp [h]
theorem bt_drop (bs : List Nat) (n k : Nat) : bt (bs.drop n) k = bt bs (n + k) := by unfold bt; simp [List.getD]
theorem Lies.take {w : World} {a : Option Addr} {bs : List Nat} (h : Lies w a bs) (k : Nat) (hk : k ≤ bs.length) : Lies w a (bs.take k) := fun h0 => by
  have hl : (bs.take k).length = k := by rw [List.length_take]; omega
  obtain ⟨b, off, e, hb, hx⟩ := h (by omega)
  exact ⟨b, off, e, hb, fun j hj => by rw [bt_take bs k j (by omega)]; exact hx j (by omega)⟩
theorem Bs.cut {w : World} {a : Option Addr} {n c : Nat} {bs : List Nat} (h : Bs w (.slice a n c) bs) (k : Nat) (hk : k ≤ bs.length) : Bs w (.slice a k c) (bs.take k) := by
  obtain ⟨hb, a', c', e, h1, h2, h3, h4⟩ := h
  cases e
  have hl : (bs.take k).length = k := by rw [List.length_take]; omega
  exact ⟨hb.take k, a, c, by rw [hl], by omega, h2, h3, h4.take k hk⟩
theorem Bs.len {w : World} {a : Option Addr} {n c : Nat} {bs : List Nat} (h : Bs w (.slice a n c) bs) : n = bs.length ∧ n ≤ c ∧ c ≤ 9223372036854775807 := by
  obtain ⟨hb, a', c', e, h1, h2, h3, h4⟩ := h
  cases e
  exact ⟨rfl, h1, h2⟩
/-- The row v of the call's own holds the bytes cs. -/
structure OwnB (w : World) (B : Nat) (v : Value) (cs : List Nat) : Prop where
  byte : By cs
  own : w.ownsRow B 5 1 v cs.length (cl cs)
theorem own_nil (w : World) (B : Nat) : OwnB w B (.slice none 0 0) [] := ⟨By.nil, World.ownsRow_nil _ _ _ _⟩
theorem OwnB.bs {w : World} {B : Nat} {v : Value} {cs : List Nat} (h : OwnB w B v cs) : Bs w v cs := by
  obtain ⟨hl, h2⟩ := h.own
  refine ⟨h.byte, ?_⟩
  rcases h2 with ⟨rfl, h0⟩ | ⟨g, cap, cur, rfl, hb, hg, hcap, hcm, hcs, htk⟩
  · exact ⟨none, 0, by rw [h0], by omega, by omega, fun _ => rfl, fun h => by omega⟩
  · refine ⟨some ⟨g, 0, none⟩, cap, rfl, hcap, by unfold maxLen at hcm; omega, fun h => (by cases h), fun h0 => ⟨g, 0, rfl, ?_, fun k hk => ?_⟩⟩
    · rcases Nat.lt_or_ge g w.heap.size with hlt | hge
      · exact hlt
      · rw [Array.getElem?_eq_none hge] at hg; cases hg
    · have ho : w.ownsRow B 5 1 (.slice (some ⟨g, 0, none⟩) cs.length cap) cs.length (cl cs) := ⟨hl, Or.inr ⟨g, cap, cur, rfl, hb, hg, hcap, hcm, hcs, htk⟩⟩
      rw [Nat.zero_add, ho.cellAt k (by omega), cl_get cs k hk]
theorem OwnB.block {w : World} {B : Nat} {v : Value} {cs : List Nat} (h : OwnB w B v cs) : ∀ k, v.ownBlock = some k → B ≤ k := by
  obtain ⟨hl, h2⟩ := h.own
  rcases h2 with ⟨rfl, h0⟩ | ⟨g, cap, cur, rfl, hb, _⟩
  · intro k hk; simp [Value.ownBlock] at hk
  · intro k hk; simp [Value.ownBlock] at hk; omega
theorem OwnB.alloc {w : World} {B : Nat} {v : Value} {cs : List Nat} (h : OwnB w B v cs) (o : Obj) : OwnB (w.alloc o) B v cs := ⟨h.byte, h.own.alloc o⟩
theorem OwnB.lower {w : World} {B B' : Nat} {v : Value} {cs : List Nat} (h : OwnB w B v cs) (hB : B' ≤ B) : OwnB w B' v cs := by
  refine ⟨h.byte, h.own.1, ?_⟩
  rcases h.own.2 with h2 | ⟨g, cap, cur, e, hb, r⟩
  · exact Or.inl h2
  · exact Or.inr ⟨g, cap, cur, e, by omega, r⟩
theorem own_made (w : World) : OwnB (w.alloc (.cells #[] 5)) w.heap.size (.slice (some ⟨w.heap.size, 0, none⟩) 0 0) [] :=
  ⟨By.nil, World.ownsRow_made w #[] 0 (Nat.le_refl _) (by unfold maxLen; omega) rfl⟩
/-- append(s, x...) -/
theorem appB {w : World} {ops : Array Oper} {rest : List Oper} {o : Oper} {a : Act} {Q : Exit → Act → World → Prop} (hgd : o.guard = none) (s x : Operand)
    (ho : o.op = .call { callee := .builtin .append, args := #[s, x], argTypes := #[22, 22] })
    (B : Nat) (cs bs : List Nat) (v u : Value) (hs : a.eval s = v) (hx : a.eval x = u)
    (hown : OwnB w B v cs) (hu : Bs w u bs) (hB : B ≤ w.heap.size) (hl : cs.length + bs.length ≤ 140737488355328)
    (h : ∀ v' w', OwnB w' B v' (cs ++ bs) → Below B w w' → wpList Tryz.prog ops Q rest (a.put o.dst v') w') :
    wpList Tryz.prog ops Q (o :: rest) a w := by
  obtain ⟨i0, hi, hz0, hz1, hz2⟩ := info8_parts
  obtain ⟨hby, ad, c, rfl, h1, h2, h3, h4⟩ := hu
  have hfin : ∀ v' w', w'.ownsRow B 5 1 v' (cs.length + bs.length) (cl cs ++ cl bs) → w.grownBy w' v.ownBlock → wpList Tryz.prog ops Q rest (a.put o.dst v') w' := fun v' w' g1 g2 =>
    h v' w' ⟨hown.byte.app hby, by rw [List.length_append, ← cl_app]; exact g1⟩ ((Below.refl _ _).grown g2 hB hown.block)
  cases ad with
  | none =>
    obtain rfl := h3 rfl
    obtain rfl : bs = [] := List.eq_nil_of_length_eq_zero (by omega)
    refine wpList_append_own_none hgd s x 22 ho B 5 i0 1 Tryz.underlying22 hi v cs.length (cl cs) hs hown.own hx ?_
    exact h v w (by simpa using hown) (Below.refl _ _)
  | some ad =>
    refine wpList_append_own _ hgd s x 22 ho B 5 i0 (.int .u8 0) 1 1 Tryz.underlying22 hi hz0 hz1 hz2 rfl (by decide) v cs.length (cl cs) hs hown.own ad bs.length c (cl bs) hx (by simp [cl_len]) ?_ (fun u hu => cl_one hu) (by unfold maxLen; omega) (by omega) hB (fun v' w' g1 g2 _ => hfin v' w' g1 g2)
    intro j u hj
    have hj' : j < bs.length := by
      have := (List.getElem?_eq_some_iff.1 hj).1
      rwa [cl_len] at this
    obtain ⟨b, off, e, hb, hcell⟩ := h4 (by omega)
    cases e
    rw [Go.WideShapes.add_plain, hcell j hj', ← cl_get bs j hj', hj]
/-- append(s, d) -/
theorem appB1 {w : World} {ops : Array Oper} {rest : List Oper} {o : Oper} {a : Act} {Q : Exit → Act → World → Prop} {T : TypeId} (hgd : o.guard = none) (s x : Operand)
    (ho : o.op = .call { callee := .builtin .append, args := #[s, x], argTypes := #[22, 22] })
    (B : Nat) (cs : List Nat) (v : Value) (d : Int) (D : Nat) (hs : a.eval s = v) (hx : a.eval x = .slice (some ⟨w.heap.size, 0, none⟩) 1 1) (hd : d = D) (hD : D < 256)
    (hown : OwnB w B v cs) (hB : B ≤ w.heap.size) (hl : cs.length + 1 ≤ 140737488355328)
    (h : ∀ v' w', OwnB w' B v' (cs ++ [D]) → Below B w w' → wpList Tryz.prog ops Q rest (a.put o.dst v') w') :
    wpList Tryz.prog ops Q (o :: rest) a (w.alloc (.cells #[.int .u8 d] T)) := by
  subst hd
  refine appB hgd s x ho B cs [D] v _ hs hx (hown.alloc _) ?_ (by simp; omega) (by simpa using hl) (fun v' w' g1 g2 => h v' w' g1 (((Below.refl _ _).alloc hB _).trans g2))
  refine ⟨By.one hD, some ⟨w.heap.size, 0, none⟩, 1, rfl, by simp, by omega, fun h => (by cases h), fun _ => ⟨w.heap.size, 0, rfl, by simp, fun k hk => ?_⟩⟩
  have : k = 0 := by simp at hk; omega
  subst this
  simp [bt]
/-- out := make([]byte, n, n + 10) -/
theorem mkB {w : World} {ops : Array Oper} {rest : List Oper} {o : Oper} {a : Act} {Q : Exit → Act → World → Prop} (hgd : o.guard = none) (l c : Operand) (ho : o.op = Op.makeSlice 22 l c)
    (n m : Nat) (L C : Int) (hl : a.eval l = .int .i64 L) (hc : a.eval c = .int .i64 C) (hL : L = n) (hC : C = m) (hnm : n ≤ m) (hn : m ≤ 140737488355328)
    (h : ∀ w', Hid (w'.heap[w.heap.size]? = some (.cells (cl (List.replicate m 0)).toArray 5 (0, 0))) → Below w.heap.size w w' → w'.heap.size = w.heap.size + 1 → wpList Tryz.prog ops Q rest (a.put o.dst (.slice (some ⟨w.heap.size, 0, none⟩) n m)) w') :
    wpList Tryz.prog ops Q (o :: rest) a w := by
  obtain ⟨i0, hi, hz0, hz1, hz2⟩ := info8_parts
  subst hL
  subst hC
  refine wpList_plain hgd fun K hK' => ?_
  have hrun := run_make (P := Tryz.prog) w 22 5 i0 (.int .u8 0) Tryz.underlying22 hi hz0 .i64 .i64 (n : Int) (m : Int) (by omega) (by omega) (by rw [hz2]; omega) (by omega)
  unfold Oper.wp
  simp [execOp, ho, hl, hc, hrun, Result.andThen]
  refine hK' _ _ (h _ ?_ ((Below.refl _ _).alloc (Nat.le_refl _) _) (by simp))
  have e : (madeCells (Value.int .u8 0).cells (m * i0.size)) = (cl (List.replicate m 0)).toArray := by
    rw [hz1, Nat.mul_one]
    apply Array.ext'
    show (madeCells #[Value.int .u8 0] m).toList = _
    rw [toList_madeCells_one]
    simp [cl]
  rw [e]
  exact (heap_alloc_new w _ : _)
/-- the row is owned once the front is laid -/
theorem own_row {w : World} {B g n m : Nat} {cs : List Nat} (hg : w.heap[g]? = some (.cells (splice (cl (List.replicate m 0)) 0 (cl cs)).toArray 5 (0, 0))) (hB : B ≤ g) (hn : cs.length = n) (hnm : n ≤ m) (hm : m ≤ 140737488355328) (hby : By cs) :
    OwnB w B (.slice (some ⟨g, 0, none⟩) n m) cs := by
  subst hn
  refine ⟨hby, by rw [cl_len, Nat.mul_one], Or.inr ⟨g, m, _, rfl, hB, hg, hnm, by unfold maxLen; omega, ?_, ?_⟩⟩
  · rw [List.size_toArray, length_splice _ _ _ (by simp [cl_len]; omega), cl_len, List.length_replicate, Nat.mul_one]
  · rw [Nat.mul_one]
    simp [splice, cl_len]
end Go.Proofs.YtkmdegmpffgplaaGreatDoor.pk
/- Slices of bytes: the contracts of Twin and SameBytes, of Clone and mayEnd. -/
namespace Go.Proofs.YtkmdegmpffgplaaGreatDoor.pk
open Go.RowKit
set_option linter.unusedVariables false

theorem bel_drewN {B : Nat} {a w : World} (h : Below B a w) (n : Nat) : Below B a (w.drewN n) := ⟨h.os, h.tape, h.output, h.size, h.block⟩
theorem twin_ok (v : Value) (bs : List Nat) (w : World) (h : Bs w v bs) (hl : bs.length ≤ 140737488355328) :
    Calls Tryz.prog 10 #[v] w fun e w' => (∃ u, e = .returned u ∧ OwnB w' w.heap.size u bs) ∧ Below w.heap.size w w' := by
  have hb := (Below.refl w.heap.size w).alloc (Nat.le_refl _) (.cells #[] 5)
  have H := (show Hid _ from h.step hb)
  have HO := (show Hid _ from own_made w)
  have HB := (show Hid _ from hb)
  clear h hb
  go_enter Tryz.func10, Tryz.ntmps10
  go_wp2_with (at_builtin; refine appB rfl _ _ rfl w.heap.size [] bs _ _ (by rfl) (by rfl) HO.out H.out (by simp) (by simpa using hl) ?_; intro v' w1 ho hb1)
  have HO1 := (show Hid _ from ho)
  have HB1 := (show Hid _ from hb1)
  clear ho hb1
  go_wp2_with fail
  go_ret
  exact ⟨⟨_, rfl, by simpa using HO1.out⟩, HB.out.trans HB1.out⟩
theorem take_same {xs ys : List Nat} {k : Nat} (h1 : k < xs.length) (h2 : k < ys.length) (h : xs.take k = ys.take k) (e : xs.getD k 0 = ys.getD k 0) : xs.take (k + 1) = ys.take (k + 1) := by
  rw [List.take_add_one, List.take_add_one, h, List.getElem?_eq_getElem h1, List.getElem?_eq_getElem h2]
  simp [List.getD, h1, h2] at e
  rw [e]
set_option maxHeartbeats 1000000 in
theorem same_ok (v u : Value) (xs ys : List Nat) (w : World) (h : Bs w v xs) (h2 : Bs w u ys) :
    Calls Tryz.prog 23 #[v, u] w fun e w' => e = .returned (.bool (decide (xs = ys))) ∧ Below w.heap.size w w' := by
  obtain ⟨hby, a, c, rfl, hlc, hc9, hno, hx⟩ := h
  obtain ⟨hby2, a2, c2, rfl, hlc2, hc92, hno2, hx2⟩ := h2
  have HX := (show Hid _ from hx)
  have HX2 := (show Hid _ from hx2)
  have HY := (show Hid _ from hby)
  have HY2 := (show Hid _ from hby2)
  clear hx hx2 hby hby2 hno hno2
  by_cases hl : xs.length = ys.length
  · have HL : Hid (xs.length = ys.length) := hl
    rw [← hl] at hlc2 ⊢
    obtain ⟨n, hn⟩ : ∃ n, n = xs.length := ⟨_, rfl⟩
    have HN : Hid (n = xs.length) := hn
    rw [← hn] at hlc hlc2 ⊢
    clear hn hl
    go_enter Tryz.func23, Tryz.ntmps23
    go_wp2_with fail
    go_loopw [13] (fun i wr => ∃ k : Nat, k ≤ n ∧ i = .int .i64 k ∧ Below w.heap.size w wr ∧ Hid (xs.take k = ys.take k)) (fun i _ => n - (intOf i).toNat)
    case atStart => exact ⟨0, by omega, rfl, Below.refl _ _, by show xs.take 0 = ys.take 0; simp⟩
    case round =>
      obtain ⟨k, hk, rfl, hbel, hsame⟩ := hrel
      by_cases h0 : k = n
      · subst h0
        go_wp2_with fail
        go_ret
        have : xs = ys := by
          have h1 := hsame.out
          rw [List.take_of_length_le (by have := HN.out; omega), List.take_of_length_le (by have := HN.out; have := HL.out; omega)] at h1
          exact h1
        exact ⟨by simp [this], hbel⟩
      · have hkn : k < n := by omega
        have k1 : k < xs.length := by have := HN.out; omega
        have k2 : k < ys.length := by have := HN.out; have := HL.out; omega
        obtain ⟨b, off, rfl, hb, hc⟩ := HX.out (by omega)
        obtain ⟨b2, off2, rfl, hb2, hc2⟩ := HX2.out (by omega)
        have hcell := (hbel.cell (p := ⟨b, off + k, none⟩) hb).trans (hc k k1)
        have hcell2 := (hbel.cell (p := ⟨b2, off2 + k, none⟩) hb2).trans (hc2 k k2)
        have K1 := (show Hid _ from k1)
        have K2 := (show Hid _ from k2)
        clear hc HX hc2 HX2 k1 k2
        have b1' := bt_bd HY.out k
        have b2' := bt_bd HY2.out k
        by_cases heq : bt xs k = bt ys k
        · have hs' : Hid (xs.take (k + 1) = ys.take (k + 1)) := take_same K1.out K2.out hsame.out (by unfold bt at heq; omega)
          have t1 : (bt xs k == bt ys k) = true := by simp [heq]
          have HQ : Hid (bt xs k = bt ys k) := heq
          clear heq
          go_wp2_with fail
          go_quiet (fail)
          have hbel := bel_drewN hbel nq
          generalize wr.drewN nq = wq at *
          clear hcell hcell2
          go_wp2_with fail
          exact ⟨⟨k + 1, by omega, by go_num, hbel, hs'⟩, by simp [intOf]; omega⟩
        · have t1 : (bt xs k == bt ys k) = false := by simp [heq]
          have HQ : Hid (xs ≠ ys) := fun e => heq (by rw [e])
          clear heq
          go_wp2_with fail
          go_quiet (fail)
          have hbel := bel_drewN hbel nq
          generalize wr.drewN nq = wq at *
          clear hcell hcell2
          go_wp2_with fail
          go_ret
          exact ⟨by simp [HQ.out], hbel⟩
  · have HQ : Hid (xs ≠ ys) := fun e => hl (by rw [e])
    have hl' : ((xs.length : Int) == (ys.length : Int)) = false := by rw [beq_eq_false_iff_ne]; omega
    generalize xs.length = n at *
    generalize ys.length = m at *
    go_enter Tryz.func23, Tryz.ntmps23
    go_wp2_with fail
    go_ret
    exact ⟨by simp [HQ.out], Below.refl _ _⟩
/-- may b be the last byte, at this place? -/
def may (b i : Int) : Prop := if i = 9 then b = 1 else (b ≠ 0 ∨ i = 0)
instance (b i : Int) : Decidable (may b i) := by unfold may; exact inferInstance
end Go.Proofs.YtkmdegmpffgplaaGreatDoor.pk
