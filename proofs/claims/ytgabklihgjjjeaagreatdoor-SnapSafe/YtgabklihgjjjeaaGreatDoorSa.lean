/- Crc: plain arithmetic of the sum. -/
import Derived.Test.YtgabklihgjjjeaaGreatDoorAb
import Derived.Laws.BitsAllLaws
namespace Go.Proofs.YtgabklihgjjjeaaGreatDoor.pk
set_option linter.unusedVariables false
set_option linter.unusedSimpArgs false

/-- a step of the sum: one bit -/
def st (c : Nat) : Nat := if c % 2 = 1 then (c / 2) ^^^ 3988292384 else c / 2
def sts : Nat → Nat → Nat
  | 0, c => c
  | k + 1, c => st (sts k c)
/-- one byte -/
def crcB (c b : Nat) : Nat := sts 8 (c ^^^ b)
def crcF (c : Nat) (bs : List Nat) : Nat := bs.foldl crcB c
def crc (bs : List Nat) : Nat := crcF 4294967295 bs ^^^ 4294967295
theorem xor_cancel (a b : Nat) : a ^^^ b ^^^ b = a := by rw [Nat.xor_assoc, Nat.xor_self, Nat.xor_zero]
theorem xor_lc (a b c : Nat) : a ^^^ (b ^^^ c) = b ^^^ (a ^^^ c) := by rw [← Nat.xor_assoc, Nat.xor_comm a b, Nat.xor_assoc]
theorem st_xor (a b : Nat) : st (a ^^^ b) = st a ^^^ st b := by
  unfold st
  rw [Nat.xor_div_two]
  by_cases ha : a % 2 = 1 <;> by_cases hb : b % 2 = 1 <;> simp only [Nat.xor_mod_two_eq_one, ha, hb, iff_true, iff_false, not_true, not_false_iff, if_true, if_false, false_iff, true_iff]
  · rw [Nat.xor_assoc (a / 2), Nat.xor_comm 3988292384, xor_cancel]
  · rw [Nat.xor_assoc, Nat.xor_assoc, Nat.xor_comm (b / 2)]
  · rw [Nat.xor_assoc]
theorem st_lt {c : Nat} (h : c < 4294967296) : st c < 4294967296 := by
  unfold st
  split
  · exact Nat.xor_lt_two_pow (n := 32) (by omega) (by omega)
  · omega
theorem st_zero {c : Nat} (h : c < 4294967296) (e : st c = 0) : c = 0 := by
  unfold st at e
  split at e
  · exfalso
    have h1 : c / 2 = 3988292384 := by
      have := congrArg (· ^^^ 3988292384) e
      simp only [xor_cancel, Nat.zero_xor] at this
      exact this
    omega
  · omega
theorem st_nul : st 0 = 0 := by decide
theorem xor_zero_of {a b : Nat} (h : a ^^^ b = 0) : a = b := by
  have := congrArg (· ^^^ b) h
  simpa only [xor_cancel, Nat.zero_xor] using this
theorem sts_xor : ∀ (k a b : Nat), sts k (a ^^^ b) = sts k a ^^^ sts k b
  | 0, _, _ => rfl
  | k + 1, a, b => by simp only [sts, sts_xor k, st_xor]
theorem sts_lt : ∀ (k : Nat) {c : Nat}, c < 4294967296 → sts k c < 4294967296
  | 0, _, h => h
  | k + 1, _, h => st_lt (sts_lt k h)
theorem sts_zero : ∀ (k : Nat) {c : Nat}, c < 4294967296 → sts k c = 0 → c = 0
  | 0, _, _, e => e
  | k + 1, _, h, e => sts_zero k h (st_zero (sts_lt k h) e)
theorem x32 {a b : Nat} (ha : a < 4294967296) (hb : b < 4294967296) : a ^^^ b < 4294967296 := Nat.xor_lt_two_pow (n := 32) ha hb
theorem crcB_lt {c b : Nat} (h : c < 4294967296) (hb : b < 256) : crcB c b < 4294967296 := sts_lt 8 (x32 h (by omega))
theorem crcF_lt : ∀ (bs : List Nat) {c : Nat}, c < 4294967296 → (∀ x ∈ bs, x < 256) → crcF c bs < 4294967296
  | [], _, h, _ => h
  | b :: t, c, h, hb => crcF_lt t (c := crcB c b) (crcB_lt h (hb b (by simp))) fun x hx => hb x (by simp [hx])
theorem crcF_snoc (c : Nat) (bs : List Nat) (b : Nat) : crcF c (bs ++ [b]) = crcB (crcF c bs) b := by simp [crcF]
theorem crcF_take (c : Nat) (bs : List Nat) (k : Nat) (h : k < bs.length) : crcF c (bs.take (k + 1)) = crcB (crcF c (bs.take k)) (bs.getD k 0) := by
  rw [List.take_add_one, List.getElem?_eq_getElem h]
  simp only [Option.toList]
  rw [crcF_snoc]
  simp [List.getD, h]
theorem crcB_xor3 (a b c x y z : Nat) : crcB (a ^^^ b ^^^ c) (x ^^^ y ^^^ z) = crcB a x ^^^ crcB b y ^^^ crcB c z := by
  unfold crcB
  rw [← sts_xor, ← sts_xor]
  congr 1
  simp only [Nat.xor_assoc, xor_lc, Nat.xor_comm]
theorem crcF_xor3 : ∀ (xs ys zs : List Nat) (n a b c : Nat), xs.length = n → ys.length = n → zs.length = n → ∀ us : List Nat, us.length = n → (∀ i, i < n → us.getD i 0 = xs.getD i 0 ^^^ ys.getD i 0 ^^^ zs.getD i 0) →
    crcF (a ^^^ b ^^^ c) us = crcF a xs ^^^ crcF b ys ^^^ crcF c zs
  | [], ys, zs, n, a, b, c, hx, hy, hz, us, hu, h => by
    simp at hx
    subst hx
    obtain rfl := List.eq_nil_of_length_eq_zero hy
    obtain rfl := List.eq_nil_of_length_eq_zero hz
    obtain rfl := List.eq_nil_of_length_eq_zero hu
    rfl
  | x :: xs, ys, zs, n, a, b, c, hx, hy, hz, us, hu, h => by
    obtain ⟨m, rfl⟩ : ∃ m, n = m + 1 := ⟨xs.length, by simp at hx; omega⟩
    match ys, zs, us, hy, hz, hu, h with
    | y :: ys, z :: zs, u :: us, hy, hz, hu, h =>
      have e : u = x ^^^ y ^^^ z := by simpa using h 0 (by omega)
      subst e
      show crcF (crcB _ _) us = _
      rw [crcB_xor3]
      exact crcF_xor3 xs ys zs m _ _ _ (by simpa using hx) (by simpa using hy) (by simpa using hz) us (by simpa using hu) fun i hi => by simpa using h (i + 1) (by omega)
theorem crc_xor3 (xs ys zs us : List Nat) (n : Nat) (hx : xs.length = n) (hy : ys.length = n) (hz : zs.length = n) (hu : us.length = n) (h : ∀ i, i < n → us.getD i 0 = xs.getD i 0 ^^^ ys.getD i 0 ^^^ zs.getD i 0) :
    crc us = crc xs ^^^ crc ys ^^^ crc zs := by
  have h1 := crcF_xor3 xs ys zs n 4294967295 4294967295 4294967295 hx hy hz us hu h
  rw [Nat.xor_self, Nat.zero_xor] at h1
  unfold crc
  rw [h1]
  generalize crcF 4294967295 xs = p
  generalize crcF 4294967295 ys = q
  generalize crcF 4294967295 zs = r
  generalize (4294967295 : Nat) = o
  rw [Nat.xor_comm q o, ← Nat.xor_assoc (p ^^^ o), xor_cancel, ← Nat.xor_assoc]
theorem crcB_inj {c d b : Nat} (hc : c < 4294967296) (hd : d < 4294967296) (hb : b < 256) (e : crcB c b = crcB d b) : c = d := by
  have h1 : sts 8 ((c ^^^ b) ^^^ (d ^^^ b)) = 0 := by rw [sts_xor]; unfold crcB at e; rw [e, Nat.xor_self]
  have h2 := sts_zero 8 (x32 (x32 hc (by omega)) (x32 hd (by omega))) h1
  have h3 := xor_zero_of h2
  have := congrArg (· ^^^ b) h3
  simpa only [xor_cancel] using this
theorem crcB_inj2 {c b b' : Nat} (hc : c < 4294967296) (hb : b < 256) (hb' : b' < 256) (e : crcB c b = crcB c b') : b = b' := by
  have h1 : sts 8 ((c ^^^ b) ^^^ (c ^^^ b')) = 0 := by rw [sts_xor]; unfold crcB at e; rw [e, Nat.xor_self]
  have h2 := sts_zero 8 (x32 (x32 hc (by omega)) (x32 hc (by omega))) h1
  have h3 := xor_zero_of h2
  rw [Nat.xor_comm c b, Nat.xor_comm c b'] at h3
  have := congrArg (· ^^^ c) h3
  simpa only [xor_cancel] using this
theorem crcF_inj : ∀ (bs : List Nat) {c d : Nat}, c < 4294967296 → d < 4294967296 → (∀ x ∈ bs, x < 256) → crcF c bs = crcF d bs → c = d
  | [], _, _, _, _, _, e => e
  | b :: t, c, d, hc, hd, hb, e => crcB_inj hc hd (hb b (by simp)) (crcF_inj t (crcB_lt hc (hb b (by simp))) (crcB_lt hd (hb b (by simp))) (fun x hx => hb x (by simp [hx])) e)
theorem crcF_set : ∀ (bs : List Nat) (i d c : Nat), c < 4294967296 → (∀ x ∈ bs, x < 256) → d < 256 → i < bs.length → d ≠ bs.getD i 0 → crcF c (bs.set i d) ≠ crcF c bs
  | b :: t, 0, d, c, hc, hb, hd, hi, hne => fun e => hne (by
      have hb0 := hb b (by simp)
      have := crcF_inj t (crcB_lt hc hd) (crcB_lt hc hb0) (fun x hx => hb x (by simp [hx])) (show crcF (crcB c d) t = crcF (crcB c b) t from e)
      simpa using crcB_inj2 hc hd hb0 this)
  | b :: t, i + 1, d, c, hc, hb, hd, hi, hne => fun e => crcF_set t i d (crcB c b) (crcB_lt hc (hb b (by simp))) (fun x hx => hb x (by simp [hx])) hd (by simpa using hi) (by simpa using hne) e
theorem crc_set (bs : List Nat) (i d : Nat) (hb : ∀ x ∈ bs, x < 256) (hd : d < 256) (hi : i < bs.length) (hne : d ≠ bs.getD i 0) : crc (bs.set i d) ≠ crc bs := fun e => by
  have := congrArg (· ^^^ 4294967295) e
  simp only [crc, xor_cancel] at this
  exact crcF_set bs i d 4294967295 (by omega) hb hd hi hne this
theorem crc_lt (bs : List Nat) (hb : ∀ x ∈ bs, x < 256) : crc bs < 4294967296 := x32 (crcF_lt bs (by omega) hb) (by omega)
theorem turn_ne (x b : Nat) (hx : x < 256) (hb : b < 8) : x ^^^ 2 ^ b ≠ x ∧ x ^^^ 2 ^ b < 256 := by
  have hp : 0 < 2 ^ b := Nat.pow_pos (by omega)
  have hl : 2 ^ b < 2 ^ 8 := Nat.pow_lt_pow_right (by omega) hb
  refine ⟨fun e => ?_, Nat.xor_lt_two_pow (n := 8) hx hl⟩
  have h1 : 2 ^ b ^^^ x ^^^ x = 2 ^ b := xor_cancel _ _
  rw [Nat.xor_comm (2 ^ b) x, e, Nat.xor_self] at h1
  omega
theorem crc_nine : crc [49, 50, 51, 52, 53, 54, 55, 56, 57] = 3421780262 := by decide +kernel
theorem crc_nil : crc [] = 0 := by decide
end Go.Proofs.YtgabklihgjjjeaaGreatDoor.pk
