/- sum: the document's Sha: its steps in plain numbers. -/
import Derived.Test.YtbgmepepcdpkfaaDoorRe
namespace Go.Proofs.YtbgmepepcdpkfaaDoor
open Go.RowKit
set_option linter.unusedVariables false

/-- a word, byte by byte -/
def wdS (bs : List Nat) (k : Nat) : Nat → Nat
  | 0 => 0
  | j + 1 => wdS bs k j * 256 + bs.getD (4 * k + j) 0
theorem wdS_4 (bs : List Nat) (k : Nat) : wdS bs k 4 = wdAt bs k := by
  simp only [wdS, wdAt, wd4, Nat.add_zero]
  omega
theorem wdS_lt {bs : List Nat} (h : By bs) (k : Nat) : ∀ j, wdS bs k j < 256 ^ j
  | 0 => by simp [wdS]
  | j + 1 => by
    have h1 := wdS_lt h k j
    have h2 := by_getD h (4 * k + j)
    show wdS bs k j * 256 + bs.getD (4 * k + j) 0 < 256 ^ (j + 1)
    rw [Nat.pow_succ]
    omega
/-- the tail, from the back -/
def tl8 (B : Nat) : Nat → List Nat
  | 0 => List.replicate 8 0
  | k + 1 => (tl8 B k).set (7 - k) (B / 256 ^ k % 256)
theorem tl8_len (B : Nat) : ∀ k, (tl8 B k).length = 8
  | 0 => by simp [tl8]
  | k + 1 => by simp [tl8, tl8_len B k]
theorem tl8_by (B : Nat) : ∀ k, By (tl8 B k)
  | 0 => fun x hx => by have := List.eq_of_mem_replicate hx; omega
  | k + 1 => by_set (tl8_by B k) (Nat.mod_lt _ (by omega))
theorem tl8_8 (B : Nat) : tl8 B 8 = be8 B := rfl
/-- the answer's bytes, each word from the back -/
def orr (ss : List Nat) : Nat → List Nat
  | 0 => List.replicate 32 0
  | n + 1 => (orr ss n).set (4 * (n / 4) + (3 - n % 4)) (ss.getD (n / 4) 0 / 256 ^ (n % 4) % 256)
theorem orr_len (ss : List Nat) : ∀ k, (orr ss k).length = 32
  | 0 => by simp [orr]
  | k + 1 => by simp [orr, orr_len ss k]
theorem orr_by (ss : List Nat) : ∀ k, By (orr ss k)
  | 0 => fun x hx => by have := List.eq_of_mem_replicate hx; omega
  | k + 1 => by_set (orr_by ss k) (Nat.mod_lt _ (by omega))
theorem orr_32 (ss : List Nat) : orr ss 32 = ob ss 32 := by kernel_rfl
theorem div256 (B k : Nat) : B / 256 ^ k / 256 = B / 256 ^ (k + 1) := by rw [Nat.div_div_eq_div_mul, Nat.pow_succ]
/-- how many blocks -/
theorem blocks (bs : List Nat) : (marked bs (nz bs) ++ be8 (8 * bs.length)).length = 64 * (bs.length / 64 + tailZ bs / 64) := by
  have h := congrArg List.length (padded bs)
  rw [h, List.length_append, List.length_take, Nat.min_eq_left (by omega)]
  unfold tailOf
  have hr := rest_len bs
  rw [en_len (by rw [hr]; rcases tailZ_eq bs with ⟨h1, h2⟩ | ⟨h1, h2⟩ <;> omega)]
  rcases tailZ_eq bs with ⟨h1, h2⟩ | ⟨h1, h2⟩ <;> omega
theorem by_marked {bs : List Nat} (h : By bs) (q : Nat) : By (marked bs q) := by
  unfold marked
  refine h.app (fun x hx => ?_)
  rcases List.mem_cons.1 hx with rfl | hx
  · omega
  · have := List.eq_of_mem_replicate hx
    omega
/-- words of 64 bits that are small -/
theorem xor32 {a b : Nat} (ha : a < 4294967296) (hb : b < 4294967296) : a ^^^ b < 4294967296 := Nat.xor_lt_two_pow (n := 32) ha hb
theorem ch32 {e f g : Nat} (he : e < 4294967296) (hg : g < 4294967296) : Ch e f g < 4294967296 := xor32 (and32 he) (Nat.lt_of_le_of_lt Nat.and_le_right hg)
theorem mj32 {a b c : Nat} (ha : a < 4294967296) (hb : b < 4294967296) : Mj a b c < 4294967296 := xor32 (xor32 (and32 ha) (and32 ha)) (and32 hb)
end Go.Proofs.YtbgmepepcdpkfaaDoor
