/- sum: the document's padded text is the program's blocks and its end. -/
import Derived.Test.YtbgmepepcdpkfaaDoorSq
namespace Go.Proofs.YtbgmepepcdpkfaaDoor
open Go.RowKit
set_option linter.unusedVariables false

/-- eight bytes, the highest first -/
def be8 (B : Nat) : List Nat := [B / 2 ^ 56 % 256, B / 2 ^ 48 % 256, B / 2 ^ 40 % 256, B / 2 ^ 32 % 256, B / 2 ^ 24 % 256, B / 2 ^ 16 % 256, B / 2 ^ 8 % 256, B / 2 ^ 0 % 256]
/-- the text with its mark and noughts -/
def marked (bs : List Nat) (q : Nat) : List Nat := bs ++ 128 :: List.replicate q 0
theorem marked_len (bs : List Nat) (q : Nat) : (marked bs q).length = bs.length + 1 + q := by simp [marked]; omega
theorem pad_marked (r : List Nat) (z : Nat) (h : r.length + 9 ≤ z) : pad r z = marked r (z - r.length - 9) ++ List.replicate 8 0 := by
  obtain ⟨q, rfl⟩ : ∃ q, z = r.length + 9 + q := ⟨z - r.length - 9, by omega⟩
  unfold pad marked
  rw [show r.length + 9 + q - r.length - 9 = q by omega, show r.length + 9 + q - r.length = q + 8 + 1 by omega, List.set_append_right _ _ (Nat.le_refl _), Nat.sub_self, List.replicate_succ, List.set_cons_zero, List.append_assoc, List.cons_append, List.replicate_append_replicate]
theorem en8 (r : List Nat) (z B : Nat) (h : r.length + 9 ≤ z) : en r z B 8 = marked r (z - r.length - 9) ++ be8 B := by
  have hp := pad_marked r z h
  have hl : (marked r (z - r.length - 9)).length = z - 8 := by rw [marked_len]; omega
  generalize marked r (z - r.length - 9) = P at *
  have e : ∀ (k : Nat) (l : List Nat) (v : Nat), k < 8 → (P ++ l).set (z - 1 - k) v = P ++ l.set (7 - k) v := fun k l v hk => by
    rw [List.set_append_right _ _ (by omega), show z - 1 - k - P.length = 7 - k by omega]
  show (((((((((pad r z).set (z - 1 - 0) _).set (z - 1 - 1) _).set (z - 1 - 2) _).set (z - 1 - 3) _).set (z - 1 - 4) _).set (z - 1 - 5) _).set (z - 1 - 6) _).set (z - 1 - 7) _) = _
  rw [hp, e 0 _ _ (by omega), e 1 _ _ (by omega), e 2 _ _ (by omega), e 3 _ _ (by omega), e 4 _ _ (by omega), e 5 _ _ (by omega), e 6 _ _ (by omega), e 7 _ _ (by omega)]
  rfl
theorem rest_len (bs : List Nat) : (rest64 bs).length = bs.length % 64 := by
  unfold rest64
  rw [List.length_drop]
  omega
/-- how many noughts -/
def nz (bs : List Nat) : Nat := tailZ bs - bs.length % 64 - 9
theorem tailZ_eq (bs : List Nat) : (bs.length % 64 + 9 ≤ 64 ∧ tailZ bs = 64) ∨ (64 < bs.length % 64 + 9 ∧ tailZ bs = 128) := by
  unfold tailZ
  rw [rest_len]
  split <;> omega
theorem nz_mod (bs : List Nat) : (bs.length + 1 + nz bs) % 64 = 56 ∧ ∀ j, j < nz bs → (bs.length + 1 + j) % 64 ≠ 56 := by
  unfold nz
  rcases tailZ_eq bs with ⟨h1, h2⟩ | ⟨h1, h2⟩
  · rw [h2]
    exact ⟨by omega, fun j hj => by omega⟩
  · rw [h2]
    exact ⟨by omega, fun j hj => by omega⟩
theorem padded (bs : List Nat) : marked bs (nz bs) ++ be8 (8 * bs.length) = bs.take (64 * (bs.length / 64)) ++ tailOf bs := by
  have hr := rest_len bs
  have hz : (rest64 bs).length + 9 ≤ tailZ bs := by rw [hr]; rcases tailZ_eq bs with ⟨h1, h2⟩ | ⟨h1, h2⟩ <;> omega
  unfold tailOf
  rw [en8 _ _ _ hz, hr]
  unfold nz marked
  rw [← List.append_assoc, ← List.append_assoc]
  congr 2
  unfold rest64
  rw [List.take_append_drop]
theorem shB_front (ss A T : List Nat) (m : Nat) (hA : A.length = 64 * m) : ∀ k, k ≤ m → shB ss (A ++ T) k = shB ss A k
  | 0, _ => rfl
  | k + 1, h => by
    show mix (shB ss (A ++ T) k) (((A ++ T).drop (64 * k)).take 64) = mix (shB ss A k) ((A.drop (64 * k)).take 64)
    rw [shB_front ss A T m hA k (by omega), List.drop_append_of_le_length (by omega), List.take_append_of_le_length (by rw [List.length_drop]; omega)]
theorem shB_app (ss A T : List Nat) (m : Nat) (hA : A.length = 64 * m) : ∀ t, shB ss (A ++ T) (m + t) = shB (shB ss A m) T t
  | 0 => shB_front ss A T m hA m (Nat.le_refl _)
  | t + 1 => by
    show mix (shB ss (A ++ T) (m + t)) (((A ++ T).drop (64 * (m + t))).take 64) = mix (shB (shB ss A m) T t) ((T.drop (64 * t)).take 64)
    rw [shB_app ss A T m hA t, show 64 * (m + t) = A.length + 64 * t by omega, List.drop_append, List.drop_eq_nil_of_le (by omega), List.nil_append, show A.length + 64 * t - A.length = 64 * t by omega]
theorem sha_all (bs : List Nat) : sha bs = ob (shB fst8 (marked bs (nz bs) ++ be8 (8 * bs.length)) (bs.length / 64 + tailZ bs / 64)) 32 := by
  have hl : (bs.take (64 * (bs.length / 64))).length = 64 * (bs.length / 64) := by rw [List.length_take]; omega
  rw [padded, shB_app _ _ _ _ hl]
  unfold sha
  congr 2
  have := shB_front fst8 (bs.take (64 * (bs.length / 64))) (rest64 bs) (bs.length / 64) hl (bs.length / 64) (Nat.le_refl _)
  rw [← this]
  unfold rest64
  rw [List.take_append_drop]
end Go.Proofs.YtbgmepepcdpkfaaDoor
