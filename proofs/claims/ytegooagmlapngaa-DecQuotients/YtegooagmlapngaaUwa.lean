/- The document's decimals: what is asked of DocMul besides. -/
import Derived.Test.YtegooagmlapngaaUu
namespace Go.Proofs.Ytegooagmlapngaa
open Go.RowKit
set_option linter.unusedVariables false

/-- blocks of two kinds are two blocks -/
theorem V3.neT {w : World} {q u : Nat} {x y z a b : Value} {T U : TypeId} (h : V3 w q x y z T) (hu : V2 w u a b U) (hTU : T ≠ U) : q ≠ u := by
  intro e
  subst e
  have h1 := h.blk
  rw [hu.blk] at h1
  simp at h1
theorem V3.neU {w : World} {q u : Nat} {x y z a b : Value} (h : V3 w q x y z 24) (hu : V2 w u a b 46) : q ≠ u := h.neT hu (by decide)
theorem V3.keepT {w : World} {q u : Nat} {x y z a b : Value} {T U : TypeId} (h : V3 w q x y z T) (hu : V2 w u a b U) (hTU : T ≠ U) (c d : Value) : V3 ((w.setCell ⟨u, 0, none⟩ c).setCell ⟨u, 1, none⟩ d) q x y z T := h.keep u (h.neT hu hTU) c d
theorem mul_mi {a b : Int} (ia : InR a) (ib : InR b) : Mi (a * b) := by
  have h1 := inr_abs ia
  have h2 := inr_abs ib
  rw [M127_eq] at h1 h2
  refine mi_of (k := 300) ?_ (by omega)
  rw [Int.natAbs_mul]
  have h3 : a.natAbs * b.natAbs ≤ 170141183460469231731687303715884105728 * 170141183460469231731687303715884105728 := Nat.mul_le_mul (by omega) (by omega)
  exact Nat.lt_of_le_of_lt h3 (by decide +kernel)
theorem mul_up_mi {a b : Int} (ia : InR a) (ib : InR b) (k : Nat) (hk : k ≤ 40) : Mi (a * b * 10 ^ k) := by
  have h1 := inr_abs ia
  have h2 := inr_abs ib
  rw [M127_eq] at h1 h2
  refine mi_of (k := 500) ?_ (by omega)
  rw [Int.natAbs_mul, Int.natAbs_mul, ten_abs]
  have h3 : a.natAbs * b.natAbs ≤ 170141183460469231731687303715884105728 * 170141183460469231731687303715884105728 := Nat.mul_le_mul (by omega) (by omega)
  have h4 : (10 : Nat) ^ k ≤ 10 ^ 40 := Nat.pow_le_pow_right (by decide) hk
  exact Nat.lt_of_le_of_lt (Nat.mul_le_mul h3 h4) (by decide +kernel)
theorem neg_mul' {a b : Int} (h : ¬ a * b = 0) : decide (a * b < 0) = ((decide (a < 0)) != (decide (b < 0))) := by
  rcases (show a = 0 ∨ a < 0 ∨ 0 < a by omega) with rfl | ha | ha
  · simp at h
  · rcases (show b = 0 ∨ b < 0 ∨ 0 < b by omega) with rfl | hb | hb
    · simp at h
    · have := Int.mul_pos_of_neg_of_neg ha hb
      rw [decide_eq_false (by omega), decide_eq_true ha, decide_eq_true hb]; rfl
    · have := Int.mul_neg_of_neg_of_pos ha hb
      rw [decide_eq_true this, decide_eq_true ha, decide_eq_false (by omega)]; rfl
  · rcases (show b = 0 ∨ b < 0 ∨ 0 < b by omega) with rfl | hb | hb
    · simp at h
    · have := Int.mul_neg_of_pos_of_neg ha hb
      rw [decide_eq_true this, decide_eq_false (by omega), decide_eq_true hb]; rfl
    · have := Int.mul_pos ha hb
      rw [decide_eq_false (by omega), decide_eq_false (by omega), decide_eq_false (by omega)]; rfl
theorem mv_eq (a b : Int) (s u t mode : Nat) : sv (decide (a * b * 10 ^ t < 0)) (rnd (decide (a * b * 10 ^ t < 0)) (a * b * 10 ^ t).natAbs (10 ^ (s + u)) mode) = mv a s b u t mode := by
  rw [neg_scale, Int.natAbs_mul, ten_abs]
  have e := fun neg => rnd_shift neg (a * b).natAbs 1 t (s + u) mode
  simp only [Nat.one_mul] at e
  rw [e, show ((t : Int) - ((s + u : Nat) : Int)) = (t : Int) - s - u by omega]
  unfold mv
  rw [← Int.natAbs_mul]
  by_cases h : a * b = 0
  · rw [h]
    have z : ∀ neg, rquo neg (0 : Int).natAbs 1 ((t : Int) - s - u) mode = 0 := fun neg => by
      rw [rquo_rnd]
      unfold rnum
      rw [show (0 : Int).natAbs = 0 from rfl, Nat.zero_mul, rnd_zero]
    rw [z, z]
    simp [sv]
  · rw [neg_mul' h]
end Go.Proofs.Ytegooagmlapngaa
