/- The quotient as the reference makes it, and as the program does: plain arithmetic. -/
import Derived.Test.YtegooagmlapngaaUwa
namespace Go.Proofs.Ytegooagmlapngaa
open Go.RowKit
set_option linter.unusedVariables false

/-- ten to a power, with the sign of b -/
def tenS (b : Int) (k : Nat) : Int := if b < 0 then -(10 ^ k) else 10 ^ k
theorem tenS_abs (b : Int) (k : Nat) : (tenS b k).natAbs = 10 ^ k := by
  unfold tenS
  split
  · rw [Int.natAbs_neg, ten_abs]
  · exact ten_abs k
theorem tenS_neg (b : Int) (k : Nat) : (tenS b k < 0) ↔ b < 0 := by
  have := ten_pos k
  unfold tenS
  split <;> omega
theorem tenS_ne (b : Int) (k : Nat) : ¬ tenS b k = 0 := by
  have := ten_pos k
  unfold tenS
  split <;> omega
theorem qv_eq (a b : Int) (s u t mode : Nat) : sv (decide (a * tenS b (u + t) < 0)) (rnd (decide (a * tenS b (u + t) < 0)) (a * tenS b (u + t)).natAbs (b.natAbs * 10 ^ s) mode) = qv a s b u t mode := by
  rw [Int.natAbs_mul, tenS_abs, rnd_shift, show (((u + t : Nat) : Int) - s) = (t : Int) + u - s by omega]
  unfold qv
  by_cases h : a = 0
  · subst h
    have z : ∀ neg, rquo neg (0 : Int).natAbs b.natAbs ((t : Int) + u - s) mode = 0 := fun neg => by
      rw [rquo_rnd]
      unfold rnum
      rw [show (0 : Int).natAbs = 0 from rfl, Nat.zero_mul, rnd_zero]
    rw [z, z]
    simp [sv]
  · have h0 : ¬ a * tenS b (u + t) = 0 := fun e => by
      rcases Int.mul_eq_zero.1 e with e | e
      · exact h e
      · exact tenS_ne b (u + t) e
    have e : decide (tenS b (u + t) < 0) = decide (b < 0) := by rw [Bool.eq_iff_iff]; simp only [decide_eq_true_eq]; exact tenS_neg b (u + t)
    rw [neg_mul' h0, e]
theorem quo_up_mi {a : Int} (ia : InR a) (b : Int) (k : Nat) (hk : k ≤ 40) : Mi (a * tenS b k) := by
  have := up_mi ia k hk
  unfold Mi at *
  rw [Int.natAbs_mul, tenS_abs]
  rw [Int.natAbs_mul, ten_abs] at this
  exact this
theorem tenS_mi (b : Int) (k : Nat) (hk : k ≤ 40) : Mi (tenS b k) := by
  unfold Mi
  rw [tenS_abs]
  exact ten_md k hk
theorem den_md {b : Int} (ib : InR b) (k : Nat) (hk : k ≤ 40) : Md (b.natAbs * 10 ^ k) := by
  have := up_mi ib k hk
  unfold Mi at this
  rw [Int.natAbs_mul, ten_abs] at this
  exact this
end Go.Proofs.Ytegooagmlapngaa
