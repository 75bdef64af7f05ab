/- texts of the model: Ut Uu -/
import Derived.Test.YtjkiplndbcmmbaaGreatDoorW14
import Derived.Deep.DeepCutAuto
import Derived.Test.YtjkiplndbcmmbaaGreatDoorW12
set_option linter.unusedVariables false
set_option linter.unusedSimpArgs false
set_option maxHeartbeats 16000000
set_option maxRecDepth 100000
namespace Go.Proofs.YtjkiplndbcmmbaaGreatDoor
open Go.RowKit
attribute [local go_sem ↓] Go.wp_at_zero Go.wp_at_succ
def rnd (neg : Bool) (n d mode : Nat) : Nat := n / d + (if away neg (n / d) (n % d) d mode then 1 else 0)
theorem j0 (neg : Bool) (n d mode : Nat) (h : n % d = 0) : rnd neg n d mode = n / d := by simp [rnd, away, h]
theorem two (w : World) (a b e f : Value) (T : TypeId) :
  V2 ((w.alloc (.cells #[a, b] T)).alloc (.cells #[e, f] T)) w.heap.size a b T ∧ V2 ((w.alloc (.cells #[a, b] T)).alloc (.cells #[e, f] T)) (w.heap.size + 1) e f T ∧
  Below w.heap.size w ((w.alloc (.cells #[a, b] T)).alloc (.cells #[e, f] T)) := by
 refine ⟨(dL w a b T).alloc _, ?_, dR (dR (Below.refl _ _) _) _⟩
 have := dL (w.alloc (.cells #[a, b] T)) e f T
 rw [fH] at this
 exact this
theorem lL (neg : Bool) (q r d k mode : Nat) (hk : 0 < k) : away neg q (r * k) (d * k) mode = away neg q r d mode := by
 have e0 : r * k = 0 ↔ r = 0 := by
  constructor
  ·intro h; rcases Nat.mul_eq_zero.1 h with h | h <;> omega
  ·intro h; rw [h, Nat.zero_mul]
 have es : r * k + r * k = (r + r) * k := by rw [Nat.add_mul]
 have e1 : (r + r) * k < d * k ↔ r + r < d := Nat.mul_lt_mul_right hk
 have e2 : d * k < (r + r) * k ↔ d < r + r := Nat.mul_lt_mul_right hk
 have e3 : (r + r) * k = d * k ↔ r + r = d := Nat.mul_right_cancel_iff hk
 unfold away
 rw [es]
 simp only [e0, e1, e2, e3]
theorem j5 (neg : Bool) (n d k mode : Nat) (hk : 0 < k) : rnd neg (n * k) (d * k) mode = rnd neg n d mode := by
 unfold rnd
 rw [Nat.mul_div_mul_right _ _ hk, Nat.mul_mod_mul_right, lL _ _ _ _ _ _ hk]
theorem ry (neg : Bool) (n d : Nat) (shift : Int) (mode : Nat) : rquo neg n d shift mode = rnd neg (rnum n shift) (rden d shift) mode := rfl
theorem fX (neg : Bool) (n d u v mode : Nat) : rnd neg (n * 10 ^ u) (d * 10 ^ v) mode = rquo neg n d ((u : Int) - v) mode := by
 rw [ry]
 unfold rnum rden
 rcases Nat.le_total v u with h | h
 ·rw [show ((u : Int) - v).toNat = u - v by omega, show (-((u : Int) - v)).toNat = 0 by omega, Nat.pow_zero, Nat.mul_one]
  have e : n * 10 ^ u = n * 10 ^ (u - v) * 10 ^ v := by rw [Nat.mul_assoc, ← Nat.pow_add, show u - v + v = u by omega]
  rw [e, j5 _ _ _ _ _ (Nat.pow_pos (by decide))]
 ·rw [show ((u : Int) - v).toNat = 0 by omega, show (-((u : Int) - v)).toNat = v - u by omega, Nat.pow_zero, Nat.mul_one]
  have e : d * 10 ^ v = d * 10 ^ (v - u) * 10 ^ u := by rw [Nat.mul_assoc, ← Nat.pow_add, show v - u + u = v by omega]
  rw [e, j5 _ _ _ _ _ (Nat.pow_pos (by decide))]
end Go.Proofs.YtjkiplndbcmmbaaGreatDoor