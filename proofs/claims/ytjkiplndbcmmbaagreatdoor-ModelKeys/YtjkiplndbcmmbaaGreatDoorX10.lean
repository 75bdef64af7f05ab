/- texts of the model: Me Wf -/
import Derived.Test.YtjkiplndbcmmbaaGreatDoorX09
set_option linter.unusedVariables false
set_option linter.unusedSimpArgs false
set_option maxHeartbeats 16000000
namespace Go.Proofs.YtjkiplndbcmmbaaGreatDoor
open Go.RowKit
theorem im (i : Nat) : B ^ i = 2 ^ (64 * i) := by rw [show B = 2 ^ 64 from rfl, ← Nat.pow_mul]
theorem r9 {m : Nat} (h : m < B ^ 5) : bl m ≤ 64 * 5 := (cN m _).2 (im 5 ▸ h)
theorem i9 (x k : Nat) : x * 2 ^ (k + 1) = 2 * x * 2 ^ k := by rw [Nat.pow_succ, Nat.mul_comm (2 ^ k) 2, ← Nat.mul_assoc, Nat.mul_comm x 2]
theorem rZ (x t : Nat) (ht : t < 64) : x % B / 2 ^ t % 2 = x / 2 ^ t % 2 := by
 have e : B = 2 ^ t * (2 * 2 ^ (63 - t)) := by rw [show B = 2 ^ 64 from rfl, ← Nat.pow_succ', ← Nat.pow_add]; congr 1; omega
 have h := Nat.div_add_mod x B
 have : x / 2 ^ t = x % B / 2 ^ t + 2 * (2 ^ (63 - t) * (x / B)) := by
  have h2 : x = x % B + 2 ^ t * (2 * (2 ^ (63 - t) * (x / B))) := by
   rw [← Nat.mul_assoc 2, ← Nat.mul_assoc (2 ^ t), ← e]; omega
  conv => lhs; rw [h2]
  rw [Nat.add_mul_div_left _ _ (Nat.pow_pos (by decide))]
 rw [this]; omega
theorem jx (a j t : Nat) (ht : t < 64) : bits .and .u64 (wd a j / 2 ^ t) 1 = ((a / 2 ^ (64 * j + t) % 2 : Nat) : Int) := by
 have hw := kC a j
 rw [dI] at hw
 have hle : wn a j / 2 ^ t ≤ wn a j := Nat.div_le_self _ _
 have e : wd a j / 2 ^ t = ((wn a j / 2 ^ t : Nat) : Int) := by rw [bM, dx, ← Int.natCast_ediv]
 rw [e]
 have h := bits_and_u64_nat (wn a j / 2 ^ t) 1 (by omega) (by omega)
 rw [Nat.and_one_is_mod] at h
 rw [show (1 : Int) = ((1 : Nat) : Int) from rfl, h]
 congr 1
 unfold wn
 rw [Nat.pow_add, ← Nat.div_div_eq_div_mul, ← im]
 exact rZ _ _ ht
theorem pJ {a d k : Nat} (hd : 0 < d) :
  let r := 2 * (a / 2 ^ (k + 1) % d) + a / 2 ^ k % 2
  (r < d → a / 2 ^ k / d = 2 * (a / 2 ^ (k + 1) / d) ∧ a / 2 ^ k % d = r) ∧ (d ≤ r → a / 2 ^ k / d = 2 * (a / 2 ^ (k + 1) / d) + 1 ∧ a / 2 ^ k % d = r - d) := by
 intro r
 have hX := Nat.div_add_mod (a / 2 ^ (k + 1)) d
 have hR := Nat.mod_lt (a / 2 ^ (k + 1)) hd
 have e : a / 2 ^ k = 2 * (a / 2 ^ (k + 1)) + a / 2 ^ k % 2 := by
  rw [Nat.pow_succ, ← Nat.div_div_eq_div_mul]; omega
 have e2 : a / 2 ^ k = r + d * (2 * (a / 2 ^ (k + 1) / d)) := by
  have : d * (2 * (a / 2 ^ (k + 1) / d)) = 2 * (d * (a / 2 ^ (k + 1) / d)) := Nat.mul_left_comm _ _ _
  omega
 constructor
 ·intro h
  rw [e2, Nat.add_mul_div_left _ _ hd, Nat.add_mul_mod_self_left, Nat.div_eq_of_lt h, Nat.mod_eq_of_lt h]
  omega
 ·intro h
  have h2 : r - d < d := by omega
  have e3 : a / 2 ^ k = (r - d) + d * (2 * (a / 2 ^ (k + 1) / d) + 1) := by rw [Nat.mul_add, Nat.mul_one]; omega
  rw [e3, Nat.add_mul_div_left _ _ hd, Nat.add_mul_mod_self_left, Nat.div_eq_of_lt h2, Nat.mod_eq_of_lt h2]
  omega
theorem og (Q j t : Nat) (ht : t < 64) : wn (Q * 2 ^ (64 * j + t + 1) + 2 ^ (64 * j + t)) j = wn (Q * 2 ^ (64 * j + t + 1)) j ||| 2 ^ t ∧
  ∀ i, i ≠ j → wn (Q * 2 ^ (64 * j + t + 1) + 2 ^ (64 * j + t)) i = wn (Q * 2 ^ (64 * j + t + 1)) i := by
 constructor
 ·unfold wn
  have eM : Q * 2 ^ (64 * j + t + 1) = B ^ j * (Q * 2 ^ (t + 1)) := by rw [im, Nat.mul_left_comm, ← Nat.pow_add, Nat.add_assoc]
  have eP : 2 ^ (64 * j + t) = B ^ j * 2 ^ t := by rw [im, ← Nat.pow_add]
  have hB : 0 < B ^ j := Nat.pow_pos bB
  rw [eM, eP, ← Nat.mul_add, Nat.mul_div_cancel_left _ hB, Nat.mul_div_cancel_left _ hB]
  have e64 : B = 2 ^ (t + 1) * 2 ^ (63 - t) := by rw [show B = 2 ^ 64 from rfl, ← Nat.pow_add]; congr 1; omega
  have hx : Q * 2 ^ (t + 1) % B = 2 ^ (t + 1) * (Q % 2 ^ (63 - t)) := by rw [e64, Nat.mul_comm Q, Nat.mul_mod_mul_left]
  have hlt : Q % 2 ^ (63 - t) + 1 ≤ 2 ^ (63 - t) := Nat.mod_lt _ (Nat.pow_pos (by decide))
  have hp : 2 ^ t < 2 ^ (t + 1) := Nat.pow_lt_pow_right (by decide) (by omega)
  have hsum : Q * 2 ^ (t + 1) % B + 2 ^ t < B := by
   have : 2 ^ (t + 1) * (Q % 2 ^ (63 - t) + 1) ≤ 2 ^ (t + 1) * 2 ^ (63 - t) := Nat.mul_le_mul_left _ hlt
   rw [hx]
   rw [← e64, Nat.mul_add, Nat.mul_one] at this
   omega
  have hpB : 2 ^ t < B := by omega
  rw [Nat.add_mod, Nat.mod_eq_of_lt hpB, Nat.mod_eq_of_lt hsum, hx]
  exact Nat.two_pow_add_eq_or_of_lt hp _
 ·intro i hi
  unfold wn
  have hB : 0 < B ^ i := Nat.pow_pos bB
  rcases Nat.lt_or_ge i j with c | c
  ·have eP : 2 ^ (64 * j + t) = B ^ i * (B * 2 ^ (64 * j + t - 64 * i - 64)) := by
    rw [im, show B = 2 ^ 64 from rfl, ← Nat.pow_add, ← Nat.pow_add]; congr 1; omega
   rw [eP, Nat.add_mul_div_left _ _ hB, Nat.add_mul_mod_self_left]
  ·have hik : 64 * j + t + 1 ≤ 64 * i := by omega
   have eB : B ^ i = 2 ^ (64 * j + t + 1) * 2 ^ (64 * i - (64 * j + t + 1)) := by rw [im, ← Nat.pow_add]; congr 1; omega
   have h2 : 2 ^ (64 * j + t) < 2 ^ (64 * j + t + 1) := Nat.pow_lt_pow_right (by decide) (by omega)
   congr 1
   rw [eB, ← Nat.div_div_eq_div_mul, ← Nat.div_div_eq_div_mul, Nat.mul_comm Q]
   rw [Nat.add_comm, Nat.add_mul_div_left _ _ (Nat.pow_pos (by decide)), Nat.div_eq_of_lt h2, Nat.zero_add, Nat.mul_div_cancel_left _ (Nat.pow_pos (by decide))]
theorem tG (Q j t : Nat) (ht : t < 64) : bits .or .u64 (wd (Q * 2 ^ (64 * j + t + 1)) j) ((2 ^ t : Nat) : Int) = wd (Q * 2 ^ (64 * j + t + 1) + 2 ^ (64 * j + t)) j := by
 have h1 := kC (Q * 2 ^ (64 * j + t + 1)) j
 have h2 : 2 ^ t < 2 ^ 64 := Nat.pow_lt_pow_right (by decide) ht
 rw [bM, bM, (og Q j t ht).1, bits_or_u64_nat _ _ h1 (by omega)]
theorem qI (t : Nat) (ht : t < 64) : IntKind.u64.wrap ((2 : Int) ^ t) = ((2 ^ t : Nat) : Int) := by
 have h2 : 2 ^ t < 2 ^ 64 := Nat.pow_lt_pow_right (by decide) ht
 rw [dx, IntKind.wrap_u64]
 generalize 2 ^ t = x at *
 omega
theorem oh (Q k j t : Nat) (hk : k = 64 * j + t) (ht : t < 64) : bits .or .u64 (wd (Q * 2 ^ (k + 1)) j) (IntKind.u64.wrap ((2 : Int) ^ t)) = wd (Q * 2 ^ (k + 1) + 2 ^ k) j ∧
  ∀ i, i ≠ j → wd (Q * 2 ^ (k + 1) + 2 ^ k) i = wd (Q * 2 ^ (k + 1)) i := by
 subst hk
 rw [qI t ht]
 exact ⟨tG Q j t ht, fun i hi => by rw [bM, bM, (og Q j t ht).2 i hi]⟩
set_option maxRecDepth 100000 in
theorem fp (m n : Nat) (a0 a1 a2 a3 a4 : Int) (w : World) (ha : IsW m a0 a1 a2 a3 a4) (hn : n ≤ 1000) :
  Calls Tryz.prog 99 #[.agg #[.int .u64 a0, .int .u64 a1, .int .u64 a2, .int .u64 a3, .int .u64 a4], .int .i64 n] w
   fun e w' => e = .returned (.agg #[.int .u64 (wd (m * 10 ^ n) 0), .int .u64 (wd (m * 10 ^ n) 1), .int .u64 (wd (m * 10 ^ n) 2), .int .u64 (wd (m * 10 ^ n) 3), .int .u64 (wd (m * 10 ^ n) 4)]) ∧ Below w.heap.size w w' := by
 obtain ⟨rfl, rfl, rfl, rfl, rfl⟩ := ha
 go_enter Tryz.func99, Tryz.ntmps99
 go_wp2
 go_loopw [6] (fun i wr => ∃ k : Nat, k ≤ n ∧ i = .int .i64 k ∧ Row5 wr w.heap.size 0 (m * 10 ^ k) ∧ Row5 wr (w.heap.size + 1) 0 0 ∧ w.heap.size + 2 ≤ wr.heap.size ∧ Below w.heap.size w wr)
  (fun i _ => n - (intOf i).toNat)
 case atStart =>
  refine ⟨0, by omega, rfl, ?_, ?_, ?_, ?_⟩
  ·rw [Nat.pow_zero, Nat.mul_one]; constructor <;> simp [go_sem]
  ·constructor <;> simp [go_sem, aN]
  ·simp
  ·repeat (first | exact Below.refl _ _ | refine Below.drew ?_ | refine below_drewN ?_ _ | refine ac ?_ _ | refine ae ?_ _ | (refine Below.setCell ?_ ?_ _; rotate_left; (simp <;> omega)))
 case round =>
  obtain ⟨k, hk, rfl, R1, R2, hsz, hbel⟩ := hrel
  by_cases hlt : k < n
  ·obtain ⟨c0, c1, c2, c3, c4, f0, f1, f2, f3, f4⟩ := R1.zero
   go_wp2_with fail
   clear c0 c1 c2 c3 c4 f0 f1 f2 f3 f4
   refine (eD (m * 10 ^ k) 10 _ _ _ _ _ wr (IsW.self _) (by decide)).mono ?_
   rintro e w1 ⟨rfl, hb1⟩
   have S1 := R1.below hb1 (by omega)
   have S2 := R2.below hb1 (by omega)
   have hz1 := hb1.size
   have hbel1 := hbel.trans (hb1.mono (by omega))
   clear R1 R2 hbel hb1
   obtain ⟨c0, c1, c2, c3, c4, f0, f1, f2, f3, f4⟩ := S1.zero
   go_wp2
   go_roundw
   case rel =>
    refine ⟨k + 1, by omega, by go_num, (S1.laid (m * 10 ^ k * 10)).congr (by rw [Nat.pow_succ, Nat.mul_assoc]), S2.laid_other (by omega) 0 _, ?_, ?_⟩
    ·simp; omega
    ·exact cM hbel1 (Nat.le_refl _) 0 _
   case measure => simp [intOf]; omega
  ·have hkn : k = n := by omega
   subst hkn
   obtain ⟨c0, c1, c2, c3, c4, f0, f1, f2, f3, f4⟩ := R1.zero
   obtain ⟨d0, d1, d2, d3, d4, g0, g1, g2, g3, g4⟩ := R2.zero
   go_wp2
   refine bodyPost_ret (v := .agg _) (by simp [results, Tryz.results99, go_sem, d0, d1, d2, d3, d4]) rfl ⟨rfl, ?_⟩
   exact cM hbel (by omega) 0 _
end Go.Proofs.YtjkiplndbcmmbaaGreatDoor