/- texts of the model: Wc Md Wh Wd We Wi Me Wf -/
import Derived.Test.YtjkiplndbcmmbaaGreatDoorW08
import Derived.Lib.BitFns
import Derived.Shelf.Bits.Mul64
set_option linter.unusedVariables false
set_option linter.unusedSimpArgs false
set_option maxHeartbeats 16000000
set_option maxRecDepth 100000
namespace Go.Proofs.YtjkiplndbcmmbaaGreatDoor
open Tryz
open Go.RowKit
theorem pH (n k : Nat) (h : 2 ^ k ≤ n) : bl n = k + bl (n / 2 ^ k) := by
 apply iM
 intro j
 constructor
 ·intro hj
  have := (cH (n / 2 ^ k) (j - k)).1 (by omega)
  rw [Nat.div_lt_iff_lt_mul (Nat.pow_pos (by decide)), ← Nat.pow_add, show j - k + k = j by omega] at this
  exact this
 ·intro hj
  have hk : k < j := by
   rcases Nat.lt_or_ge k j with c | c
   ·exact c
   ·have := Nat.pow_le_pow_right (show 0 < 2 by decide) c; omega
  have := (cH (n / 2 ^ k) (j - k)).2 (by rw [Nat.div_lt_iff_lt_mul (Nat.pow_pos (by decide)), ← Nat.pow_add, show j - k + k = j by omega]; exact hj)
  omega
theorem cq (n : Nat) (h : n < 18446744073709551616) : bl n ≤ 64 := (cH n 64).2 (by omega)
theorem cR (x u : Int) (k : Nat) (h0 : 0 ≤ x) (h1 : x ≤ 18446744073709551615) (hu : u.toNat = x.toNat / 2 ^ k) (hk : k = 0 ∨ 2 ^ k ≤ x.toNat) (u0 : 0 ≤ u) (u1 : u ≤ 255) : (k : Int) + Lib.len8 u = (bl x.toNat : Int) := by
 rw [Lib.len8_of u u0 u1, nN _ (by omega), hu]
 rcases hk with rfl | hk
 ·simp
 ·rw [pH _ k hk]; omega
theorem cQ (u : Int) (u0 : 0 ≤ u) (u1 : u ≤ 255) : 0 ≤ Lib.len8 u ∧ Lib.len8 u ≤ 8 := by
 rw [Lib.len8_of u u0 u1]
 have := Lib.bitLen_le8' u u0 u1
 omega
theorem ox (x : Int) (w : World) (h0 : 0 ≤ x) (h1 : x ≤ 18446744073709551615) (c1 : x < 4294967296) (c2 : x < 65536) (c3 : x < 256) :
  Calls prog 146 #[.int .u64 x] w fun e w' => e = .returned (.int .i64 (bl x.toNat)) ∧ w' = w := by
 have u0 : 0 ≤ x := by omega
 have u1 : x ≤ 255 := by omega
 have l := cQ (x) u0 u1
 obtain ⟨l0, l1⟩ := l
 have fin : Hid (((0 : Nat) : Int) + Lib.len8 (x) = (bl x.toNat : Int)) := cR x (x) 0 h0 h1 (by omega) (by omega) u0 u1
 go_enter func146, ntmps146
 go_wp2
 go_ret
 refine ⟨congrArg Ending.returned (congrArg (Value.int IntKind.i64) ?_), rfl⟩
 rw [← fin.out]
 first | rfl | omega | simp
theorem oy (x : Int) (w : World) (h0 : 0 ≤ x) (h1 : x ≤ 18446744073709551615) (c1 : x < 4294967296) (c2 : x < 65536) (c3 : 256 ≤ x) :
  Calls prog 146 #[.int .u64 x] w fun e w' => e = .returned (.int .i64 (bl x.toNat)) ∧ w' = w := by
 have u0 : 0 ≤ x / 256 := by omega
 have u1 : x / 256 ≤ 255 := by omega
 have l := cQ (x / 256) u0 u1
 obtain ⟨l0, l1⟩ := l
 have fin : Hid (((8 : Nat) : Int) + Lib.len8 (x / 256) = (bl x.toNat : Int)) := cR x (x / 256) 8 h0 h1 (by omega) (by omega) u0 u1
 go_enter func146, ntmps146
 go_wp2
 go_ret
 refine ⟨congrArg Ending.returned (congrArg (Value.int IntKind.i64) ?_), rfl⟩
 rw [← fin.out]
 first | rfl | omega | simp
theorem oA (x : Int) (w : World) (h0 : 0 ≤ x) (h1 : x ≤ 18446744073709551615) (c1 : x < 4294967296) (c2 : 65536 ≤ x) (c3 : x / 65536 < 256) :
  Calls prog 146 #[.int .u64 x] w fun e w' => e = .returned (.int .i64 (bl x.toNat)) ∧ w' = w := by
 have u0 : 0 ≤ x / 65536 := by omega
 have u1 : x / 65536 ≤ 255 := by omega
 have l := cQ (x / 65536) u0 u1
 obtain ⟨l0, l1⟩ := l
 have fin : Hid (((16 : Nat) : Int) + Lib.len8 (x / 65536) = (bl x.toNat : Int)) := cR x (x / 65536) 16 h0 h1 (by omega) (by omega) u0 u1
 go_enter func146, ntmps146
 go_wp2
 go_ret
 refine ⟨congrArg Ending.returned (congrArg (Value.int IntKind.i64) ?_), rfl⟩
 rw [← fin.out]
 first | rfl | omega | simp
theorem oB (x : Int) (w : World) (h0 : 0 ≤ x) (h1 : x ≤ 18446744073709551615) (c1 : x < 4294967296) (c2 : 65536 ≤ x) (c3 : 256 ≤ x / 65536) :
  Calls prog 146 #[.int .u64 x] w fun e w' => e = .returned (.int .i64 (bl x.toNat)) ∧ w' = w := by
 have u0 : 0 ≤ x / 65536 / 256 := by omega
 have u1 : x / 65536 / 256 ≤ 255 := by omega
 have l := cQ (x / 65536 / 256) u0 u1
 obtain ⟨l0, l1⟩ := l
 have fin : Hid (((24 : Nat) : Int) + Lib.len8 (x / 65536 / 256) = (bl x.toNat : Int)) := cR x (x / 65536 / 256) 24 h0 h1 (by omega) (by omega) u0 u1
 go_enter func146, ntmps146
 go_wp2
 go_ret
 refine ⟨congrArg Ending.returned (congrArg (Value.int IntKind.i64) ?_), rfl⟩
 rw [← fin.out]
 first | rfl | omega | simp
theorem oC (x : Int) (w : World) (h0 : 0 ≤ x) (h1 : x ≤ 18446744073709551615) (c1 : 4294967296 ≤ x) (c2 : x / 4294967296 < 65536) (c3 : x / 4294967296 < 256) :
  Calls prog 146 #[.int .u64 x] w fun e w' => e = .returned (.int .i64 (bl x.toNat)) ∧ w' = w := by
 have u0 : 0 ≤ x / 4294967296 := by omega
 have u1 : x / 4294967296 ≤ 255 := by omega
 have l := cQ (x / 4294967296) u0 u1
 obtain ⟨l0, l1⟩ := l
 have fin : Hid (((32 : Nat) : Int) + Lib.len8 (x / 4294967296) = (bl x.toNat : Int)) := cR x (x / 4294967296) 32 h0 h1 (by omega) (by omega) u0 u1
 go_enter func146, ntmps146
 go_wp2
 go_ret
 refine ⟨congrArg Ending.returned (congrArg (Value.int IntKind.i64) ?_), rfl⟩
 rw [← fin.out]
 first | rfl | omega | simp
theorem oD (x : Int) (w : World) (h0 : 0 ≤ x) (h1 : x ≤ 18446744073709551615) (c1 : 4294967296 ≤ x) (c2 : x / 4294967296 < 65536) (c3 : 256 ≤ x / 4294967296) :
  Calls prog 146 #[.int .u64 x] w fun e w' => e = .returned (.int .i64 (bl x.toNat)) ∧ w' = w := by
 have u0 : 0 ≤ x / 4294967296 / 256 := by omega
 have u1 : x / 4294967296 / 256 ≤ 255 := by omega
 have l := cQ (x / 4294967296 / 256) u0 u1
 obtain ⟨l0, l1⟩ := l
 have fin : Hid (((40 : Nat) : Int) + Lib.len8 (x / 4294967296 / 256) = (bl x.toNat : Int)) := cR x (x / 4294967296 / 256) 40 h0 h1 (by omega) (by omega) u0 u1
 go_enter func146, ntmps146
 go_wp2
 go_ret
 refine ⟨congrArg Ending.returned (congrArg (Value.int IntKind.i64) ?_), rfl⟩
 rw [← fin.out]
 first | rfl | omega | simp
theorem oE (x : Int) (w : World) (h0 : 0 ≤ x) (h1 : x ≤ 18446744073709551615) (c1 : 4294967296 ≤ x) (c2 : 65536 ≤ x / 4294967296) (c3 : x / 4294967296 / 65536 < 256) :
  Calls prog 146 #[.int .u64 x] w fun e w' => e = .returned (.int .i64 (bl x.toNat)) ∧ w' = w := by
 have u0 : 0 ≤ x / 4294967296 / 65536 := by omega
 have u1 : x / 4294967296 / 65536 ≤ 255 := by omega
 have l := cQ (x / 4294967296 / 65536) u0 u1
 obtain ⟨l0, l1⟩ := l
 have fin : Hid (((48 : Nat) : Int) + Lib.len8 (x / 4294967296 / 65536) = (bl x.toNat : Int)) := cR x (x / 4294967296 / 65536) 48 h0 h1 (by omega) (by omega) u0 u1
 go_enter func146, ntmps146
 go_wp2
 go_ret
 refine ⟨congrArg Ending.returned (congrArg (Value.int IntKind.i64) ?_), rfl⟩
 rw [← fin.out]
 first | rfl | omega | simp
theorem oF (x : Int) (w : World) (h0 : 0 ≤ x) (h1 : x ≤ 18446744073709551615) (c1 : 4294967296 ≤ x) (c2 : 65536 ≤ x / 4294967296) (c3 : 256 ≤ x / 4294967296 / 65536) :
  Calls prog 146 #[.int .u64 x] w fun e w' => e = .returned (.int .i64 (bl x.toNat)) ∧ w' = w := by
 have u0 : 0 ≤ x / 4294967296 / 65536 / 256 := by omega
 have u1 : x / 4294967296 / 65536 / 256 ≤ 255 := by omega
 have l := cQ (x / 4294967296 / 65536 / 256) u0 u1
 obtain ⟨l0, l1⟩ := l
 have fin : Hid (((56 : Nat) : Int) + Lib.len8 (x / 4294967296 / 65536 / 256) = (bl x.toNat : Int)) := cR x (x / 4294967296 / 65536 / 256) 56 h0 h1 (by omega) (by omega) u0 u1
 go_enter func146, ntmps146
 go_wp2
 go_ret
 refine ⟨congrArg Ending.returned (congrArg (Value.int IntKind.i64) ?_), rfl⟩
 rw [← fin.out]
 first | rfl | omega | simp
theorem cE (x : Int) (w : World) (hx : IsWord x) :
  Calls prog 146 #[.int .u64 x] w fun e w' => e = .returned (.int .i64 (bl x.toNat)) ∧ w' = w := by
 have h0 := hx.lo
 have h1 := hx.hi
 rcases Int.lt_or_le x 4294967296 with c1 | c1
 ·rcases Int.lt_or_le x 65536 with c2 | c2
  ·rcases Int.lt_or_le x 256 with c3 | c3
   ·exact ox x w h0 h1 c1 c2 c3
   ·exact oy x w h0 h1 c1 c2 c3
  ·rcases Int.lt_or_le (x / 65536) 256 with c3 | c3
   ·exact oA x w h0 h1 c1 c2 c3
   ·exact oB x w h0 h1 c1 c2 c3
 ·rcases Int.lt_or_le (x / 4294967296) 65536 with c2 | c2
  ·rcases Int.lt_or_le (x / 4294967296) 256 with c3 | c3
   ·exact oC x w h0 h1 c1 c2 c3
   ·exact oD x w h0 h1 c1 c2 c3
  ·rcases Int.lt_or_le (x / 4294967296 / 65536) 256 with c3 | c3
   ·exact oE x w h0 h1 c1 c2 c3
   ·exact oF x w h0 h1 c1 c2 c3
theorem mc (x : Int) (w : World) (hx : IsWord x) :
  Calls prog 200 #[.int .u64 x] w fun e w' => e = .returned (.int .i64 (64 - bl x.toNat)) ∧ w' = w := by
 have h0 := hx.lo
 have h1 := hx.hi
 have hb := cq x.toNat (by omega)
 go_enter func200, ntmps200
 go_wp2_with (go_at_call 146; refine (cE _ _ hx).mono ?_; rintro e w' ⟨rfl, rfl⟩)
 go_ret
 exact ⟨rfl, rfl⟩
def renMul : Go.Shelf.Ren := ⟨fun | 264 => 182 | n => n, fun | 53 => 23 | 46 => 89 | n => n, fun | n => n⟩
theorem td : Go.Proofs.Lays.n264 prog renMul := {
 mixed := by kernel_rfl
 f264 := func182.trans (congrArg some (by kernel_rfl))
 t46 := underlying89
 a46 := Tryz.isAgg89
 z46 := Tryz.sizeOf89
 v46 := Tryz.zeroValue89
 t53 := underlying23
 a53 := Tryz.isAgg23
 z53 := Tryz.sizeOf23
 v53 := Tryz.zeroValue23 }
theorem iW (x y : Nat) (w : World) (hx : x < 18446744073709551616) (hy : y < 18446744073709551616) :
  Calls prog 182 #[.int .u64 x, .int .u64 y] w fun e w' => e = .returned (.tuple #[.int .u64 ((x * y / 18446744073709551616 : Nat) : Int), .int .u64 ((x * y % 18446744073709551616 : Nat) : Int)]) ∧ w' = w :=
 Any.bits_Mul64 td x y hx hy w
end Go.Proofs.YtjkiplndbcmmbaaGreatDoor
namespace Go.Proofs.YtjkiplndbcmmbaaGreatDoor
open Go.RowKit
def H : Nat := 4294967296
theorem kp {N Y1 Y0 L1 : Nat} (h1 : 2147483648 ≤ Y1) (hl : L1 < 4294967296) :
  (N * 4294967296 + L1) / (Y1 * 4294967296 + Y0) ≤ N / Y1 := by
 rw [Nat.le_div_iff_mul_le (by omega)]
 have h := Nat.div_mul_le_self (N * 4294967296 + L1) (Y1 * 4294967296 + Y0)
 generalize (N * 4294967296 + L1) / (Y1 * 4294967296 + Y0) = Q at *
 rw [Nat.mul_add, ← Nat.mul_assoc] at h
 generalize Q * Y1 = z at *
 omega
theorem dV {N Y1 Y0 L1 q r : Nat} (h1 : 2147483648 ≤ Y1) (hq : q * Y1 + r = N) (hle : (N * 4294967296 + L1) / (Y1 * 4294967296 + Y0) ≤ q) (ht : q * Y0 ≤ 4294967296 * r + L1) :
  q = (N * 4294967296 + L1) / (Y1 * 4294967296 + Y0) := by
 apply Nat.le_antisymm _ hle
 rw [Nat.le_div_iff_mul_le (by omega), Nat.mul_add, ← Nat.mul_assoc, ← hq]
 generalize q * Y1 = z at *
 omega
theorem cj {N Y1 Y0 L1 q r : Nat} (h1 : 2147483648 ≤ Y1) (hq : q * Y1 + r = N) (hN : N < Y1 * 4294967296 + Y0) (hl : L1 < 4294967296) (ht : 4294967296 ≤ q ∨ 4294967296 * r + L1 < q * Y0) :
  (N * 4294967296 + L1) / (Y1 * 4294967296 + Y0) + 1 ≤ q := by
 apply Nat.succ_le_of_lt
 rw [Nat.div_lt_iff_lt_mul (by omega)]
 rcases ht with ht | ht
 ·have : 4294967296 * (Y1 * 4294967296 + Y0) ≤ q * (Y1 * 4294967296 + Y0) := Nat.mul_le_mul_right _ ht
  omega
 ·rw [Nat.mul_add, ← Nat.mul_assoc]
  generalize q * Y1 = z at *
  omega
theorem bM {N Y1 Y0 L1 q r : Nat} (h1 : 2147483648 ≤ Y1) (hq : q * Y1 + r = N) (hN : N < Y1 * 4294967296 + Y0) (h0 : Y0 < 4294967296) (hle : (N * 4294967296 + L1) / (Y1 * 4294967296 + Y0) ≤ q) (hr : 4294967296 ≤ r) :
  q = (N * 4294967296 + L1) / (Y1 * 4294967296 + Y0) := by
 apply dV h1 hq hle
 have hq32 : q < 4294967296 := by
  rcases Nat.lt_or_ge q 4294967296 with c | c
  ·exact c
  ·have := Nat.mul_le_mul_right Y1 c
   omega
 have : q * Y0 ≤ 4294967296 * 4294967295 := Nat.mul_le_mul (by omega) (by omega)
 omega
theorem ki {N Y L1 : Nat} (hN : N < Y) (hl : L1 < 4294967296) : (N * 4294967296 + L1) / Y < 4294967296 := by
 apply Nat.div_lt_of_lt_mul
 have : (N + 1) * 4294967296 ≤ Y * 4294967296 := Nat.mul_le_mul_right _ hN
 omega
theorem iw {N Y L1 L0 : Nat} (hY : 0 < Y) (hN : N < Y) (h1 : L1 < 4294967296) (h0 : L0 < 4294967296) :
  (N * 18446744073709551616 + (L1 * 4294967296 + L0)) / Y = (N * 4294967296 + L1) / Y * 4294967296 + ((N * 4294967296 + L1) % Y * 4294967296 + L0) / Y ∧
  (N * 18446744073709551616 + (L1 * 4294967296 + L0)) % Y = ((N * 4294967296 + L1) % Y * 4294967296 + L0) % Y := by
 have e : N * 18446744073709551616 + (L1 * 4294967296 + L0) = ((N * 4294967296 + L1) % Y * 4294967296 + L0) + Y * ((N * 4294967296 + L1) / Y * 4294967296) := by
  have h := Nat.div_add_mod (N * 4294967296 + L1) Y
  rw [← Nat.mul_assoc]
  generalize Y * ((N * 4294967296 + L1) / Y) = a at *
  omega
 rw [e, Nat.add_mul_div_left _ _ hY, Nat.add_mul_mod_self_left]
 exact ⟨Nat.add_comm _ _, rfl⟩
theorem iT {N Y L1 Q : Nat} (hY : Y < 18446744073709551616) (hQ : Q = (N * 4294967296 + L1) / Y) (h : 0 < Y) :
  IntKind.u64.wrap (IntKind.u64.wrap (IntKind.u64.wrap ((N : Int) * 4294967296) + (L1 : Int)) - IntKind.u64.wrap ((Q : Int) * (Y : Int))) = (((N * 4294967296 + L1) % Y : Nat) : Int) := by
 have hm := Nat.div_add_mod (N * 4294967296 + L1) Y
 have hl := Nat.mod_lt (N * 4294967296 + L1) h
 rw [← hQ] at hm
 rw [show (Q : Int) * (Y : Int) = ((Y * Q : Nat) : Int) by rw [Int.natCast_mul, Int.mul_comm]]
 generalize Y * Q = a at *
 generalize (N * 4294967296 + L1) % Y = b at *
 simp only [IntKind.wrap_u64]
 omega
theorem kN {a b : Nat} (ha : a < 4294967296) (hb : b < 4294967296) : a * b < 18446744073709551616 := by
 have : a * b ≤ 4294967295 * 4294967295 := Nat.mul_le_mul (by omega) (by omega)
 omega
theorem fL {a b : Nat} (ha : a < 4294967296) (hb : b < 4294967296) : IntKind.u64.wrap ((a : Int) * (b : Int)) = ((a * b : Nat) : Int) := by
 have := kN ha hb
 rw [← Int.natCast_mul, IntKind.wrap_u64]
 omega
theorem ye {a b : Nat} (ha : a < 18446744073709551616) : IntKind.u64.wrap ((a : Int).tdiv (b : Int)) = ((a / b : Nat) : Int) := by
 have : a / b ≤ a := Nat.div_le_self _ _
 rw [← Int.ofNat_tdiv, IntKind.wrap_u64]
 generalize a / b = c at *
 omega
theorem gd {a b : Nat} (ha : a < 18446744073709551616) : IntKind.u64.wrap ((a : Int) / (b : Int)) = ((a / b : Nat) : Int) := by
 have : a / b ≤ a := Nat.div_le_self _ _
 rw [← Int.natCast_ediv, IntKind.wrap_u64]
 generalize a / b = c at *
 omega
theorem jd {a b : Nat} (ha : a < 18446744073709551616) : IntKind.u64.wrap ((a : Int) - IntKind.u64.wrap (((a / b : Nat) : Int) * (b : Int))) = ((a % b : Nat) : Int) := by
 have h := Nat.div_add_mod a b
 rw [← Int.natCast_mul, Nat.mul_comm]
 generalize b * (a / b) = c at *
 generalize a % b = d at *
 simp only [IntKind.wrap_u64]
 omega
theorem uJ (a : Nat) (ha : a < 18446744073709551616) : bits .and .u64 (a : Int) 4294967295 = ((a % 4294967296 : Nat) : Int) := by
 have h := bits_and_u64_nat a 4294967295 ha (by omega)
 have e : a &&& 4294967295 = a % 4294967296 := Nat.and_two_pow_sub_one_eq_mod a 32
 rw [e] at h
 exact h
theorem oQ {y : Nat} (h : 0 < y) (hy : y < 18446744073709551616) : 2 ^ bl y * 2 ^ (64 - bl y) = 18446744073709551616 ∧ y < 2 ^ bl y ∧ 2 ^ bl y ≤ 2 * y := by
 have hb := cq y hy
 refine ⟨?_, (cH y _).1 (Nat.le_refl _), ?_⟩
 ·rw [← Nat.pow_add, show bl y + (64 - bl y) = 64 by omega]
 ·have hpos : 0 < bl y := by
   rcases Nat.eq_zero_or_pos (bl y) with c | c
   ·have := (cH y 0).1 (by omega); simp at this; omega
   ·exact c
  rcases Nat.lt_or_ge y (2 ^ (bl y - 1)) with c | c
  ·have := (cH y _).2 c; omega
  ·have : 2 ^ bl y = 2 * 2 ^ (bl y - 1) := by rw [← Nat.pow_succ']; congr 1; omega
   omega
structure Begun (hi lo y Y N L : Nat) : Prop where
 eY : IntKind.u64.wrap ((y : Int) * 2 ^ (64 - bl y)) = (Y : Int)
 eN : bits .or .u64 (IntKind.u64.wrap ((hi : Int) * 2 ^ (64 - bl y))) ((lo : Int) / 2 ^ (64 - (64 - bl y))) = (N : Int)
 eL : IntKind.u64.wrap ((lo : Int) * 2 ^ (64 - bl y)) = (L : Int)
 Ylo : 9223372036854775808 ≤ Y
 Yhi : Y < 18446744073709551616
 hL : L < 18446744073709551616
 hN : N < Y
 quo : (N * 18446744073709551616 + L) / Y = (hi * 18446744073709551616 + lo) / y
 rem : (N * 18446744073709551616 + L) % Y / 2 ^ (64 - bl y) = (hi * 18446744073709551616 + lo) % y
theorem du (k : Nat) : ((2 : Int) ^ k) = ((2 ^ k : Nat) : Int) := by simp
theorem nL {hi lo y : Nat} (h1 : hi < y) (h2 : y < 18446744073709551616) (h3 : lo < 18446744073709551616) : ∃ Y N L, Begun hi lo y Y N L := by
 obtain ⟨e, l, g⟩ := oQ (y := y) (by omega) h2
 have hb := cq y h2
 have ex : 64 - (64 - bl y) = bl y := by omega
 have hP : 0 < 2 ^ (64 - bl y) := Nat.pow_pos (by decide)
 have hQ : 0 < 2 ^ bl y := Nat.pow_pos (by decide)
 have hYlt : y * 2 ^ (64 - bl y) < 18446744073709551616 := by rw [← e]; exact Nat.mul_lt_mul_of_pos_right l hP
 have hYge : 18446744073709551616 ≤ 2 * (y * 2 ^ (64 - bl y)) := by rw [← e, ← Nat.mul_assoc]; exact Nat.mul_le_mul_right _ g
 have hHlt : hi * 2 ^ (64 - bl y) < y * 2 ^ (64 - bl y) := Nat.mul_lt_mul_of_pos_right h1 hP
 have hlo : lo / 2 ^ bl y < 2 ^ (64 - bl y) := Nat.div_lt_of_lt_mul (by rw [e]; exact h3)
 have elo : lo * 2 ^ (64 - bl y) = lo / 2 ^ bl y * 18446744073709551616 + lo * 2 ^ (64 - bl y) % 18446744073709551616 := by
  have : lo * 2 ^ (64 - bl y) / 18446744073709551616 = lo / 2 ^ bl y := by rw [← e, Nat.mul_div_mul_right _ _ hP]
  have hd := Nat.div_add_mod (lo * 2 ^ (64 - bl y)) 18446744073709551616
  rw [this] at hd
  omega
 have eU : (hi * 2 ^ (64 - bl y) + lo / 2 ^ bl y) * 18446744073709551616 + lo * 2 ^ (64 - bl y) % 18446744073709551616 = (hi * 18446744073709551616 + lo) * 2 ^ (64 - bl y) := by
  rw [Nat.add_mul, Nat.add_mul, Nat.mul_right_comm hi 18446744073709551616]
  omega
 refine ⟨y * 2 ^ (64 - bl y), hi * 2 ^ (64 - bl y) + lo / 2 ^ bl y, lo * 2 ^ (64 - bl y) % 18446744073709551616, ?_, ?_, ?_, by omega, hYlt, Nat.mod_lt _ (by decide), ?_, ?_, ?_⟩
 ·rw [du, ← Int.natCast_mul, IntKind.wrap_u64]; omega
 ·rw [ex, du, du, ← Int.natCast_mul, ← Int.natCast_ediv]
  rw [show IntKind.u64.wrap ((hi * 2 ^ (64 - bl y) : Nat) : Int) = ((hi * 2 ^ (64 - bl y) : Nat) : Int) by rw [IntKind.wrap_u64]; omega]
  rw [bits_or_u64_nat _ _ (by omega) (Nat.lt_of_le_of_lt (Nat.div_le_self _ _) h3)]
  have := Nat.two_pow_add_eq_or_of_lt hlo hi
  rw [Nat.mul_comm hi, ← this]
 ·rw [du, ← Int.natCast_mul, IntKind.wrap_u64]; omega
 ·have : (hi + 1) * 2 ^ (64 - bl y) ≤ y * 2 ^ (64 - bl y) := Nat.mul_le_mul_right _ h1
  rw [Nat.add_mul, Nat.one_mul] at this
  omega
 ·rw [eU, Nat.mul_div_mul_right _ _ hP]
 ·rw [eU, Nat.mul_mod_mul_right, Nat.mul_div_cancel _ hP]
end Go.Proofs.YtjkiplndbcmmbaaGreatDoor
namespace Go.Proofs.YtjkiplndbcmmbaaGreatDoor
open Tryz
open Go.RowKit
theorem nY (hi lo y : Nat) (w : World) (h1 : hi < y) (h2 : y ≤ 18446744073709551615) (h3 : lo ≤ 18446744073709551615) (h0 : 0 < hi) :
  Calls prog 183 #[.int .u64 hi, .int .u64 lo, .int .u64 y] w fun e w' => e = .returned (.tuple #[.int .u64 (((hi * 18446744073709551616 + lo) / y : Nat) : Int), .int .u64 (((hi * 18446744073709551616 + lo) % y : Nat) : Int)]) ∧ w' = w := by
 have c0 : ((y : Int) == 0) = false := beq_eq_false_iff_ne.2 (by omega)
 have c1 : ((hi : Int) == 0) = false := beq_eq_false_iff_ne.2 (by omega)
 have c2 : ¬ (y : Int) ≤ hi := by omega
 have hb : bl y ≤ 64 := cq y (by omega)
 obtain ⟨Y, N, L, eY, eN, eL, Ylo, Yhi, hL, hN, quo, rem⟩ := nL h1 (by omega : y < 18446744073709551616) (by omega : lo < 18446744073709551616)
 obtain ⟨Y1, hY1⟩ : ∃ x, x = Y / 4294967296 := ⟨_, rfl⟩
 obtain ⟨Y0, hY0⟩ : ∃ x, x = Y % 4294967296 := ⟨_, rfl⟩
 obtain ⟨L1, hL1⟩ : ∃ x, x = L / 4294967296 := ⟨_, rfl⟩
 obtain ⟨L0, hL0⟩ : ∃ x, x = L % 4294967296 := ⟨_, rfl⟩
 have YY : Hid (Y = Y1 * 4294967296 + Y0) := by show Y = _; omega
 have LL : Hid (L = L1 * 4294967296 + L0) := by show L = _; omega
 have eY1 : (Y : Int) / 4294967296 = (Y1 : Int) := by omega
 have eY0 : bits .and .u64 (Y : Int) 4294967295 = (Y0 : Int) := by rw [hY0]; exact uJ Y Yhi
 have eL1 : (L : Int) / 4294967296 = (L1 : Int) := by omega
 have eL0 : bits .and .u64 (L : Int) 4294967295 = (L0 : Int) := by rw [hL0]; exact uJ L hL
 have b1 : Hid (2147483648 ≤ Y1) := by show 2147483648 ≤ Y1; omega
 have b1i : 2147483648 ≤ (Y1 : Int) := by have := b1.out; omega
 have b2 : Hid (Y1 < 4294967296) := by show Y1 < 4294967296; omega
 have b2i : (Y1 : Int) < 4294967296 := by have := b2.out; omega
 have b3 : Hid (Y0 < 4294967296) := by show Y0 < 4294967296; omega
 have b3i : (Y0 : Int) < 4294967296 := by have := b3.out; omega
 have b4 : Hid (L1 < 4294967296) := by show L1 < 4294967296; omega
 have b4i : (L1 : Int) < 4294967296 := by have := b4.out; omega
 have b5 : Hid (L0 < 4294967296) := by show L0 < 4294967296; omega
 have b5i : (L0 : Int) < 4294967296 := by have := b5.out; omega
 have b6 : ¬ (Y1 : Int) = 0 := by omega
 have eq1 : IntKind.u64.wrap ((N : Int) / (Y1 : Int)) = ((N / Y1 : Nat) : Int) := gd (by omega)
 have er1 : IntKind.u64.wrap ((N : Int) - IntKind.u64.wrap (((N / Y1 : Nat) : Int) * (Y1 : Int))) = ((N % Y1 : Nat) : Int) := jd (by omega)
 have HQ : Hid ((hi * 18446744073709551616 + lo) / y = (N * 18446744073709551616 + L) / Y) := quo.symm
 have HR : Hid ((hi * 18446744073709551616 + lo) % y = (N * 18446744073709551616 + L) % Y / 2 ^ (64 - bl y)) := rem.symm
 obtain ⟨q, hq⟩ : ∃ x, x = N / Y1 := ⟨_, rfl⟩
 obtain ⟨r, hr⟩ : ∃ x, x = N % Y1 := ⟨_, rfl⟩
 rw [← hq] at eq1 er1
 rw [← hr] at er1
 obtain ⟨Q1, hQ1⟩ : ∃ x, x = (N * 4294967296 + L1) / (Y1 * 4294967296 + Y0) := ⟨_, rfl⟩
 have i1 : q * Y1 + r = N := by rw [hq, hr, Nat.mul_comm]; exact Nat.div_add_mod N Y1
 have i2 : Q1 ≤ q := by rw [hq, hQ1]; exact kp b1.out b4.out
 have i3 : (r : Int) < 4294967296 := by have := Nat.mod_lt N (show 0 < Y1 by omega); omega
 have i4' : q < 8589934592 := by rw [hq]; apply Nat.div_lt_of_lt_mul; have : 2147483648 * 8589934592 ≤ Y1 * 8589934592 := Nat.mul_le_mul_right _ b1.out; omega
 have i4 : (q : Int) < 8589934592 := by omega
 have I1 : Hid (q * Y1 + r = N) := i1
 have HQ1 : Hid (Q1 = (N * 4294967296 + L1) / (Y1 * 4294967296 + Y0)) := hQ1
 have HN : Hid (N < Y1 * 4294967296 + Y0) := by show N < _; have := YY.out; omega
 -- the second half
 obtain ⟨R1, hR1⟩ : ∃ x, x = (N * 4294967296 + L1) % Y := ⟨_, rfl⟩
 have YY' : Y1 * 4294967296 + Y0 = Y := YY.out.symm
 have kU : Hid (IntKind.u64.wrap (IntKind.u64.wrap (IntKind.u64.wrap ((N : Int) * 4294967296) + (L1 : Int)) - IntKind.u64.wrap ((Q1 : Int) * (Y : Int))) = (R1 : Int)) := by rw [hR1]; exact iT Yhi (by rw [hQ1, YY']) (by omega)
 have lR1 : R1 < Y := by rw [hR1]; exact Nat.mod_lt _ (by omega)
 have lR1i : (R1 : Int) < (Y : Int) := by omega
 obtain ⟨q2, hq2⟩ : ∃ x, x = R1 / Y1 := ⟨_, rfl⟩
 obtain ⟨r2, hr2⟩ : ∃ x, x = R1 % Y1 := ⟨_, rfl⟩
 have kq2 : Hid (IntKind.u64.wrap ((R1 : Int) / (Y1 : Int)) = (q2 : Int)) := by rw [hq2]; exact gd (by omega)
 have kr2 : Hid (IntKind.u64.wrap ((R1 : Int) - IntKind.u64.wrap ((q2 : Int) * (Y1 : Int))) = (r2 : Int)) := by rw [hq2, hr2]; exact jd (by omega)
 obtain ⟨Q0, hQ0⟩ : ∃ x, x = (R1 * 4294967296 + L0) / (Y1 * 4294967296 + Y0) := ⟨_, rfl⟩
 have J1 : Hid (q2 * Y1 + r2 = R1) := by show q2 * Y1 + r2 = R1; rw [hq2, hr2, Nat.mul_comm]; exact Nat.div_add_mod R1 Y1
 have j2 : Q0 ≤ q2 := by rw [hq2, hQ0]; exact kp b1.out b5.out
 have j3 : (r2 : Int) < 4294967296 := by have := Nat.mod_lt R1 (show 0 < Y1 by have := b1.out; omega); have := b2.out; omega
 have j4' : q2 < 8589934592 := by rw [hq2]; apply Nat.div_lt_of_lt_mul; have : 2147483648 * 8589934592 ≤ Y1 * 8589934592 := Nat.mul_le_mul_right _ b1.out; omega
 have j4 : (q2 : Int) < 8589934592 := by omega
 obtain ⟨R0, hR0⟩ : ∃ x, x = (R1 * 4294967296 + L0) % Y := ⟨_, rfl⟩
 have kF : Hid (IntKind.u64.wrap (IntKind.u64.wrap (IntKind.u64.wrap ((R1 : Int) * 4294967296) + (L0 : Int)) - IntKind.u64.wrap ((Q0 : Int) * (Y : Int))) = (R0 : Int)) := by rw [hR0]; exact iT Yhi (by rw [hQ0, YY']) (by omega)
 have HQ0 : Hid (Q0 = (R1 * 4294967296 + L0) / (Y1 * 4294967296 + Y0)) := hQ0
 have HR1 : Hid (R1 < Y1 * 4294967296 + Y0) := by show R1 < _; omega
 have lQ1 : (Q1 : Int) < 4294967296 := by have := ki HN.out b4.out; rw [hQ1]; omega
 have lQ0 : (Q0 : Int) < 4294967296 := by have := ki HR1.out b5.out; rw [hQ0]; omega
 have fQ : Hid ((Q1 : Int) * 4294967296 + (Q0 : Int) = (((hi * 18446744073709551616 + lo) / y : Nat) : Int)) := by
  show _ = _
  rw [HQ.out, LL.out, (iw (by omega) hN b4.out b5.out).1, ← hR1, hQ1, hQ0, YY']
  omega
 have fR : Hid ((R0 : Int) / 2 ^ (64 - bl y) = (((hi * 18446744073709551616 + lo) % y : Nat) : Int)) := by
  show _ = _
  rw [HR.out, LL.out, (iw (by omega) hN b4.out b5.out).2, ← hR1, ← hR0, du, Int.natCast_ediv]
 clear i4' quo rem hY1 hY0 hL1 hL0 hq hr hQ1 i1 YY' hR1 lR1 hq2 hr2 hQ0 j4' hR0
 go_enter func183, ntmps183
 go_wp2_with (go_at_call 200; refine (mc _ _ ⟨by omega, by omega⟩).mono ?_; rintro e w' ⟨rfl, rfl⟩)
 clear eY eN eL eY1 eY0 eL1 eL0 eq1 er1
 go_loop [15, 16] (fun a b => ∃ q r : Nat, a = .int .u64 q ∧ b = .int .u64 r ∧ Hid (q * Y1 + r = N) ∧ Q1 ≤ q ∧ (q : Int) < 8589934592 ∧ (r : Int) < 4294967296) (fun a _ => (intOf a).toNat)
 case atStart => exact ⟨q, r, rfl, rfl, I1, i2, i4, i3⟩
 case round =>
  clear i2 i3 i4 I1
  obtain ⟨p, s, rfl, rfl, I1, i2, i4, i3⟩ := hrel
  by_cases t1 : (4294967296 : Int) ≤ (p : Int)
  ·have j1 : Q1 + 1 ≤ p := by rw [HQ1.out]; exact cj b1.out I1.out HN.out b4.out (Or.inl (by omega))
   by_cases t3 : (4294967296 : Int) ≤ (s : Int) + (Y1 : Int)
   ·have hp : (p : Int) - 1 = (Q1 : Int) := by
     have := bM (L1 := L1) (q := p - 1) (r := s + Y1) b1.out (by
      have := I1.out
      have e : p * Y1 = (p - 1) * Y1 + Y1 := by rw [← Nat.succ_mul]; congr 1; omega
      omega) HN.out b3.out (by rw [← HQ1.out]; omega) (by omega)
     rw [← HQ1.out] at this
     omega
    have eU := kU.out
    have eq2 := kq2.out
    have er2 := kr2.out
    go_wp2
    clear eU eq2 er2
    go_loop [18, 16] (fun a b => ∃ q r : Nat, a = .int .u64 q ∧ b = .int .u64 r ∧ Hid (q * Y1 + r = R1) ∧ Q0 ≤ q ∧ (q : Int) < 8589934592 ∧ (r : Int) < 4294967296) (fun a _ => (intOf a).toNat)
    case atStart => exact ⟨q2, r2, rfl, rfl, J1, j2, j4, j3⟩
    case round =>
     clear j2 j3 j4 J1 t1 t3 j1 hp i2 i3 i4 I1
     obtain ⟨p, s, rfl, rfl, I1, i2, i4, i3⟩ := hrel
     by_cases t1 : (4294967296 : Int) ≤ (p : Int)
     ·have j1 : Q0 + 1 ≤ p := by rw [HQ0.out]; exact cj b1.out I1.out HR1.out b5.out (Or.inl (by omega))
      by_cases t3 : (4294967296 : Int) ≤ (s : Int) + (Y1 : Int)
      ·have hp : (p : Int) - 1 = (Q0 : Int) := by
        have := bM (L1 := L0) (q := p - 1) (r := s + Y1) b1.out (by
         have := I1.out
         have e : p * Y1 = (p - 1) * Y1 + Y1 := by rw [← Nat.succ_mul]; congr 1; omega
         omega) HR1.out b3.out (by rw [← HQ0.out]; omega) (by omega)
        rw [← HQ0.out] at this
        omega
       have eF := kF.out
       go_wp2
       rw [fQ.out, fR.out]
       go_ret2
       exact ⟨rfl, rfl⟩
      ·have I2 : Hid ((p - 1) * Y1 + (s + Y1) = R1) := by
        show (p - 1) * Y1 + (s + Y1) = R1
        have := I1.out
        have e : p * Y1 = (p - 1) * Y1 + Y1 := by rw [← Nat.succ_mul]; congr 1; omega
        omega
       go_wp2
       go_round
       case rel => exact ⟨p - 1, s + Y1, by go_num, by go_num, I2, by omega, by omega, by omega⟩
       case measure => simp [intOf]; omega
     ·obtain ⟨A, hA⟩ : ∃ x, x = p * Y0 := ⟨_, rfl⟩
      have eA : IntKind.u64.wrap ((p : Int) * (Y0 : Int)) = (A : Int) := by rw [hA]; exact fL (by omega) b3.out
      have hA2 : Hid (A = p * Y0) := hA
      clear hA
      by_cases t2 : 4294967296 * (s : Int) + (L0 : Int) < (A : Int)
      ·have j1 : Q0 + 1 ≤ p := by rw [HQ0.out]; exact cj b1.out I1.out HR1.out b5.out (Or.inr (by rw [← hA2.out]; omega))
       by_cases t3 : (4294967296 : Int) ≤ (s : Int) + (Y1 : Int)
       ·have hp : (p : Int) - 1 = (Q0 : Int) := by
         have := bM (L1 := L0) (q := p - 1) (r := s + Y1) b1.out (by
          have := I1.out
          have e : p * Y1 = (p - 1) * Y1 + Y1 := by rw [← Nat.succ_mul]; congr 1; omega
          omega) HR1.out b3.out (by rw [← HQ0.out]; omega) (by omega)
         rw [← HQ0.out] at this
         omega
        have eF := kF.out
        go_wp2
        rw [fQ.out, fR.out]
        go_ret2
        exact ⟨rfl, rfl⟩
       ·have I2 : Hid ((p - 1) * Y1 + (s + Y1) = R1) := by
         show (p - 1) * Y1 + (s + Y1) = R1
         have := I1.out
         have e : p * Y1 = (p - 1) * Y1 + Y1 := by rw [← Nat.succ_mul]; congr 1; omega
         omega
        go_wp2
        go_round
        case rel => exact ⟨p - 1, s + Y1, by go_num, by go_num, I2, by omega, by omega, by omega⟩
        case measure => simp [intOf]; omega
      ·have hp : p = Q0 := by rw [HQ0.out]; exact dV b1.out I1.out (by rw [← HQ0.out]; exact i2) (by rw [← hA2.out]; omega)
       subst hp
       have eF := kF.out
       go_wp2
       rw [fQ.out, fR.out]
       go_ret2
       exact ⟨rfl, rfl⟩
   ·have I2 : Hid ((p - 1) * Y1 + (s + Y1) = N) := by
     show (p - 1) * Y1 + (s + Y1) = N
     have := I1.out
     have e : p * Y1 = (p - 1) * Y1 + Y1 := by rw [← Nat.succ_mul]; congr 1; omega
     omega
    go_wp2
    go_round
    case rel => exact ⟨p - 1, s + Y1, by go_num, by go_num, I2, by omega, by omega, by omega⟩
    case measure => simp [intOf]; omega
  ·obtain ⟨A, hA⟩ : ∃ x, x = p * Y0 := ⟨_, rfl⟩
   have eA : IntKind.u64.wrap ((p : Int) * (Y0 : Int)) = (A : Int) := by rw [hA]; exact fL (by omega) b3.out
   have hA2 : Hid (A = p * Y0) := hA
   clear hA
   by_cases t2 : 4294967296 * (s : Int) + (L1 : Int) < (A : Int)
   ·have j1 : Q1 + 1 ≤ p := by rw [HQ1.out]; exact cj b1.out I1.out HN.out b4.out (Or.inr (by rw [← hA2.out]; omega))
    by_cases t3 : (4294967296 : Int) ≤ (s : Int) + (Y1 : Int)
    ·have hp : (p : Int) - 1 = (Q1 : Int) := by
      have := bM (L1 := L1) (q := p - 1) (r := s + Y1) b1.out (by
       have := I1.out
       have e : p * Y1 = (p - 1) * Y1 + Y1 := by rw [← Nat.succ_mul]; congr 1; omega
       omega) HN.out b3.out (by rw [← HQ1.out]; omega) (by omega)
      rw [← HQ1.out] at this
      omega
     have eU := kU.out
     have eq2 := kq2.out
     have er2 := kr2.out
     go_wp2
     clear eU eq2 er2
     go_loop [18, 16] (fun a b => ∃ q r : Nat, a = .int .u64 q ∧ b = .int .u64 r ∧ Hid (q * Y1 + r = R1) ∧ Q0 ≤ q ∧ (q : Int) < 8589934592 ∧ (r : Int) < 4294967296) (fun a _ => (intOf a).toNat)
     case atStart => exact ⟨q2, r2, rfl, rfl, J1, j2, j4, j3⟩
     case round =>
      clear j2 j3 j4 J1 t1 t3 j1 hp i2 i3 i4 I1
      obtain ⟨p, s, rfl, rfl, I1, i2, i4, i3⟩ := hrel
      by_cases t1 : (4294967296 : Int) ≤ (p : Int)
      ·have j1 : Q0 + 1 ≤ p := by rw [HQ0.out]; exact cj b1.out I1.out HR1.out b5.out (Or.inl (by omega))
       by_cases t3 : (4294967296 : Int) ≤ (s : Int) + (Y1 : Int)
       ·have hp : (p : Int) - 1 = (Q0 : Int) := by
         have := bM (L1 := L0) (q := p - 1) (r := s + Y1) b1.out (by
          have := I1.out
          have e : p * Y1 = (p - 1) * Y1 + Y1 := by rw [← Nat.succ_mul]; congr 1; omega
          omega) HR1.out b3.out (by rw [← HQ0.out]; omega) (by omega)
         rw [← HQ0.out] at this
         omega
        have eF := kF.out
        go_wp2
        rw [fQ.out, fR.out]
        go_ret2
        exact ⟨rfl, rfl⟩
       ·have I2 : Hid ((p - 1) * Y1 + (s + Y1) = R1) := by
         show (p - 1) * Y1 + (s + Y1) = R1
         have := I1.out
         have e : p * Y1 = (p - 1) * Y1 + Y1 := by rw [← Nat.succ_mul]; congr 1; omega
         omega
        go_wp2
        go_round
        case rel => exact ⟨p - 1, s + Y1, by go_num, by go_num, I2, by omega, by omega, by omega⟩
        case measure => simp [intOf]; omega
      ·obtain ⟨A, hA⟩ : ∃ x, x = p * Y0 := ⟨_, rfl⟩
       have eA : IntKind.u64.wrap ((p : Int) * (Y0 : Int)) = (A : Int) := by rw [hA]; exact fL (by omega) b3.out
       have hA2 : Hid (A = p * Y0) := hA
       clear hA
       by_cases t2 : 4294967296 * (s : Int) + (L0 : Int) < (A : Int)
       ·have j1 : Q0 + 1 ≤ p := by rw [HQ0.out]; exact cj b1.out I1.out HR1.out b5.out (Or.inr (by rw [← hA2.out]; omega))
        by_cases t3 : (4294967296 : Int) ≤ (s : Int) + (Y1 : Int)
        ·have hp : (p : Int) - 1 = (Q0 : Int) := by
          have := bM (L1 := L0) (q := p - 1) (r := s + Y1) b1.out (by
           have := I1.out
           have e : p * Y1 = (p - 1) * Y1 + Y1 := by rw [← Nat.succ_mul]; congr 1; omega
           omega) HR1.out b3.out (by rw [← HQ0.out]; omega) (by omega)
          rw [← HQ0.out] at this
          omega
         have eF := kF.out
         go_wp2
         rw [fQ.out, fR.out]
         go_ret2
         exact ⟨rfl, rfl⟩
        ·have I2 : Hid ((p - 1) * Y1 + (s + Y1) = R1) := by
          show (p - 1) * Y1 + (s + Y1) = R1
          have := I1.out
          have e : p * Y1 = (p - 1) * Y1 + Y1 := by rw [← Nat.succ_mul]; congr 1; omega
          omega
         go_wp2
         go_round
         case rel => exact ⟨p - 1, s + Y1, by go_num, by go_num, I2, by omega, by omega, by omega⟩
         case measure => simp [intOf]; omega
       ·have hp : p = Q0 := by rw [HQ0.out]; exact dV b1.out I1.out (by rw [← HQ0.out]; exact i2) (by rw [← hA2.out]; omega)
        subst hp
        have eF := kF.out
        go_wp2
        rw [fQ.out, fR.out]
        go_ret2
        exact ⟨rfl, rfl⟩
    ·have I2 : Hid ((p - 1) * Y1 + (s + Y1) = N) := by
      show (p - 1) * Y1 + (s + Y1) = N
      have := I1.out
      have e : p * Y1 = (p - 1) * Y1 + Y1 := by rw [← Nat.succ_mul]; congr 1; omega
      omega
     go_wp2
     go_round
     case rel => exact ⟨p - 1, s + Y1, by go_num, by go_num, I2, by omega, by omega, by omega⟩
     case measure => simp [intOf]; omega
   ·have hp : p = Q1 := by rw [HQ1.out]; exact dV b1.out I1.out (by rw [← HQ1.out]; exact i2) (by rw [← hA2.out]; omega)
    subst hp
    have eU := kU.out
    have eq2 := kq2.out
    have er2 := kr2.out
    go_wp2
    clear eU eq2 er2
    go_loop [18, 16] (fun a b => ∃ q r : Nat, a = .int .u64 q ∧ b = .int .u64 r ∧ Hid (q * Y1 + r = R1) ∧ Q0 ≤ q ∧ (q : Int) < 8589934592 ∧ (r : Int) < 4294967296) (fun a _ => (intOf a).toNat)
    case atStart => exact ⟨q2, r2, rfl, rfl, J1, j2, j4, j3⟩
    case round =>
     clear j2 j3 j4 J1 t1 t2 i2 i3 i4 I1 eA hA2
     obtain ⟨p, s, rfl, rfl, I1, i2, i4, i3⟩ := hrel
     by_cases t1 : (4294967296 : Int) ≤ (p : Int)
     ·have j1 : Q0 + 1 ≤ p := by rw [HQ0.out]; exact cj b1.out I1.out HR1.out b5.out (Or.inl (by omega))
      by_cases t3 : (4294967296 : Int) ≤ (s : Int) + (Y1 : Int)
      ·have hp : (p : Int) - 1 = (Q0 : Int) := by
        have := bM (L1 := L0) (q := p - 1) (r := s + Y1) b1.out (by
         have := I1.out
         have e : p * Y1 = (p - 1) * Y1 + Y1 := by rw [← Nat.succ_mul]; congr 1; omega
         omega) HR1.out b3.out (by rw [← HQ0.out]; omega) (by omega)
        rw [← HQ0.out] at this
        omega
       have eF := kF.out
       go_wp2
       rw [fQ.out, fR.out]
       go_ret2
       exact ⟨rfl, rfl⟩
      ·have I2 : Hid ((p - 1) * Y1 + (s + Y1) = R1) := by
        show (p - 1) * Y1 + (s + Y1) = R1
        have := I1.out
        have e : p * Y1 = (p - 1) * Y1 + Y1 := by rw [← Nat.succ_mul]; congr 1; omega
        omega
       go_wp2
       go_round
       case rel => exact ⟨p - 1, s + Y1, by go_num, by go_num, I2, by omega, by omega, by omega⟩
       case measure => simp [intOf]; omega
     ·obtain ⟨A, hA⟩ : ∃ x, x = p * Y0 := ⟨_, rfl⟩
      have eA : IntKind.u64.wrap ((p : Int) * (Y0 : Int)) = (A : Int) := by rw [hA]; exact fL (by omega) b3.out
      have hA2 : Hid (A = p * Y0) := hA
      clear hA
      by_cases t2 : 4294967296 * (s : Int) + (L0 : Int) < (A : Int)
      ·have j1 : Q0 + 1 ≤ p := by rw [HQ0.out]; exact cj b1.out I1.out HR1.out b5.out (Or.inr (by rw [← hA2.out]; omega))
       by_cases t3 : (4294967296 : Int) ≤ (s : Int) + (Y1 : Int)
       ·have hp : (p : Int) - 1 = (Q0 : Int) := by
         have := bM (L1 := L0) (q := p - 1) (r := s + Y1) b1.out (by
          have := I1.out
          have e : p * Y1 = (p - 1) * Y1 + Y1 := by rw [← Nat.succ_mul]; congr 1; omega
          omega) HR1.out b3.out (by rw [← HQ0.out]; omega) (by omega)
         rw [← HQ0.out] at this
         omega
        have eF := kF.out
        go_wp2
        rw [fQ.out, fR.out]
        go_ret2
        exact ⟨rfl, rfl⟩
       ·have I2 : Hid ((p - 1) * Y1 + (s + Y1) = R1) := by
         show (p - 1) * Y1 + (s + Y1) = R1
         have := I1.out
         have e : p * Y1 = (p - 1) * Y1 + Y1 := by rw [← Nat.succ_mul]; congr 1; omega
         omega
        go_wp2
        go_round
        case rel => exact ⟨p - 1, s + Y1, by go_num, by go_num, I2, by omega, by omega, by omega⟩
        case measure => simp [intOf]; omega
      ·have hp : p = Q0 := by rw [HQ0.out]; exact dV b1.out I1.out (by rw [← HQ0.out]; exact i2) (by rw [← hA2.out]; omega)
       subst hp
       have eF := kF.out
       go_wp2
       rw [fQ.out, fR.out]
       go_ret2
       exact ⟨rfl, rfl⟩
theorem qN (a b : Nat) (hb : b ≤ 1) : bits .or .u64 (IntKind.u64.wrap ((a : Int) * 2)) (b : Int) = (((2 * a + b) % B : Nat) : Int) := by
 have e : IntKind.u64.wrap ((a : Int) * 2) = ((2 * (a % 9223372036854775808) : Nat) : Int) := by rw [IntKind.wrap_u64]; omega
 rw [e, bits_or_u64_nat _ _ (by omega) (by omega)]
 have h := Nat.two_pow_add_eq_or_of_lt (i := 1) (b := b) (by omega) (a % 9223372036854775808)
 simp only [Nat.pow_one] at h
 rw [← h, dO]
 omega
theorem rI (m b : Nat) (hb : b ≤ 1) : bits .or .u64 (IntKind.u64.wrap (wd m 0 * 2)) (b : Int) = wd (2 * m + b) 0 := by
 rw [bH, qN _ _ hb]
 have := l8 m b 0 hb
 rw [oU] at this
 rw [this, bH]
theorem gC (m b i : Nat) (hb : b ≤ 1) : bits .or .u64 (IntKind.u64.wrap (wd m (i + 1) * 2)) (wd m i / 9223372036854775808) = wd (2 * m + b) (i + 1) := by
 have e : wd m i / 9223372036854775808 = ((sbit m b (i + 1) : Nat) : Int) := by rw [← rH m b i hb, bH]; omega
 rw [e, bH, qN _ _ (jM m b _ hb), l8 m b _ hb, bH]
theorem oV (m b : Nat) (a0 a1 a2 a3 a4 : Int) (w : World) (ha : IsW m a0 a1 a2 a3 a4) (hb : b ≤ 1) :
  Calls prog 150 #[.agg #[.int .u64 a0, .int .u64 a1, .int .u64 a2, .int .u64 a3, .int .u64 a4], .int .u64 b] w
   fun e w' => e = .returned (.agg #[.int .u64 (wd (2 * m + b) 0), .int .u64 (wd (2 * m + b) 1), .int .u64 (wd (2 * m + b) 2), .int .u64 (wd (2 * m + b) 3), .int .u64 (wd (2 * m + b) 4)]) ∧ Below w.heap.size w w' := by
 obtain ⟨rfl, rfl, rfl, rfl, rfl⟩ := ha
 obtain ⟨l0, g0⟩ := aS m 0
 obtain ⟨l1, g1⟩ := aS m 1
 obtain ⟨l2, g2⟩ := aS m 2
 obtain ⟨l3, g3⟩ := aS m 3
 obtain ⟨l4, g4⟩ := aS m 4
 go_enter func150, ntmps150
 go_wp2
 refine wp_loop_rounds 6 ?_
 iterate 5
  rw [rounds_succ]
  go_wp2
  go_region
  go_wp2
 rw [rounds_succ]
 go_wp2
 refine bodyPost_ret (v := .agg #[.int .u64 (bits .or .u64 (IntKind.u64.wrap (wd m 0 * 2)) (b : Int)), .int .u64 (bits .or .u64 (IntKind.u64.wrap (wd m 1 * 2)) (wd m 0 / 9223372036854775808)), .int .u64 (bits .or .u64 (IntKind.u64.wrap (wd m 2 * 2)) (wd m 1 / 9223372036854775808)), .int .u64 (bits .or .u64 (IntKind.u64.wrap (wd m 3 * 2)) (wd m 2 / 9223372036854775808)), .int .u64 (bits .or .u64 (IntKind.u64.wrap (wd m 4 * 2)) (wd m 3 / 9223372036854775808))]) (by simp [results, results150, go_sem]) rfl ⟨?_, ?_⟩
 ·rw [rI m b hb, gC m b 0 hb, gC m b 1 hb, gC m b 2 hb, gC m b 3 hb]
 ·repeat (first | exact Below.refl _ _ | refine Below.drew ?_ | refine below_drewN ?_ _ | refine ao ?_ _ | refine aA ?_ _ | (refine Below.setCell ?_ ?_ _; rotate_left; (simp <;> omega)))
theorem vv (m : Nat) (w : World) (h4 : (wd m 4 != 0) = true) :
  Calls prog 94 #[.agg #[.int .u64 (wd (m) 0), .int .u64 (wd (m) 1), .int .u64 (wd (m) 2), .int .u64 (wd (m) 3), .int .u64 (wd (m) 4)]] w
   fun e w' => e = .returned (.int .i64 (256 + bl (wd m 4).toNat)) ∧ Below w.heap.size w w' := by
 have hw := aS m 4
 have hb : bl (wd m 4).toNat ≤ 64 := cq _ (by have := hw.hi; have := hw.lo; omega)
 go_enter func94, ntmps94
 go_wp2
 refine wp_loop_rounds 6 ?_
 rw [rounds_succ]
 go_wp2_with (go_at_call 146; refine (cE _ _ hw).mono ?_; rintro e w' ⟨rfl, rfl⟩)
 go_ret
 refine ⟨rfl, ?_⟩
 repeat (first | exact Below.refl _ _ | refine Below.drew ?_ | refine below_drewN ?_ _ | refine ao ?_ _ | refine aA ?_ _ | (refine Below.setCell ?_ ?_ _; rotate_left; (simp <;> omega)))
theorem vu (m : Nat) (w : World) (h4 : (wd m 4 != 0) = false) (h3 : (wd m 3 != 0) = true) :
  Calls prog 94 #[.agg #[.int .u64 (wd (m) 0), .int .u64 (wd (m) 1), .int .u64 (wd (m) 2), .int .u64 (wd (m) 3), .int .u64 (wd (m) 4)]] w
   fun e w' => e = .returned (.int .i64 (192 + bl (wd m 3).toNat)) ∧ Below w.heap.size w w' := by
 have hw := aS m 3
 have hb : bl (wd m 3).toNat ≤ 64 := cq _ (by have := hw.hi; have := hw.lo; omega)
 go_enter func94, ntmps94
 go_wp2
 refine wp_loop_rounds 6 ?_
 iterate 1
  rw [rounds_succ]
  go_wp2
 rw [rounds_succ]
 go_wp2_with (go_at_call 146; refine (cE _ _ hw).mono ?_; rintro e w' ⟨rfl, rfl⟩)
 go_ret
 refine ⟨rfl, ?_⟩
 repeat (first | exact Below.refl _ _ | refine Below.drew ?_ | refine below_drewN ?_ _ | refine ao ?_ _ | refine aA ?_ _ | (refine Below.setCell ?_ ?_ _; rotate_left; (simp <;> omega)))
theorem vt (m : Nat) (w : World) (h4 : (wd m 4 != 0) = false) (h3 : (wd m 3 != 0) = false) (h2 : (wd m 2 != 0) = true) :
  Calls prog 94 #[.agg #[.int .u64 (wd (m) 0), .int .u64 (wd (m) 1), .int .u64 (wd (m) 2), .int .u64 (wd (m) 3), .int .u64 (wd (m) 4)]] w
   fun e w' => e = .returned (.int .i64 (128 + bl (wd m 2).toNat)) ∧ Below w.heap.size w w' := by
 have hw := aS m 2
 have hb : bl (wd m 2).toNat ≤ 64 := cq _ (by have := hw.hi; have := hw.lo; omega)
 go_enter func94, ntmps94
 go_wp2
 refine wp_loop_rounds 6 ?_
 iterate 2
  rw [rounds_succ]
  go_wp2
 rw [rounds_succ]
 go_wp2_with (go_at_call 146; refine (cE _ _ hw).mono ?_; rintro e w' ⟨rfl, rfl⟩)
 go_ret
 refine ⟨rfl, ?_⟩
 repeat (first | exact Below.refl _ _ | refine Below.drew ?_ | refine below_drewN ?_ _ | refine ao ?_ _ | refine aA ?_ _ | (refine Below.setCell ?_ ?_ _; rotate_left; (simp <;> omega)))
theorem vr (m : Nat) (w : World) (h4 : (wd m 4 != 0) = false) (h3 : (wd m 3 != 0) = false) (h2 : (wd m 2 != 0) = false) (h1 : (wd m 1 != 0) = true) :
  Calls prog 94 #[.agg #[.int .u64 (wd (m) 0), .int .u64 (wd (m) 1), .int .u64 (wd (m) 2), .int .u64 (wd (m) 3), .int .u64 (wd (m) 4)]] w
   fun e w' => e = .returned (.int .i64 (64 + bl (wd m 1).toNat)) ∧ Below w.heap.size w w' := by
 have hw := aS m 1
 have hb : bl (wd m 1).toNat ≤ 64 := cq _ (by have := hw.hi; have := hw.lo; omega)
 go_enter func94, ntmps94
 go_wp2
 refine wp_loop_rounds 6 ?_
 iterate 3
  rw [rounds_succ]
  go_wp2
 rw [rounds_succ]
 go_wp2_with (go_at_call 146; refine (cE _ _ hw).mono ?_; rintro e w' ⟨rfl, rfl⟩)
 go_ret
 refine ⟨rfl, ?_⟩
 repeat (first | exact Below.refl _ _ | refine Below.drew ?_ | refine below_drewN ?_ _ | refine ao ?_ _ | refine aA ?_ _ | (refine Below.setCell ?_ ?_ _; rotate_left; (simp <;> omega)))
theorem vq (m : Nat) (w : World) (h4 : (wd m 4 != 0) = false) (h3 : (wd m 3 != 0) = false) (h2 : (wd m 2 != 0) = false) (h1 : (wd m 1 != 0) = false) (h0 : (wd m 0 != 0) = true) :
  Calls prog 94 #[.agg #[.int .u64 (wd (m) 0), .int .u64 (wd (m) 1), .int .u64 (wd (m) 2), .int .u64 (wd (m) 3), .int .u64 (wd (m) 4)]] w
   fun e w' => e = .returned (.int .i64 (bl (wd m 0).toNat)) ∧ Below w.heap.size w w' := by
 have hw := aS m 0
 have hb : bl (wd m 0).toNat ≤ 64 := cq _ (by have := hw.hi; have := hw.lo; omega)
 go_enter func94, ntmps94
 go_wp2
 refine wp_loop_rounds 6 ?_
 iterate 4
  rw [rounds_succ]
  go_wp2
 rw [rounds_succ]
 go_wp2_with (go_at_call 146; refine (cE _ _ hw).mono ?_; rintro e w' ⟨rfl, rfl⟩)
 go_ret
 refine ⟨rfl, ?_⟩
 repeat (first | exact Below.refl _ _ | refine Below.drew ?_ | refine below_drewN ?_ _ | refine ao ?_ _ | refine aA ?_ _ | (refine Below.setCell ?_ ?_ _; rotate_left; (simp <;> omega)))
theorem sG (m : Nat) (w : World) (h4 : (wd m 4 != 0) = false) (h3 : (wd m 3 != 0) = false) (h2 : (wd m 2 != 0) = false) (h1 : (wd m 1 != 0) = false) (h0 : (wd m 0 != 0) = false) :
  Calls prog 94 #[.agg #[.int .u64 (wd (m) 0), .int .u64 (wd (m) 1), .int .u64 (wd (m) 2), .int .u64 (wd (m) 3), .int .u64 (wd (m) 4)]] w
   fun e w' => e = .returned (.int .i64 0) ∧ Below w.heap.size w w' := by
 go_enter func94, ntmps94
 go_wp2
 refine wp_loop_rounds 6 ?_
 iterate 5
  rw [rounds_succ]
  go_wp2
 rw [rounds_succ]
 go_wp2
 go_ret
 refine ⟨rfl, ?_⟩
 repeat (first | exact Below.refl _ _ | refine Below.drew ?_ | refine below_drewN ?_ _ | refine ao ?_ _ | refine aA ?_ _ | (refine Below.setCell ?_ ?_ _; rotate_left; (simp <;> omega)))
theorem dr {m i : Nat} (h : m / B ^ (i + 1) = 0) (hw : (wd m i != 0) = false) : m / B ^ i = 0 := by
 have : wd m i = 0 := by simpa using hw
 rw [bH] at this
 rw [bZ, h]; omega
theorem dc {m i : Nat} (h : m / B ^ (i + 1) = 0) (hw : (wd m i != 0) = true) : bl m = i * 64 + bl (wd m i).toNat := by
 have hne : wn m i ≠ 0 := by
  intro e; rw [bne_iff_ne] at hw; apply hw; rw [bH, e]; rfl
 rw [sI h hne, bH, Int.toNat_natCast]
theorem dS (m : Nat) (a0 a1 a2 a3 a4 : Int) (w : World) (ha : IsW m a0 a1 a2 a3 a4) (hm : m < B ^ 5) :
  Calls prog 94 #[.agg #[.int .u64 a0, .int .u64 a1, .int .u64 a2, .int .u64 a3, .int .u64 a4]] w
   fun e w' => e = .returned (.int .i64 (bl m)) ∧ Below w.heap.size w w' := by
 obtain ⟨rfl, rfl, rfl, rfl, rfl⟩ := ha
 have t5 : m / B ^ 5 = 0 := Nat.div_eq_of_lt hm
 cases h4 : (wd m 4 != 0)
 ·have t4 := dr t5 h4
  cases h3 : (wd m 3 != 0)
  ·have t3 := dr t4 h3
   cases h2 : (wd m 2 != 0)
   ·have t2 := dr t3 h2
    cases h1 : (wd m 1 != 0)
    ·have t1 := dr t2 h1
     cases h0 : (wd m 0 != 0)
     ·have t0 := dr t1 h0
      simp only [Nat.pow_zero, Nat.div_one] at t0
      rw [sJ t0]; exact sG m w h4 h3 h2 h1 h0
     ·refine (vq m w h4 h3 h2 h1 h0).mono ?_
      rintro e w' ⟨rfl, hb⟩
      exact ⟨by rw [dc t1 h0]; simp, hb⟩
    ·refine (vr m w h4 h3 h2 h1).mono ?_
     rintro e w' ⟨rfl, hb⟩
     exact ⟨by rw [dc t2 h1]; rfl, hb⟩
   ·refine (vt m w h4 h3 h2).mono ?_
    rintro e w' ⟨rfl, hb⟩
    exact ⟨by rw [dc t3 h2]; rfl, hb⟩
  ·refine (vu m w h4 h3).mono ?_
   rintro e w' ⟨rfl, hb⟩
   exact ⟨by rw [dc t4 h3]; rfl, hb⟩
 ·refine (vv m w h4).mono ?_
  rintro e w' ⟨rfl, hb⟩
  exact ⟨by rw [dc t5 h4]; rfl, hb⟩
theorem yc (m x i : Nat) : (((wn m i * x % 18446744073709551616 : Nat) : Int) + ((tcar m x i : Nat) : Int) + 0) % 18446744073709551616 = wd (m * x) i := by
 have h := rV m x i
 have h2 := (qF (wn m i) x (tcar m x i)).1
 rw [h, dO] at h2
 rw [bH, ← h2]; omega
theorem yb (m x i : Nat) : ((wn m i * x / 18446744073709551616 : Nat) : Int) + (((wn m i * x % 18446744073709551616 : Nat) : Int) + ((tcar m x i : Nat) : Int) + 0) / 18446744073709551616 = ((tcar m x (i + 1) : Nat) : Int) := by
 have h := rU m x i
 have h2 := (qF (wn m i) x (tcar m x i)).2
 rw [h, dO] at h2
 rw [← h2]; omega
def tlo (m x i : Nat) : Int := ((wn m i * x % 18446744073709551616 : Nat) : Int)
def thi (m x i : Nat) : Int := ((wn m i * x / 18446744073709551616 : Nat) : Int)
def tmore (m x i : Nat) : Int := (((wn m i * x % 18446744073709551616 : Nat) : Int) + ((tcar m x i : Nat) : Int) + 0) / 18446744073709551616
def tci (m x i : Nat) : Int := ((tcar m x i : Nat) : Int)
theorem eT (m x : Nat) (a0 a1 a2 a3 a4 : Int) (w : World) (ha : IsW m a0 a1 a2 a3 a4) (hx : x < B) :
  Calls prog 148 #[.agg #[.int .u64 a0, .int .u64 a1, .int .u64 a2, .int .u64 a3, .int .u64 a4], .int .u64 x] w
   fun e w' => e = .returned (.agg #[.int .u64 (wd (m * x) 0), .int .u64 (wd (m * x) 1), .int .u64 (wd (m * x) 2), .int .u64 (wd (m * x) 3), .int .u64 (wd (m * x) 4)]) ∧ Below w.heap.size w w' := by
 obtain ⟨rfl, rfl, rfl, rfl, rfl⟩ := ha
 have hc : ∀ i w, Calls prog 182 #[.int .u64 (wd m i), .int .u64 x] w fun e w' => e = .returned (.tuple #[.int .u64 (thi m x i), .int .u64 (tlo m x i)]) ∧ w' = w := by
  intro i w
  exact iW (wn m i) x w (lz m i) hx
 have hr : ∀ i w, (callFunc 151 #[.int .u64 (tlo m x i), .int .u64 (tci m x i), .int .u64 0]).run prog w = .ok (.value (.tuple #[.int .u64 (wd (m * x) i), .int .u64 (tmore m x i)])) w := by
  intro i w
  rw [j7 (tlo m x i) (tci m x i) 0 (Int.natCast_nonneg _) (Int.natCast_nonneg _) (by omega) (by omega)]
  unfold tlo tci tmore
  rw [yc]
 have hs : ∀ i, thi m x i + tmore m x i = tci m x (i + 1) := fun i => yb m x i
 have hl : ∀ i, 0 ≤ tci m x i ∧ tci m x i ≤ 18446744073709551615 := by
  intro i
  have := uu m x i hx
  rw [dO] at this
  unfold tci; omega
 have hz : tci m x 0 = 0 := by unfold tci; rw [oY]; rfl
 have r0 := hr 0
 rw [hz] at r0
 have r1 := hr 1
 have r2 := hr 2
 have r3 := hr 3
 have r4 := hr 4
 have s0 := hs 0
 have s1 := hs 1
 have s2 := hs 2
 have s3 := hs 3
 have s4 := hs 4
 obtain ⟨l1, g1⟩ := hl 1
 obtain ⟨l2, g2⟩ := hl 2
 obtain ⟨l3, g3⟩ := hl 3
 obtain ⟨l4, g4⟩ := hl 4
 obtain ⟨l5, g5⟩ := hl 5
 have HC : Hid _ := hc
 clear hc hr hs hl hz
 go_enter func148, ntmps148
 go_wp2
 refine wp_loop_rounds 6 ?_
 rw [rounds_succ]
 go_wp2_with (go_at_call 182; refine (HC.out 0 _).mono ?_; rintro e w' ⟨rfl, rfl⟩)
 rw [rounds_succ]
 go_wp2_with (go_at_call 182; refine (HC.out 1 _).mono ?_; rintro e w' ⟨rfl, rfl⟩)
 rw [rounds_succ]
 go_wp2_with (go_at_call 182; refine (HC.out 2 _).mono ?_; rintro e w' ⟨rfl, rfl⟩)
 rw [rounds_succ]
 go_wp2_with (go_at_call 182; refine (HC.out 3 _).mono ?_; rintro e w' ⟨rfl, rfl⟩)
 rw [rounds_succ]
 go_wp2_with (go_at_call 182; refine (HC.out 4 _).mono ?_; rintro e w' ⟨rfl, rfl⟩)
 rw [rounds_succ]
 go_wp2
 refine bodyPost_ret (v := .agg _) (by simp [results, results148, go_sem]) rfl ⟨rfl, ?_⟩
 repeat (first | exact Below.refl _ _ | refine Below.drew ?_ | refine below_drewN ?_ _ | refine ao ?_ _ | refine aA ?_ _ | (refine Below.setCell ?_ ?_ _; rotate_left; (simp <;> omega)))
end Go.Proofs.YtjkiplndbcmmbaaGreatDoor
namespace Go.Proofs.YtjkiplndbcmmbaaGreatDoor
open Go.RowKit
structure Row5 (w : World) (b o n : Nat) : Prop where
 c0 : w.cell? ⟨b, o, none⟩ = some (.int .u64 (wd n 0))
 c1 : w.cell? ⟨b, o + 1, none⟩ = some (.int .u64 (wd n 1))
 c2 : w.cell? ⟨b, o + 2, none⟩ = some (.int .u64 (wd n 2))
 c3 : w.cell? ⟨b, o + 3, none⟩ = some (.int .u64 (wd n 3))
 c4 : w.cell? ⟨b, o + 4, none⟩ = some (.int .u64 (wd n 4))
 f0 : w.frozen? ⟨b, o, none⟩ = false
 f1 : w.frozen? ⟨b, o + 1, none⟩ = false
 f2 : w.frozen? ⟨b, o + 2, none⟩ = false
 f3 : w.frozen? ⟨b, o + 3, none⟩ = false
 f4 : w.frozen? ⟨b, o + 4, none⟩ = false
theorem Row5.below {w w' : World} {b o n k : Nat} (h : Row5 w b o n) (hb : Below k w w') (hk : b < k) : Row5 w' b o n := by
 have hc : ∀ j, w'.cell? ⟨b, j, none⟩ = w.cell? ⟨b, j, none⟩ := fun j => hb.cell (p := ⟨b, j, none⟩) hk
 have hf : ∀ j, w'.frozen? ⟨b, j, none⟩ = w.frozen? ⟨b, j, none⟩ := fun j => hb.frozen (p := ⟨b, j, none⟩) hk
 obtain ⟨c0, c1, c2, c3, c4, f0, f1, f2, f3, f4⟩ := h
 constructor <;> simp only [hc, hf] <;> assumption
theorem Row5.drew {w : World} {b o n : Nat} (h : Row5 w b o n) : Row5 w.drew b o n := ⟨h.c0, h.c1, h.c2, h.c3, h.c4, h.f0, h.f1, h.f2, h.f3, h.f4⟩
theorem Row5.drewN {w : World} {b o n : Nat} (h : Row5 w b o n) (k : Nat) : Row5 (w.drewN k) b o n := ⟨h.c0, h.c1, h.c2, h.c3, h.c4, h.f0, h.f1, h.f2, h.f3, h.f4⟩
theorem Row5.keep {w w' : World} {b o n : Nat} (h : Row5 w b o n) (e : w'.heap[b]? = w.heap[b]?) : Row5 w' b o n := by
 have hc : ∀ j, w'.cell? ⟨b, j, none⟩ = w.cell? ⟨b, j, none⟩ := fun j => World.cell?_of_block (w := w) (w' := w') (a := ⟨b, j, none⟩) e
 have hf : ∀ j, w'.frozen? ⟨b, j, none⟩ = w.frozen? ⟨b, j, none⟩ := fun j => World.frozen?_of_block (w := w) (w' := w') (a := ⟨b, j, none⟩) e
 obtain ⟨c0, c1, c2, c3, c4, f0, f1, f2, f3, f4⟩ := h
 constructor <;> simp only [hc, hf] <;> assumption
theorem Row5.zero {w : World} {b n : Nat} (h : Row5 w b 0 n) :
  w.cell? ⟨b, 0, none⟩ = some (.int .u64 (wd n 0)) ∧ w.cell? ⟨b, 1, none⟩ = some (.int .u64 (wd n 1)) ∧ w.cell? ⟨b, 2, none⟩ = some (.int .u64 (wd n 2)) ∧
  w.cell? ⟨b, 3, none⟩ = some (.int .u64 (wd n 3)) ∧ w.cell? ⟨b, 4, none⟩ = some (.int .u64 (wd n 4)) ∧
  w.frozen? ⟨b, 0, none⟩ = false ∧ w.frozen? ⟨b, 1, none⟩ = false ∧ w.frozen? ⟨b, 2, none⟩ = false ∧ w.frozen? ⟨b, 3, none⟩ = false ∧ w.frozen? ⟨b, 4, none⟩ = false :=
 ⟨h.c0, h.c1, h.c2, h.c3, h.c4, h.f0, h.f1, h.f2, h.f3, h.f4⟩
theorem Row5.nth {w : World} {b n : Nat} (h : Row5 w b 0 n) (k : Nat) (hk : k < 5) : w.cell? ⟨b, k, none⟩ = some (.int .u64 (wd n k)) := by
 obtain ⟨c0, c1, c2, c3, c4, -, -, -, -, -⟩ := h.zero
 match k, hk with
 | 0, _ => exact c0
 | 1, _ => exact c1
 | 2, _ => exact c2
 | 3, _ => exact c3
 | 4, _ => exact c4
theorem Row5.nthf {w : World} {b n : Nat} (h : Row5 w b 0 n) (k : Nat) (hk : k < 5) : w.frozen? ⟨b, k, none⟩ = false := by
 obtain ⟨-, -, -, -, -, c0, c1, c2, c3, c4⟩ := h.zero
 match k, hk with
 | 0, _ => exact c0
 | 1, _ => exact c1
 | 2, _ => exact c2
 | 3, _ => exact c3
 | 4, _ => exact c4
theorem Row5.setCell {w : World} {b o n : Nat} (h : Row5 w b o n) {p : Addr} (hp : p.block ≠ b) (v : Value) : Row5 (w.setCell p v) b o n := by
 have hc : ∀ j, (w.setCell p v).cell? ⟨b, j, none⟩ = w.cell? ⟨b, j, none⟩ := fun j => World.cell?_setCell_other _ _ _ _ (by intro e; apply hp; rw [e])
 obtain ⟨c0, c1, c2, c3, c4, f0, f1, f2, f3, f4⟩ := h
 constructor <;> simp only [hc, World.frozen?_setCell] <;> assumption
def set5 (w : World) (b o n : Nat) : World :=
 ((((w.setCell ⟨b, o, none⟩ (.int .u64 (wd n 0))).setCell ⟨b, o + 1, none⟩ (.int .u64 (wd n 1))).setCell ⟨b, o + 2, none⟩ (.int .u64 (wd n 2))).setCell ⟨b, o + 3, none⟩ (.int .u64 (wd n 3))).setCell ⟨b, o + 4, none⟩ (.int .u64 (wd n 4))
theorem eC {b i j : Nat} (h : i ≠ j) : (⟨b, i, none⟩ : Addr) ≠ ⟨b, j, none⟩ := by
 intro e; apply h; exact congrArg Addr.off e
theorem Row5.laid {w : World} {b o k : Nat} (h : Row5 w b o k) (n : Nat) : Row5 (set5 w b o n) b o n := by
 obtain ⟨c0, c1, c2, c3, c4, f0, f1, f2, f3, f4⟩ := h
 have s : ∀ (u : World) (i : Nat) (v x : Value), u.cell? ⟨b, i, none⟩ = some x → (u.setCell ⟨b, i, none⟩ v).cell? ⟨b, i, none⟩ = some v := fun u i v x hx => World.cell?_setCell_same _ _ _ hx
 have t : ∀ (u : World) (i j : Nat) (v : Value), i ≠ j → (u.setCell ⟨b, i, none⟩ v).cell? ⟨b, j, none⟩ = u.cell? ⟨b, j, none⟩ := fun u i j v hij => World.cell?_setCell_other _ _ _ _ (eC hij)
 unfold set5
 constructor
 ·rw [t _ _ _ _ (by omega), t _ _ _ _ (by omega), t _ _ _ _ (by omega), t _ _ _ _ (by omega), s _ _ _ _ c0]
 ·rw [t _ _ _ _ (by omega), t _ _ _ _ (by omega), t _ _ _ _ (by omega), s _ _ _ _ (by rw [t _ _ _ _ (by omega)]; exact c1)]
 ·rw [t _ _ _ _ (by omega), t _ _ _ _ (by omega), s _ _ _ _ (by rw [t _ _ _ _ (by omega), t _ _ _ _ (by omega)]; exact c2)]
 ·rw [t _ _ _ _ (by omega), s _ _ _ _ (by rw [t _ _ _ _ (by omega), t _ _ _ _ (by omega), t _ _ _ _ (by omega)]; exact c3)]
 ·rw [s _ _ _ _ (by rw [t _ _ _ _ (by omega), t _ _ _ _ (by omega), t _ _ _ _ (by omega), t _ _ _ _ (by omega)]; exact c4)]
 all_goals (simp only [World.frozen?_setCell]; assumption)
theorem Row5.laid_other {w : World} {b o n : Nat} (h : Row5 w b o n) {b' : Nat} (hb : b' ≠ b) (o' n' : Nat) : Row5 (set5 w b' o' n') b o n :=
 ((((h.setCell (p := ⟨b', o', none⟩) hb _).setCell (p := ⟨b', o' + 1, none⟩) hb _).setCell (p := ⟨b', o' + 2, none⟩) hb _).setCell (p := ⟨b', o' + 3, none⟩) hb _).setCell (p := ⟨b', o' + 4, none⟩) hb _
theorem fY (w : World) (b o n : Nat) : (set5 w b o n).heap.size = w.heap.size := by simp [set5]
theorem cG {k : Nat} {w w' : World} (h : Below k w w') {b : Nat} (hb : k ≤ b) (o n : Nat) : Below k w (set5 w' b o n) :=
 ((((h.setCell (p := ⟨b, o, none⟩) hb _).setCell (p := ⟨b, o + 1, none⟩) hb _).setCell (p := ⟨b, o + 2, none⟩) hb _).setCell (p := ⟨b, o + 3, none⟩) hb _).setCell (p := ⟨b, o + 4, none⟩) hb _
theorem aG (i : Nat) : wd 0 i = 0 := by simp [wd]
theorem Row5.congr {w : World} {b o n n' : Nat} (h : Row5 w b o n) (e : n = n') : Row5 w b o n' := e ▸ h
end Go.Proofs.YtjkiplndbcmmbaaGreatDoor
namespace Go.Proofs.YtjkiplndbcmmbaaGreatDoor
open Tryz
open Go.RowKit
theorem kj (lo y : Nat) (w : World) (h1 : 0 < y) (h2 : y ≤ 18446744073709551615) (h3 : lo ≤ 18446744073709551615) :
  Calls prog 183 #[.int .u64 0, .int .u64 lo, .int .u64 y] w fun e w' => e = .returned (.tuple #[.int .u64 ((lo / y : Nat) : Int), .int .u64 ((lo % y : Nat) : Int)]) ∧ Below w.heap.size w w' := by
 have c0 : ((y : Int) == 0) = false := beq_eq_false_iff_ne.2 (by omega)
 have c1 : ¬ (y : Int) = 0 := by omega
 have c2 : ¬ (y : Int) ≤ 0 := by omega
 have e1 : IntKind.u64.wrap ((lo : Int) / (y : Int)) = ((lo / y : Nat) : Int) := gd (by omega)
 have e2 : IntKind.u64.wrap ((lo : Int) % (y : Int)) = ((lo % y : Nat) : Int) := by
  have : lo % y < y := Nat.mod_lt _ h1
  rw [← Int.natCast_emod, IntKind.wrap_u64]
  generalize lo % y = z at *
  omega
 go_enter func183, ntmps183
 go_wp2
 go_quiet (fail)
 go_wp2
 go_ret2
 refine ⟨rfl, ?_⟩
 repeat (first | exact Below.refl _ _ | refine Below.drew ?_ | refine below_drewN ?_ _ | refine ao ?_ _ | refine aA ?_ _ | (refine Below.setCell ?_ ?_ _; rotate_left; (simp <;> omega)))
theorem nX (hi lo y : Nat) (w : World) (h1 : hi < y) (h2 : y < B) (h3 : lo < B) :
  Calls prog 183 #[.int .u64 hi, .int .u64 lo, .int .u64 y] w fun e w' => e = .returned (.tuple #[.int .u64 (((hi * B + lo) / y : Nat) : Int), .int .u64 (((hi * B + lo) % y : Nat) : Int)]) ∧ Below w.heap.size w w' := by
 rw [dO] at *
 rcases Nat.eq_zero_or_pos hi with rfl | h0
 ·rw [Nat.zero_mul, Nat.zero_add]
  exact kj lo y w h1 (by omega) (by omega)
 ·refine (nY hi lo y w h1 (by omega) (by omega) h0).mono ?_
  rintro e w' ⟨rfl, rfl⟩
  exact ⟨rfl, Below.refl _ _⟩
theorem mA (n : Nat) (h : n < B) : wd n 0 = (n : Int) := by simp [wd, Nat.mod_eq_of_lt h]
theorem fK (n i : Nat) (h : n < B) (hi : 0 < i) : wd n i = 0 := by
 have : n / B ^ i = 0 := Nat.div_eq_of_lt (Nat.lt_of_lt_of_le h (by
  have := Nat.pow_le_pow_right bi hi
  rwa [Nat.pow_one] at this))
 simp [wd, this]
theorem kn (m d : Nat) (a0 a1 a2 a3 a4 : Int) (w : World) (ha : IsW m a0 a1 a2 a3 a4) (hd : 0 < d) (hdB : d < B) (hm : m < B ^ 5) :
  Calls prog 149 #[.agg #[.int .u64 a0, .int .u64 a1, .int .u64 a2, .int .u64 a3, .int .u64 a4], .int .u64 d] w
   fun e w' => e = .returned (.tuple #[.agg #[.int .u64 (wd (m / d) 0), .int .u64 (wd (m / d) 1), .int .u64 (wd (m / d) 2), .int .u64 (wd (m / d) 3), .int .u64 (wd (m / d) 4)], .agg #[.int .u64 (wd (m % d) 0), .int .u64 (wd (m % d) 1), .int .u64 (wd (m % d) 2), .int .u64 (wd (m % d) 3), .int .u64 (wd (m % d) 4)]]) ∧ Below w.heap.size w w' := by
 obtain ⟨rfl, rfl, rfl, rfl, rfl⟩ := ha
 have hc : ∀ i (w : World), Calls prog 183 #[.int .u64 ((m / B ^ (i + 1) % d : Nat) : Int), .int .u64 (wd m i), .int .u64 d] w fun e w' => e = .returned (.tuple #[.int .u64 (wd (m / d) i), .int .u64 ((m / B ^ i % d : Nat) : Int)]) ∧ Below w.heap.size w w' := by
  intro i w
  have := nX (m / B ^ (i + 1) % d) (wn m i) d w (Nat.mod_lt _ hd) hdB (lz m i)
  rw [(uE m d i hd).1, (uE m d i hd).2] at this
  exact this
 have HC : Hid _ := hc
 clear hc
 go_enter func149, ntmps149
 go_wp2
 go_loopw [6, 7] (fun r i wr => ∃ k : Nat, k ≤ 5 ∧ i = .int .i64 ((k : Int) - 1) ∧ r = .int .u64 ((m / B ^ k % d : Nat) : Int) ∧
   (∀ j, j < k → wr.cell? ⟨w.heap.size, j, none⟩ = some (.int .u64 (wd m j))) ∧ (∀ j, k ≤ j → j < 5 → wr.cell? ⟨w.heap.size, j, none⟩ = some (.int .u64 (wd (m / d) j))) ∧ (∀ j, j < 5 → wr.frozen? ⟨w.heap.size, j, none⟩ = false) ∧
   Row5 wr (w.heap.size + 1) 0 0 ∧ Row5 wr (w.heap.size + 1 + 1) 0 0 ∧ w.heap.size + 1 + 1 < wr.heap.size ∧ Below w.heap.size w wr)
  (fun _ i _ => (intOf i + 1).toNat)
 case atStart =>
  refine ⟨5, by omega, rfl, ?_, ?_, ?_, ?_, ?_, ?_, ?_, ?_⟩
  ·rw [Nat.div_eq_of_lt hm]; simp
  ·intro j hj
   match j, hj with
   | 0, _ => simp [go_sem]
   | 1, _ => simp [go_sem]
   | 2, _ => simp [go_sem]
   | 3, _ => simp [go_sem]
   | 4, _ => simp [go_sem]
  ·intro j h1 h2; omega
  ·intro j hj; simp [go_sem]
  ·constructor <;> simp [go_sem, aG]
  ·constructor <;> simp [go_sem, aG]
  ·simp
  ·repeat (first | exact Below.refl _ _ | refine Below.drew ?_ | refine below_drewN ?_ _ | refine ao ?_ _ | refine aA ?_ _ | (refine Below.setCell ?_ ?_ _; rotate_left; (simp <;> omega)))
 case round =>
  obtain ⟨k, hk, rfl, rfl, C1, C2, C3, R1, R2, hsz, hbel⟩ := hrel
  match k, hk with
  | k + 1, hk =>
   have hk5 : (k : Int) < 5 := by omega
   rw [show (((k + 1 : Nat) : Int) - 1) = (k : Int) by omega]
   have c0 := C1 k (by omega)
   go_wp2_with fail
   refine (HC.out k wr).mono ?_
   rintro e w1 ⟨rfl, hb1⟩
   have d0 : w1.cell? ⟨w.heap.size, k, none⟩ = some (.int .u64 (wd m k)) := by rw [hb1.cell (p := ⟨w.heap.size, k, none⟩) (show w.heap.size < wr.heap.size by omega)]; exact c0
   have f0 : w1.frozen? ⟨w.heap.size, k, none⟩ = false := by rw [hb1.frozen (p := ⟨w.heap.size, k, none⟩) (show w.heap.size < wr.heap.size by omega)]; exact C3 k (by omega)
   clear c0
   have D1 : Hid _ := C1
   have D2 : Hid _ := C2
   have D3 : Hid _ := C3
   clear C1 C2 C3
   go_wp2
   go_roundw
   case rel =>
    have s1 := hb1.size
    refine ⟨k, by omega, rfl, rfl, ?_, ?_, ?_, (R1.below hb1 (by omega)).setCell (by simp) _, (R2.below hb1 (by omega)).setCell (by simp; omega) _, by rw [World.size_setCell]; omega, ?_⟩
    ·intro j hj
     rw [World.cell?_setCell_other _ _ _ _ (eC (by omega)), hb1.cell (p := ⟨w.heap.size, j, none⟩) (show w.heap.size < wr.heap.size by omega)]
     exact D1.out j (by omega)
    ·intro j h1 h2
     rcases Nat.eq_or_lt_of_le h1 with e | e
     ·subst e
      exact World.cell?_setCell_same _ _ _ d0
     ·rw [World.cell?_setCell_other _ _ _ _ (eC (by omega)), hb1.cell (p := ⟨w.heap.size, j, none⟩) (show w.heap.size < wr.heap.size by omega)]
      exact D2.out j (by omega) h2
    ·intro j hj
     rw [World.frozen?_setCell, hb1.frozen (p := ⟨w.heap.size, j, none⟩) (show w.heap.size < wr.heap.size by omega)]
     exact D3.out j hj
    ·exact (hbel.trans (hb1.mono (by omega))).setCell (by simp) _
   case measure => simp [intOf]
  | 0, hk =>
   have c0 := C2 0 (by omega) (by omega)
   have c1 := C2 1 (by omega) (by omega)
   have c2 := C2 2 (by omega) (by omega)
   have c3 := C2 3 (by omega) (by omega)
   have c4 := C2 4 (by omega) (by omega)
   obtain ⟨d0, d1, d2, d3, d4, g0, g1, g2, g3, g4⟩ := R1.zero
   obtain ⟨e0, e1, e2, e3, e4, u0, u1, u2, u3, u4⟩ := R2.zero
   clear C1 C2 C3
   have lt := Nat.lt_trans (Nat.mod_lt m hd) hdB
   rw [show ((m / B ^ 0 % d : Nat) : Int) = wd (m % d) 0 by rw [mA _ lt]; simp]
   have z1 := fK (m % d) 1 lt (by decide)
   have z2 := fK (m % d) 2 lt (by decide)
   have z3 := fK (m % d) 3 lt (by decide)
   have z4 := fK (m % d) 4 lt (by decide)
   have HZ : Hid (wd (m % d) 1 = 0 ∧ wd (m % d) 2 = 0 ∧ wd (m % d) 3 = 0 ∧ wd (m % d) 4 = 0) := ⟨z1, z2, z3, z4⟩
   clear z1 z2 z3 z4
   go_wp2
   refine bodyPost_ret (v := .tuple #[.agg #[.int .u64 (wd (m / d) 0), .int .u64 (wd (m / d) 1), .int .u64 (wd (m / d) 2), .int .u64 (wd (m / d) 3), .int .u64 (wd (m / d) 4)], .agg #[.int .u64 (wd (m % d) 0), .int .u64 0, .int .u64 0, .int .u64 0, .int .u64 0]]) (by simp [results, results149, go_sem, d0, d1, d2, d3, d4, e0, e1, e2, e3, e4]) rfl ⟨?_, ?_⟩
   ·obtain ⟨z1, z2, z3, z4⟩ := HZ.out
    rw [z1, z2, z3, z4]
   ·iterate 10 refine Below.setCell ?_ (by simp <;> omega) _
    exact hbel
end Go.Proofs.YtjkiplndbcmmbaaGreatDoor
namespace Go.Proofs.YtjkiplndbcmmbaaGreatDoor
open Go.RowKit
theorem iH (i : Nat) : B ^ i = 2 ^ (64 * i) := by rw [show B = 2 ^ 64 from rfl, ← Nat.pow_mul]
theorem sH {m : Nat} (h : m < B ^ 5) : bl m ≤ 64 * 5 := (cH m _).2 (iH 5 ▸ h)
theorem ix (x k : Nat) : x * 2 ^ (k + 1) = 2 * x * 2 ^ k := by rw [Nat.pow_succ, Nat.mul_comm (2 ^ k) 2, ← Nat.mul_assoc, Nat.mul_comm x 2]
theorem tB (x t : Nat) (ht : t < 64) : x % B / 2 ^ t % 2 = x / 2 ^ t % 2 := by
 have e : B = 2 ^ t * (2 * 2 ^ (63 - t)) := by rw [show B = 2 ^ 64 from rfl, ← Nat.pow_succ', ← Nat.pow_add]; congr 1; omega
 have h := Nat.div_add_mod x B
 have : x / 2 ^ t = x % B / 2 ^ t + 2 * (2 ^ (63 - t) * (x / B)) := by
  have h2 : x = x % B + 2 ^ t * (2 * (2 ^ (63 - t) * (x / B))) := by
   rw [← Nat.mul_assoc 2, ← Nat.mul_assoc (2 ^ t), ← e]; omega
  conv => lhs; rw [h2]
  rw [Nat.add_mul_div_left _ _ (Nat.pow_pos (by decide))]
 rw [this]; omega
theorem kd (a j t : Nat) (ht : t < 64) : bits .and .u64 (wd a j / 2 ^ t) 1 = ((a / 2 ^ (64 * j + t) % 2 : Nat) : Int) := by
 have hw := lz a j
 rw [dO] at hw
 have hle : wn a j / 2 ^ t ≤ wn a j := Nat.div_le_self _ _
 have e : wd a j / 2 ^ t = ((wn a j / 2 ^ t : Nat) : Int) := by rw [bH, du, ← Int.natCast_ediv]
 rw [e]
 have h := bits_and_u64_nat (wn a j / 2 ^ t) 1 (by omega) (by omega)
 rw [Nat.and_one_is_mod] at h
 rw [show (1 : Int) = ((1 : Nat) : Int) from rfl, h]
 congr 1
 unfold wn
 rw [Nat.pow_add, ← Nat.div_div_eq_div_mul, ← iH]
 exact tB _ _ ht
theorem r9 {a d k : Nat} (hd : 0 < d) :
  let r := 2 * (a / 2 ^ (k + 1) % d) + a / 2 ^ k % 2
  (r < d → a / 2 ^ k / d = 2 * (a / 2 ^ (k + 1) / d) ∧ a / 2 ^ k % d = r) ∧ (d ≤ r → a / 2 ^ k / d = 2 * (a / 2 ^ (k + 1) / d) + 1 ∧ a / 2 ^ k % d = r - d) := by
 intro r
 have hX := Nat.div_add_mod (a / 2 ^ (k + 1)) d
 have hR := Nat.mod_lt (a / 2 ^ (k + 1)) hd
 have e : a / 2 ^ k = 2 * (a / 2 ^ (k + 1)) + a / 2 ^ k % 2 := by
  rw [Nat.pow_succ, ← Nat.div_div_eq_div_mul]; omega
 have e2 : a / 2 ^ k = r + d * (2 * (a / 2 ^ (k + 1) / d)) := by
  have : d * (2 * (a / 2 ^ (k + 1) / d)) = 2 * (d * (a / 2 ^ (k + 1) / d)) := Nat.mul_left_comm _ _ _
  omega
 constructor
 ·intro h
  rw [e2, Nat.add_mul_div_left _ _ hd, Nat.add_mul_mod_self_left, Nat.div_eq_of_lt h, Nat.mod_eq_of_lt h]
  omega
 ·intro h
  have h2 : r - d < d := by omega
  have e3 : a / 2 ^ k = (r - d) + d * (2 * (a / 2 ^ (k + 1) / d) + 1) := by rw [Nat.mul_add, Nat.mul_one]; omega
  rw [e3, Nat.add_mul_div_left _ _ hd, Nat.add_mul_mod_self_left, Nat.div_eq_of_lt h2, Nat.mod_eq_of_lt h2]
  omega
theorem pD (Q j t : Nat) (ht : t < 64) : wn (Q * 2 ^ (64 * j + t + 1) + 2 ^ (64 * j + t)) j = wn (Q * 2 ^ (64 * j + t + 1)) j ||| 2 ^ t ∧
  ∀ i, i ≠ j → wn (Q * 2 ^ (64 * j + t + 1) + 2 ^ (64 * j + t)) i = wn (Q * 2 ^ (64 * j + t + 1)) i := by
 constructor
 ·unfold wn
  have eM : Q * 2 ^ (64 * j + t + 1) = B ^ j * (Q * 2 ^ (t + 1)) := by rw [iH, Nat.mul_left_comm, ← Nat.pow_add, Nat.add_assoc]
  have eP : 2 ^ (64 * j + t) = B ^ j * 2 ^ t := by rw [iH, ← Nat.pow_add]
  have hB : 0 < B ^ j := Nat.pow_pos bi
  rw [eM, eP, ← Nat.mul_add, Nat.mul_div_cancel_left _ hB, Nat.mul_div_cancel_left _ hB]
  have e64 : B = 2 ^ (t + 1) * 2 ^ (63 - t) := by rw [show B = 2 ^ 64 from rfl, ← Nat.pow_add]; congr 1; omega
  have hx : Q * 2 ^ (t + 1) % B = 2 ^ (t + 1) * (Q % 2 ^ (63 - t)) := by rw [e64, Nat.mul_comm Q, Nat.mul_mod_mul_left]
  have hlt : Q % 2 ^ (63 - t) + 1 ≤ 2 ^ (63 - t) := Nat.mod_lt _ (Nat.pow_pos (by decide))
  have hp : 2 ^ t < 2 ^ (t + 1) := Nat.pow_lt_pow_right (by decide) (by omega)
  have hsum : Q * 2 ^ (t + 1) % B + 2 ^ t < B := by
   have : 2 ^ (t + 1) * (Q % 2 ^ (63 - t) + 1) ≤ 2 ^ (t + 1) * 2 ^ (63 - t) := Nat.mul_le_mul_left _ hlt
   rw [hx]
   rw [← e64, Nat.mul_add, Nat.mul_one] at this
   omega
  have hpB : 2 ^ t < B := by omega
  rw [Nat.add_mod, Nat.mod_eq_of_lt hpB, Nat.mod_eq_of_lt hsum, hx]
  exact Nat.two_pow_add_eq_or_of_lt hp _
 ·intro i hi
  unfold wn
  have hB : 0 < B ^ i := Nat.pow_pos bi
  rcases Nat.lt_or_ge i j with c | c
  ·have eP : 2 ^ (64 * j + t) = B ^ i * (B * 2 ^ (64 * j + t - 64 * i - 64)) := by
    rw [iH, show B = 2 ^ 64 from rfl, ← Nat.pow_add, ← Nat.pow_add]; congr 1; omega
   rw [eP, Nat.add_mul_div_left _ _ hB, Nat.add_mul_mod_self_left]
  ·have hik : 64 * j + t + 1 ≤ 64 * i := by omega
   have eB : B ^ i = 2 ^ (64 * j + t + 1) * 2 ^ (64 * i - (64 * j + t + 1)) := by rw [iH, ← Nat.pow_add]; congr 1; omega
   have h2 : 2 ^ (64 * j + t) < 2 ^ (64 * j + t + 1) := Nat.pow_lt_pow_right (by decide) (by omega)
   congr 1
   rw [eB, ← Nat.div_div_eq_div_mul, ← Nat.div_div_eq_div_mul, Nat.mul_comm Q]
   rw [Nat.add_comm, Nat.add_mul_div_left _ _ (Nat.pow_pos (by decide)), Nat.div_eq_of_lt h2, Nat.zero_add, Nat.mul_div_cancel_left _ (Nat.pow_pos (by decide))]
theorem vp (Q j t : Nat) (ht : t < 64) : bits .or .u64 (wd (Q * 2 ^ (64 * j + t + 1)) j) ((2 ^ t : Nat) : Int) = wd (Q * 2 ^ (64 * j + t + 1) + 2 ^ (64 * j + t)) j := by
 have h1 := lz (Q * 2 ^ (64 * j + t + 1)) j
 have h2 : 2 ^ t < 2 ^ 64 := Nat.pow_lt_pow_right (by decide) ht
 rw [bH, bH, (pD Q j t ht).1, bits_or_u64_nat _ _ h1 (by omega)]
theorem se (t : Nat) (ht : t < 64) : IntKind.u64.wrap ((2 : Int) ^ t) = ((2 ^ t : Nat) : Int) := by
 have h2 : 2 ^ t < 2 ^ 64 := Nat.pow_lt_pow_right (by decide) ht
 rw [du, IntKind.wrap_u64]
 generalize 2 ^ t = x at *
 omega
theorem pE (Q k j t : Nat) (hk : k = 64 * j + t) (ht : t < 64) : bits .or .u64 (wd (Q * 2 ^ (k + 1)) j) (IntKind.u64.wrap ((2 : Int) ^ t)) = wd (Q * 2 ^ (k + 1) + 2 ^ k) j ∧
  ∀ i, i ≠ j → wd (Q * 2 ^ (k + 1) + 2 ^ k) i = wd (Q * 2 ^ (k + 1)) i := by
 subst hk
 rw [se t ht]
 exact ⟨vp Q j t ht, fun i hi => by rw [bH, bH, (pD Q j t ht).2 i hi]⟩
end Go.Proofs.YtjkiplndbcmmbaaGreatDoor
namespace Go.Proofs.YtjkiplndbcmmbaaGreatDoor
open Tryz
open Go.RowKit
theorem fI (m n : Nat) (a0 a1 a2 a3 a4 : Int) (w : World) (ha : IsW m a0 a1 a2 a3 a4) (hn : n ≤ 1000) :
  Calls prog 99 #[.agg #[.int .u64 a0, .int .u64 a1, .int .u64 a2, .int .u64 a3, .int .u64 a4], .int .i64 n] w
   fun e w' => e = .returned (.agg #[.int .u64 (wd (m * 10 ^ n) 0), .int .u64 (wd (m * 10 ^ n) 1), .int .u64 (wd (m * 10 ^ n) 2), .int .u64 (wd (m * 10 ^ n) 3), .int .u64 (wd (m * 10 ^ n) 4)]) ∧ Below w.heap.size w w' := by
 obtain ⟨rfl, rfl, rfl, rfl, rfl⟩ := ha
 go_enter func99, ntmps99
 go_wp2
 go_loopw [6] (fun i wr => ∃ k : Nat, k ≤ n ∧ i = .int .i64 k ∧ Row5 wr w.heap.size 0 (m * 10 ^ k) ∧ Row5 wr (w.heap.size + 1) 0 0 ∧ w.heap.size + 2 ≤ wr.heap.size ∧ Below w.heap.size w wr)
  (fun i _ => n - (intOf i).toNat)
 case atStart =>
  refine ⟨0, by omega, rfl, ?_, ?_, ?_, ?_⟩
  ·rw [Nat.pow_zero, Nat.mul_one]; constructor <;> simp [go_sem]
  ·constructor <;> simp [go_sem, aG]
  ·simp
  ·repeat (first | exact Below.refl _ _ | refine Below.drew ?_ | refine below_drewN ?_ _ | refine ao ?_ _ | refine aA ?_ _ | (refine Below.setCell ?_ ?_ _; rotate_left; (simp <;> omega)))
 case round =>
  obtain ⟨k, hk, rfl, R1, R2, hsz, hbel⟩ := hrel
  by_cases hlt : k < n
  ·obtain ⟨c0, c1, c2, c3, c4, f0, f1, f2, f3, f4⟩ := R1.zero
   go_wp2_with fail
   clear c0 c1 c2 c3 c4 f0 f1 f2 f3 f4
   refine (eT (m * 10 ^ k) 10 _ _ _ _ _ wr (IsW.self _) (by decide)).mono ?_
   rintro e w1 ⟨rfl, hb1⟩
   have S1 := R1.below hb1 (by omega)
   have S2 := R2.below hb1 (by omega)
   have hz1 := hb1.size
   have hbel1 := hbel.trans (hb1.mono (by omega))
   clear R1 R2 hbel hb1
   obtain ⟨c0, c1, c2, c3, c4, f0, f1, f2, f3, f4⟩ := S1.zero
   go_wp2
   go_roundw
   case rel =>
    refine ⟨k + 1, by omega, by go_num, (S1.laid (m * 10 ^ k * 10)).congr (by rw [Nat.pow_succ, Nat.mul_assoc]), S2.laid_other (by omega) 0 _, ?_, ?_⟩
    ·simp; omega
    ·exact cG hbel1 (Nat.le_refl _) 0 _
   case measure => simp [intOf]; omega
  ·have hkn : k = n := by omega
   subst hkn
   obtain ⟨c0, c1, c2, c3, c4, f0, f1, f2, f3, f4⟩ := R1.zero
   obtain ⟨d0, d1, d2, d3, d4, g0, g1, g2, g3, g4⟩ := R2.zero
   go_wp2
   refine bodyPost_ret (v := .agg _) (by simp [results, results99, go_sem, d0, d1, d2, d3, d4]) rfl ⟨rfl, ?_⟩
   exact cG hbel (by omega) 0 _
end Go.Proofs.YtjkiplndbcmmbaaGreatDoor