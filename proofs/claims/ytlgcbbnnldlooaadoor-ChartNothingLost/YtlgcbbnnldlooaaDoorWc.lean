/- The contracts of math/bits' Len64, LeadingZeros64 and Mul64 (package dec calls them). -/
import Derived.Test.YtlgcbbnnldlooaaDoorWa
import Derived.Lib.BitFns
import Derived.Shelf.Bits.Mul64
namespace Go.Proofs.YtlgcbbnnldlooaaDoor
open Go.RowKit
set_option linter.unusedVariables false

theorem bl_shift (n k : Nat) (h : 2 ^ k ≤ n) : bl n = k + bl (n / 2 ^ k) := by
  apply bl_unique
  intro j
  constructor
  · intro hj
    have := (bl_le (n / 2 ^ k) (j - k)).1 (by omega)
    rw [Nat.div_lt_iff_lt_mul (Nat.pow_pos (by decide)), ← Nat.pow_add, show j - k + k = j by omega] at this
    exact this
  · intro hj
    have hk : k < j := by
      rcases Nat.lt_or_ge k j with c | c
      · exact c
      · have := Nat.pow_le_pow_right (show 0 < 2 by decide) c; omega
    have := (bl_le (n / 2 ^ k) (j - k)).2 (by rw [Nat.div_lt_iff_lt_mul (Nat.pow_pos (by decide)), ← Nat.pow_add, show j - k + k = j by omega]; exact hj)
    omega
theorem bl_le64 (n : Nat) (h : n < 18446744073709551616) : bl n ≤ 64 := (bl_le n 64).2 (by omega)
theorem len_end (x u : Int) (k : Nat) (h0 : 0 ≤ x) (h1 : x ≤ 18446744073709551615) (hu : u.toNat = x.toNat / 2 ^ k) (hk : k = 0 ∨ 2 ^ k ≤ x.toNat) (u0 : 0 ≤ u) (u1 : u ≤ 255) : (k : Int) + Lib.len8 u = (bl x.toNat : Int) := by
  rw [Lib.len8_of u u0 u1, bitLen_bl _ (by omega), hu]
  rcases hk with rfl | hk
  · simp
  · rw [bl_shift _ k hk]; omega
theorem len8_bd (u : Int) (u0 : 0 ≤ u) (u1 : u ≤ 255) : 0 ≤ Lib.len8 u ∧ Lib.len8 u ≤ 8 := by
  rw [Lib.len8_of u u0 u1]
  have := Lib.bitLen_le8' u u0 u1
  omega

set_option maxHeartbeats 1000000 in
set_option maxRecDepth 100000 in
theorem len64_000 (x : Int) (w : World) (h0 : 0 ≤ x) (h1 : x ≤ 18446744073709551615) (c1 : x < 4294967296) (c2 : x < 65536) (c3 : x < 256) :
    Calls Tryd.prog 77 #[.int .u64 x] w fun e w' => e = .returned (.int .i64 (bl x.toNat)) ∧ w' = w := by
  have u0 : 0 ≤ x := by omega
  have u1 : x ≤ 255 := by omega
  have l := len8_bd (x) u0 u1
  obtain ⟨l0, l1⟩ := l
  have fin : Hid (((0 : Nat) : Int) + Lib.len8 (x) = (bl x.toNat : Int)) := len_end x (x) 0 h0 h1 (by omega) (by omega) u0 u1
  go_enter Tryd.func77, Tryd.ntmps77
  go_wp2
  go_ret
  refine ⟨congrArg Ending.returned (congrArg (Value.int IntKind.i64) ?_), rfl⟩
  rw [← fin.out]
  first | rfl | omega | simp

set_option maxHeartbeats 1000000 in
set_option maxRecDepth 100000 in
theorem len64_001 (x : Int) (w : World) (h0 : 0 ≤ x) (h1 : x ≤ 18446744073709551615) (c1 : x < 4294967296) (c2 : x < 65536) (c3 : 256 ≤ x) :
    Calls Tryd.prog 77 #[.int .u64 x] w fun e w' => e = .returned (.int .i64 (bl x.toNat)) ∧ w' = w := by
  have u0 : 0 ≤ x / 256 := by omega
  have u1 : x / 256 ≤ 255 := by omega
  have l := len8_bd (x / 256) u0 u1
  obtain ⟨l0, l1⟩ := l
  have fin : Hid (((8 : Nat) : Int) + Lib.len8 (x / 256) = (bl x.toNat : Int)) := len_end x (x / 256) 8 h0 h1 (by omega) (by omega) u0 u1
  go_enter Tryd.func77, Tryd.ntmps77
  go_wp2
  go_ret
  refine ⟨congrArg Ending.returned (congrArg (Value.int IntKind.i64) ?_), rfl⟩
  rw [← fin.out]
  first | rfl | omega | simp

set_option maxHeartbeats 1000000 in
set_option maxRecDepth 100000 in
theorem len64_010 (x : Int) (w : World) (h0 : 0 ≤ x) (h1 : x ≤ 18446744073709551615) (c1 : x < 4294967296) (c2 : 65536 ≤ x) (c3 : x / 65536 < 256) :
    Calls Tryd.prog 77 #[.int .u64 x] w fun e w' => e = .returned (.int .i64 (bl x.toNat)) ∧ w' = w := by
  have u0 : 0 ≤ x / 65536 := by omega
  have u1 : x / 65536 ≤ 255 := by omega
  have l := len8_bd (x / 65536) u0 u1
  obtain ⟨l0, l1⟩ := l
  have fin : Hid (((16 : Nat) : Int) + Lib.len8 (x / 65536) = (bl x.toNat : Int)) := len_end x (x / 65536) 16 h0 h1 (by omega) (by omega) u0 u1
  go_enter Tryd.func77, Tryd.ntmps77
  go_wp2
  go_ret
  refine ⟨congrArg Ending.returned (congrArg (Value.int IntKind.i64) ?_), rfl⟩
  rw [← fin.out]
  first | rfl | omega | simp

set_option maxHeartbeats 1000000 in
set_option maxRecDepth 100000 in
theorem len64_011 (x : Int) (w : World) (h0 : 0 ≤ x) (h1 : x ≤ 18446744073709551615) (c1 : x < 4294967296) (c2 : 65536 ≤ x) (c3 : 256 ≤ x / 65536) :
    Calls Tryd.prog 77 #[.int .u64 x] w fun e w' => e = .returned (.int .i64 (bl x.toNat)) ∧ w' = w := by
  have u0 : 0 ≤ x / 65536 / 256 := by omega
  have u1 : x / 65536 / 256 ≤ 255 := by omega
  have l := len8_bd (x / 65536 / 256) u0 u1
  obtain ⟨l0, l1⟩ := l
  have fin : Hid (((24 : Nat) : Int) + Lib.len8 (x / 65536 / 256) = (bl x.toNat : Int)) := len_end x (x / 65536 / 256) 24 h0 h1 (by omega) (by omega) u0 u1
  go_enter Tryd.func77, Tryd.ntmps77
  go_wp2
  go_ret
  refine ⟨congrArg Ending.returned (congrArg (Value.int IntKind.i64) ?_), rfl⟩
  rw [← fin.out]
  first | rfl | omega | simp

set_option maxHeartbeats 1000000 in
set_option maxRecDepth 100000 in
theorem len64_100 (x : Int) (w : World) (h0 : 0 ≤ x) (h1 : x ≤ 18446744073709551615) (c1 : 4294967296 ≤ x) (c2 : x / 4294967296 < 65536) (c3 : x / 4294967296 < 256) :
    Calls Tryd.prog 77 #[.int .u64 x] w fun e w' => e = .returned (.int .i64 (bl x.toNat)) ∧ w' = w := by
  have u0 : 0 ≤ x / 4294967296 := by omega
  have u1 : x / 4294967296 ≤ 255 := by omega
  have l := len8_bd (x / 4294967296) u0 u1
  obtain ⟨l0, l1⟩ := l
  have fin : Hid (((32 : Nat) : Int) + Lib.len8 (x / 4294967296) = (bl x.toNat : Int)) := len_end x (x / 4294967296) 32 h0 h1 (by omega) (by omega) u0 u1
  go_enter Tryd.func77, Tryd.ntmps77
  go_wp2
  go_ret
  refine ⟨congrArg Ending.returned (congrArg (Value.int IntKind.i64) ?_), rfl⟩
  rw [← fin.out]
  first | rfl | omega | simp

set_option maxHeartbeats 1000000 in
set_option maxRecDepth 100000 in
theorem len64_101 (x : Int) (w : World) (h0 : 0 ≤ x) (h1 : x ≤ 18446744073709551615) (c1 : 4294967296 ≤ x) (c2 : x / 4294967296 < 65536) (c3 : 256 ≤ x / 4294967296) :
    Calls Tryd.prog 77 #[.int .u64 x] w fun e w' => e = .returned (.int .i64 (bl x.toNat)) ∧ w' = w := by
  have u0 : 0 ≤ x / 4294967296 / 256 := by omega
  have u1 : x / 4294967296 / 256 ≤ 255 := by omega
  have l := len8_bd (x / 4294967296 / 256) u0 u1
  obtain ⟨l0, l1⟩ := l
  have fin : Hid (((40 : Nat) : Int) + Lib.len8 (x / 4294967296 / 256) = (bl x.toNat : Int)) := len_end x (x / 4294967296 / 256) 40 h0 h1 (by omega) (by omega) u0 u1
  go_enter Tryd.func77, Tryd.ntmps77
  go_wp2
  go_ret
  refine ⟨congrArg Ending.returned (congrArg (Value.int IntKind.i64) ?_), rfl⟩
  rw [← fin.out]
  first | rfl | omega | simp

set_option maxHeartbeats 1000000 in
set_option maxRecDepth 100000 in
theorem len64_110 (x : Int) (w : World) (h0 : 0 ≤ x) (h1 : x ≤ 18446744073709551615) (c1 : 4294967296 ≤ x) (c2 : 65536 ≤ x / 4294967296) (c3 : x / 4294967296 / 65536 < 256) :
    Calls Tryd.prog 77 #[.int .u64 x] w fun e w' => e = .returned (.int .i64 (bl x.toNat)) ∧ w' = w := by
  have u0 : 0 ≤ x / 4294967296 / 65536 := by omega
  have u1 : x / 4294967296 / 65536 ≤ 255 := by omega
  have l := len8_bd (x / 4294967296 / 65536) u0 u1
  obtain ⟨l0, l1⟩ := l
  have fin : Hid (((48 : Nat) : Int) + Lib.len8 (x / 4294967296 / 65536) = (bl x.toNat : Int)) := len_end x (x / 4294967296 / 65536) 48 h0 h1 (by omega) (by omega) u0 u1
  go_enter Tryd.func77, Tryd.ntmps77
  go_wp2
  go_ret
  refine ⟨congrArg Ending.returned (congrArg (Value.int IntKind.i64) ?_), rfl⟩
  rw [← fin.out]
  first | rfl | omega | simp

set_option maxHeartbeats 1000000 in
set_option maxRecDepth 100000 in
theorem len64_111 (x : Int) (w : World) (h0 : 0 ≤ x) (h1 : x ≤ 18446744073709551615) (c1 : 4294967296 ≤ x) (c2 : 65536 ≤ x / 4294967296) (c3 : 256 ≤ x / 4294967296 / 65536) :
    Calls Tryd.prog 77 #[.int .u64 x] w fun e w' => e = .returned (.int .i64 (bl x.toNat)) ∧ w' = w := by
  have u0 : 0 ≤ x / 4294967296 / 65536 / 256 := by omega
  have u1 : x / 4294967296 / 65536 / 256 ≤ 255 := by omega
  have l := len8_bd (x / 4294967296 / 65536 / 256) u0 u1
  obtain ⟨l0, l1⟩ := l
  have fin : Hid (((56 : Nat) : Int) + Lib.len8 (x / 4294967296 / 65536 / 256) = (bl x.toNat : Int)) := len_end x (x / 4294967296 / 65536 / 256) 56 h0 h1 (by omega) (by omega) u0 u1
  go_enter Tryd.func77, Tryd.ntmps77
  go_wp2
  go_ret
  refine ⟨congrArg Ending.returned (congrArg (Value.int IntKind.i64) ?_), rfl⟩
  rw [← fin.out]
  first | rfl | omega | simp

theorem len64_any (x : Int) (w : World) (hx : IsWord x) :
    Calls Tryd.prog 77 #[.int .u64 x] w fun e w' => e = .returned (.int .i64 (bl x.toNat)) ∧ w' = w := by
  have h0 := hx.lo
  have h1 := hx.hi
  rcases Int.lt_or_le x 4294967296 with c1 | c1
  · rcases Int.lt_or_le x 65536 with c2 | c2
    · rcases Int.lt_or_le x 256 with c3 | c3
      · exact len64_000 x w h0 h1 c1 c2 c3
      · exact len64_001 x w h0 h1 c1 c2 c3
    · rcases Int.lt_or_le (x / 65536) 256 with c3 | c3
      · exact len64_010 x w h0 h1 c1 c2 c3
      · exact len64_011 x w h0 h1 c1 c2 c3
  · rcases Int.lt_or_le (x / 4294967296) 65536 with c2 | c2
    · rcases Int.lt_or_le (x / 4294967296) 256 with c3 | c3
      · exact len64_100 x w h0 h1 c1 c2 c3
      · exact len64_101 x w h0 h1 c1 c2 c3
    · rcases Int.lt_or_le (x / 4294967296 / 65536) 256 with c3 | c3
      · exact len64_110 x w h0 h1 c1 c2 c3
      · exact len64_111 x w h0 h1 c1 c2 c3

/-! Mul64 -/
/-- The numbers at which the shelf's contract lies here. -/
def renMul : Go.Shelf.Ren := ⟨fun | 264 => 81 | n => n, fun | 53 => 35 | 46 => 56 | n => n, fun | n => n⟩
theorem laysMul : Go.Proofs.Lays.n264 Tryd.prog renMul := {
  mixed := by kernel_rfl
  f264 := Tryd.func81.trans (congrArg some (by kernel_rfl))
  t46 := Tryd.underlying56
  a46 := Tryd.isAgg56
  z46 := Tryd.sizeOf56
  v46 := Tryd.zeroValue56
  t53 := Tryd.underlying35
  a53 := Tryd.isAgg35
  z53 := Tryd.sizeOf35
  v53 := Tryd.zeroValue35 }
theorem mul64_any (x y : Nat) (w : World) (hx : x < 18446744073709551616) (hy : y < 18446744073709551616) :
    Calls Tryd.prog 81 #[.int .u64 x, .int .u64 y] w fun e w' => e = .returned (.tuple #[.int .u64 ((x * y / 18446744073709551616 : Nat) : Int), .int .u64 ((x * y % 18446744073709551616 : Nat) : Int)]) ∧ w' = w :=
  Any.bits_Mul64 laysMul x y hx hy w
end Go.Proofs.YtlgcbbnnldlooaaDoor
