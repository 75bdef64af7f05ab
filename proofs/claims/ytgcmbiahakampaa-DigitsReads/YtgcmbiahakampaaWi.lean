/- The contracts of Div64 at every divisor above the high word, and of a wide number over a word (package dec). -/
import Derived.Test.YtgcmbiahakampaaWh
import Derived.Test.YtgcmbiahakampaaWe
namespace Go.Proofs.Ytgcmbiahakampaa
open Go.RowKit
set_option linter.unusedVariables false

set_option maxHeartbeats 400000 in
set_option maxRecDepth 100000 in
theorem div64_small (lo y : Nat) (w : World) (h1 : 0 < y) (h2 : y ≤ 18446744073709551615) (h3 : lo ≤ 18446744073709551615) :
    Calls Try.prog 32 #[.int .u64 0, .int .u64 lo, .int .u64 y] w fun e w' => e = .returned (.tuple #[.int .u64 ((lo / y : Nat) : Int), .int .u64 ((lo % y : Nat) : Int)]) ∧ Below w.heap.size w w' := by
  have c0 : ((y : Int) == 0) = false := beq_eq_false_iff_ne.2 (by omega)
  have c1 : ¬ (y : Int) = 0 := by omega
  have c2 : ¬ (y : Int) ≤ 0 := by omega
  have e1 : IntKind.u64.wrap ((lo : Int) / (y : Int)) = ((lo / y : Nat) : Int) := wrap_ediv (by omega)
  have e2 : IntKind.u64.wrap ((lo : Int) % (y : Int)) = ((lo % y : Nat) : Int) := by
    have : lo % y < y := Nat.mod_lt _ h1
    rw [← Int.natCast_emod, IntKind.wrap_u64]
    generalize lo % y = z at *
    omega
  go_enter Try.func32, Try.ntmps32
  go_wp2
  go_quiet (fail)
  go_wp2
  go_ret2
  refine ⟨rfl, ?_⟩
  repeat (first | exact Below.refl _ _ | refine Below.drew ?_ | refine below_drewN ?_ _ | refine bel_alloc ?_ _ | refine bel_ext ?_ _ | (refine Below.setCell ?_ ?_ _; rotate_left; (simp <;> omega)))

theorem div64_any (hi lo y : Nat) (w : World) (h1 : hi < y) (h2 : y < B) (h3 : lo < B) :
    Calls Try.prog 32 #[.int .u64 hi, .int .u64 lo, .int .u64 y] w fun e w' => e = .returned (.tuple #[.int .u64 (((hi * B + lo) / y : Nat) : Int), .int .u64 (((hi * B + lo) % y : Nat) : Int)]) ∧ Below w.heap.size w w' := by
  rw [B_eq] at *
  rcases Nat.eq_zero_or_pos hi with rfl | h0
  · rw [Nat.zero_mul, Nat.zero_add]
    exact div64_small lo y w h1 (by omega) (by omega)
  · refine (div64_big hi lo y w h1 (by omega) (by omega) h0).mono ?_
    rintro e w' ⟨rfl, rfl⟩
    exact ⟨rfl, Below.refl _ _⟩

theorem wd_low (n : Nat) (h : n < B) : wd n 0 = (n : Int) := by simp [wd, Nat.mod_eq_of_lt h]
theorem wd_high (n i : Nat) (h : n < B) (hi : 0 < i) : wd n i = 0 := by
  have : n / B ^ i = 0 := Nat.div_eq_of_lt (Nat.lt_of_lt_of_le h (by
    have := Nat.pow_le_pow_right B_pos hi
    rwa [Nat.pow_one] at this))
  simp [wd, this]

/-! a wide number over a word: from the top word down -/
end Go.Proofs.Ytgcmbiahakampaa
