/- The contracts of ratio and of the checks (package dec). -/
import Derived.Test.YtlgcbbnnldlooaaDoorNe
namespace Go.Proofs.YtlgcbbnnldlooaaDoor
open Go.RowKit
set_option linter.unusedVariables false
attribute [local go_sem] ext_cell ext_frozen ext_drew ext_of_drew ext_of_drewN ext_setCell ext_lt ext_lt1 ext_lt2 ext_lt3 lt_n2 lt_n3 lt_n4 lt_n5 lt_n6 ext_ext

/-- What is divided, and by what. -/
def rnum (n : Nat) (shift : Int) : Nat := n * 10 ^ shift.toNat
def rden (d : Nat) (shift : Int) : Nat := d * 10 ^ (-shift).toNat
/-- The size of the rounded quotient. -/
def rquo (neg : Bool) (n d : Nat) (shift : Int) (mode : Nat) : Nat :=
  rnum n shift / rden d shift + (if away neg (rnum n shift / rden d shift) (rnum n shift % rden d shift) (rden d shift) mode then 1 else 0)

theorem one_words : IsW 1 1 0 0 0 0 := by
  have h := fun i (hi : 0 < i) => wd_high 1 i (by decide) hi
  exact ⟨by rw [wd_low 1 (by decide)]; rfl, by rw [h 1 (by decide)], by rw [h 2 (by decide)], by rw [h 3 (by decide)], by rw [h 4 (by decide)]⟩

theorem ratio_core (neg : Bool) (n d mode : Nat) (shift : Int) (w : World) (hm : mode ≤ 6) (hn : rnum n shift < B ^ 5) (hd : 0 < rden d shift) (hd5 : 2 * rden d shift ≤ B ^ 5) :
    ∃ q r : Nat, q = rnum n shift / rden d shift ∧ r = rnum n shift % rden d shift ∧ q < B ^ 5 ∧ 2 * r < B ^ 5 ∧ rden d shift < B ^ 5 := by
  refine ⟨_, _, rfl, rfl, Nat.lt_of_le_of_lt (Nat.div_le_self _ _) hn, ?_, by omega⟩
  have := Nat.mod_lt (rnum n shift) hd
  omega

end Go.Proofs.YtlgcbbnnldlooaaDoor
