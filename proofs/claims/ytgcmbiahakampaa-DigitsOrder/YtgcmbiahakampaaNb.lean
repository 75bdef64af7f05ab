/- The contracts of number.dec, number.sign, number.plus, raised and total (package dec). -/
import Derived.Test.YtgcmbiahakampaaNa
namespace Go.Proofs.Ytgcmbiahakampaa
open Go.RowKit
set_option linter.unusedVariables false
attribute [local go_sem] ext_cell ext_frozen ext_drew ext_of_drew ext_of_drewN ext_setCell ext_lt ext_lt1 ext_lt2 ext_lt3 lt_n2 lt_n3 lt_n4 lt_n5 lt_n6

/-- The whole number that a sign and a size are. -/
def sv (neg : Bool) (n : Nat) : Int := if neg then -(n : Int) else n
theorem sv_abs (c : Int) : sv (decide (c < 0)) c.natAbs = c := by unfold sv; by_cases h : c < 0 <;> simp [h] <;> omega

theorem low_words {n : Nat} (h : (n : Int) < M127) : dlo (n : Int) = wd n 0 ∧ dhi (n : Int) = wd n 1 ∧ wrap64 (wd n 1) = dhi (n : Int) := by
  rw [M127_eq] at h
  obtain ⟨e0, e1, -, -, -⟩ := wd_small (n := n) (by omega)
  rw [e0, e1]
  refine ⟨rfl, rfl, ?_⟩
  unfold wrap64 dhi; omega
theorem bl_127 (n : Nat) : bl n ≤ 127 ↔ (n : Int) < M127 := by
  rw [bl_le, M127_eq]
  omega

end Go.Proofs.Ytgcmbiahakampaa
