/- The contracts of Neg, Sign, Add (package dec). -/
import Derived.Test.YtkndnpkpdchbiaaDoorPa
namespace Go.Proofs.YtkndnpkpdchbiaaDoor
open Go.RowKit
set_option linter.unusedVariables false
attribute [local go_sem] ext_cell ext_frozen ext_drew ext_of_drew ext_of_drewN ext_setCell ext_lt ext_lt1 ext_lt2 ext_lt3 lt_n2 lt_n3 lt_n4 lt_n5 lt_n6 ext_ext

theorem InR.neg {c : Int} (h : InR c) : InR (-c) := ⟨by have := h.hi; omega, by have := h.lo; omega⟩
theorem tot_lt (ca : Int) (sa : Nat) (cb : Int) (sb : Nat) (ia : InR ca) (ib : InR cb) (hsa : (sa : Int) ≤ 18) (hsb : (sb : Int) ≤ 18) : (tot ca sa cb sb).2 < B ^ 5 := by
  have h1 : up10 ca.natAbs sa (max sa sb) < B ^ 4 := ten_lt (natAbs_lt ia) (show max sa sb - sa ≤ 18 by omega)
  have h2 : up10 cb.natAbs sb (max sa sb) < B ^ 4 := ten_lt (natAbs_lt ib) (show max sa sb - sb ≤ 18 by omega)
  have h3 := padd_le (decide (ca < 0), up10 ca.natAbs sa (max sa sb)) (decide (cb < 0), up10 cb.natAbs sb (max sa sb))
  have h4 : 2 * B ^ 4 ≤ B ^ 5 := by rw [Nat.pow_succ B 4, Nat.mul_comm]; exact Nat.mul_le_mul_left _ (by decide)
  unfold tot
  simp only at h3
  omega

theorem abs_lt {c : Int} (hc : InR c) : c.natAbs < B ^ 5 := Nat.lt_trans (natAbs_lt hc) (by decide)
end Go.Proofs.YtkndnpkpdchbiaaDoor
