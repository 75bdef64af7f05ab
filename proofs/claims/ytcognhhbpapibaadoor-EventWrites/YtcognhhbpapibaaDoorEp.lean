/- event: a number turned by xor; an Op's count is at least one. -/
import Derived.Test.YtcognhhbpapibaaDoorEo
namespace Go.Proofs.YtcognhhbpapibaaDoor
open Go.RowKit
set_option linter.unusedVariables false

theorem ofInt_nat (v : Int) : (BitVec.ofInt 64 v).toNat = (v % 18446744073709551616).toNat := by simp [BitVec.toNat_ofInt]
theorem xor64 (v b : Int) : bits .xor .i64 v b = (((BitVec.ofInt 64 v ^^^ BitVec.ofInt 64 b).toNat : Int) + 9223372036854775808) % 18446744073709551616 - 9223372036854775808 := by
  show IntKind.i64.wrap ((BitVec.ofInt 64 v ^^^ BitVec.ofInt 64 b).toNat : Int) = _
  rw [IntKind.wrap_i64]
theorem xor_bd (v b : Int) : I64 (bits .xor .i64 v b) := by
  rw [xor64]
  unfold I64
  omega
theorem xor_fix (v b : Int) (hv : I64 v) (hb : I64 b) : bits .xor .i64 v b = v ↔ b = 0 := by
  unfold I64 at hv hb
  rw [xor64]
  have hlt := (BitVec.ofInt 64 v ^^^ BitVec.ofInt 64 b).isLt
  have hv2 := ofInt_nat v
  have hb2 := ofInt_nat b
  constructor
  · intro e
    have e1 : (BitVec.ofInt 64 v ^^^ BitVec.ofInt 64 b).toNat = (BitVec.ofInt 64 v).toNat := by rw [hv2]; omega
    have e2 := BitVec.eq_of_toNat_eq e1
    have e3 : BitVec.ofInt 64 b = 0#64 := by
      have := congrArg (fun z => BitVec.ofInt 64 v ^^^ z) e2
      simpa [← BitVec.xor_assoc] using this
    rw [e3] at hb2
    simp at hb2
    omega
  · intro e
    subst e
    have e3 : BitVec.ofInt 64 v ^^^ BitVec.ofInt 64 0 = BitVec.ofInt 64 v := by simp
    rw [e3, hv2]
    omega
theorem ct_pos {o : Nat} (h1 : 1 ≤ o) (h2 : o ≤ 15) : 1 ≤ ct.getD o 0 := by
  have : ∀ j : Fin 16, 1 ≤ j.val → 1 ≤ ct.getD j.val 0 := by decide
  exact this ⟨o, by omega⟩ h1
end Go.Proofs.YtcognhhbpapibaaDoor
