/- The contracts of Add, Sub, Cmp in the true numbers; every decimal is in form or not. -/
import Derived.Test.YtbgglghapjfdeaaDoorPc
namespace Go.Proofs.YtbgglghapjfdeaaDoor
open Go.RowKit
set_option linter.unusedVariables false

/-- a sum's coefficient, at the greater scale -/
def tv (ca : Int) (sa : Nat) (cb : Int) (sb : Nat) : Int := ca * (10 : Int) ^ (max sa sb - sa) + cb * (10 : Int) ^ (max sa sb - sb)
theorem sv_up (c : Int) (k : Nat) : sv (decide (c < 0)) (c.natAbs * 10 ^ k) = c * (10 : Int) ^ k := by
  have e := sv_abs c
  have h : ((c.natAbs * 10 ^ k : Nat) : Int) = (c.natAbs : Int) * (10 : Int) ^ k := by simp
  unfold sv at *
  by_cases hc : c < 0
  · simp only [hc, decide_true, if_true] at *
    rw [h, ← Int.neg_mul, e]
  · simp only [hc, decide_false, Bool.false_eq_true, if_false] at *
    rw [h, e]
theorem tot_tv (ca : Int) (sa : Nat) (cb : Int) (sb : Nat) : sv (tot ca sa cb sb).1 (tot ca sa cb sb).2 = tv ca sa cb sb := by
  unfold tot tv up10
  rw [padd_sv, sv_up, sv_up]
theorem sv_in {neg : Bool} {n : Nat} : InR (sv neg n) ↔ (n : Int) < M127 := by
  constructor
  · intro h
    have h1 := h.lo
    have h2 := h.hi
    unfold sv at h1 h2
    cases neg <;> simp at h1 h2 <;> omega
  · intro h
    have : 0 < M127 := by decide
    unfold sv
    cases neg
    · exact ⟨by simp; omega, by simpa using h⟩
    · exact ⟨by simp; omega, by simp; omega⟩
theorem tot_in {ca : Int} {sa : Nat} {cb : Int} {sb : Nat} (h : InR (tv ca sa cb sb)) : ((tot ca sa cb sb).2 : Int) < M127 := sv_in.1 (by rw [tot_tv]; exact h)
theorem tot_out {ca : Int} {sa : Nat} {cb : Int} {sb : Nat} (h : ¬ InR (tv ca sa cb sb)) : M127 ≤ ((tot ca sa cb sb).2 : Int) := by
  apply Classical.byContradiction
  intro c
  exact h (by rw [← tot_tv]; exact sv_in.2 (by omega))
/-- a decimal's value -/
abbrev dv (c s : Int) : Value := .agg #[.int .i64 (dhi c), .int .u64 (dlo c), .int .i64 s]
/-- not in form -/
def Bad (h l s : Int) : Prop := (s < 0 ∨ 18 < s) ∨ (h = -9223372036854775808 ∧ l = 0)
theorem form_cases (h l s : Int) (wh : (Lit.int .i64 h).wf = true) (wl : (Lit.int .u64 l).wf = true) : Bad h l s ∨ ∃ (c : Int) (n : Nat), h = dhi c ∧ l = dlo c ∧ s = n ∧ InR c ∧ (n : Int) ≤ 18 := by
  have hh : -9223372036854775808 ≤ h ∧ h ≤ 9223372036854775807 := by simpa [Lit.wf, IntKind.min, IntKind.max, IntKind.signed, IntKind.bits] using wh
  have hl : 0 ≤ l ∧ l ≤ 18446744073709551615 := by simpa [Lit.wf, IntKind.min, IntKind.max, IntKind.signed, IntKind.bits] using wl
  unfold Bad
  by_cases hb : (s < 0 ∨ 18 < s) ∨ (h = -9223372036854775808 ∧ l = 0)
  · exact Or.inl hb
  · have := dec_words h l hl.1 hl.2
    refine Or.inr ⟨h * 18446744073709551616 + l, s.toNat, this.1.symm, this.2.symm, by omega, ⟨?_, ?_⟩, by omega⟩
    · rw [M127_eq]; omega
    · rw [M127_eq]; omega
theorem tv_self (c : Int) (s : Nat) : tv c s (-c) s = 0 := by unfold tv; simp; omega
theorem tv_comm (a : Int) (s : Nat) (b : Int) (t : Nat) : tv a s b t = tv b t a s := by unfold tv; rw [Nat.max_comm t s, Int.add_comm]
theorem tv_neg (a : Int) (s : Nat) (b : Int) (t : Nat) : tv (-a) s (-b) t = -(tv a s b t) := by unfold tv; rw [Int.neg_mul, Int.neg_mul]; omega
theorem sgn_neg (c : Int) : sgn (-c) = -(sgn c) := by unfold sgn; split <;> split <;> (try split) <;> (try split) <;> omega
theorem sgn_bd (c : Int) : -1 ≤ sgn c ∧ sgn c ≤ 1 := by unfold sgn; split; omega; split <;> omega
theorem InR.zero : InR 0 := ⟨by decide, by decide⟩
theorem dhi_0 : dhi 0 = 0 := by decide
theorem dlo_0 : dlo 0 = 0 := by decide
theorem neg_back (c : Int) (s : Nat) (w : World) (ic : InR c) (hs : (s : Int) ≤ 18) :
    Calls Tryd.prog 38 #[.agg #[.int .i64 (dhi (-c)), .int .u64 (dlo (-c)), .int .i64 s]] w
      fun e w' => e = .returned (.tuple #[.agg #[.int .i64 (dhi c), .int .u64 (dlo c), .int .i64 s], .int .i64 0]) ∧ Below w.heap.size w w' := by
  have h := neg_ok (-c) _ _ s w (IsD.self _) ic.neg hs
  rw [Int.neg_neg] at h
  exact h
theorem sign_opp (c : Int) (s : Nat) (w : World) (ic : InR c) (hs : (s : Int) ≤ 18) :
    Calls Tryd.prog 37 #[.agg #[.int .i64 (dhi (-c)), .int .u64 (dlo (-c)), .int .i64 s]] w
      fun e w' => e = .returned (.tuple #[.int .i64 (-(sgn c)), .int .i64 0]) ∧ Below w.heap.size w w' := by
  have h := sign_ok (-c) _ _ s w (IsD.self _) ic.neg hs
  rw [sgn_neg] at h
  exact h
end Go.Proofs.YtbgglghapjfdeaaDoor
