/- digits: the reader in plain numbers: its size M, and whether it is beyond. -/
import Derived.Test.YtgcmbiahakampaaJg
namespace Go.Proofs.Ytgcmbiahakampaa
open Go.RowKit
set_option linter.unusedVariables false
set_option linter.unusedSimpArgs false

/-- what a digit makes of a size -/
def stpM (M : Nat) (b : Bool) (d : Nat) : Nat := if b = false ∧ 10 * M + d < 170141183460469231731687303715884105728 then 10 * M + d else M
def stpB (M : Nat) (b : Bool) (d : Nat) : Bool := if b = false ∧ 10 * M + d < 170141183460469231731687303715884105728 then false else true
theorem stpM_lt {M : Nat} {b : Bool} {d : Nat} (h : M < 170141183460469231731687303715884105728) : stpM M b d < 170141183460469231731687303715884105728 := by
  unfold stpM
  split
  · next h => exact h.2
  · exact h
/-- a reader that stands at i, its size M -/
def RD (w : World) (r : Nat) (s : ByteArray) (i M : Nat) (b : Bool) : Prop := VA w r (rc s i (M % 18446744073709551616) (M / 18446744073709551616) b) 85
/-- the digit at a place -/
def dgt (s : ByteArray) (i : Nat) : Nat := if h : i < s.size then s[i].toNat - 48 else 0
def isDg (s : ByteArray) (i : Nat) : Prop := ∃ h : i < s.size, 48 ≤ s[i].toNat ∧ s[i].toNat ≤ 57
theorem wdig_small (hi lo d g l0 cc l1 : Nat) (e1 : lo * 10 = g * 18446744073709551616 + l0) (e2 : l0 + d = cc * 18446744073709551616 + l1) (h : 10 * (hi * 18446744073709551616 + lo) + d < 170141183460469231731687303715884105728) :
    hi * 10 + g + cc < 9223372036854775808 := by omega
theorem wdig_M (M d : Nat) (w : World) (hM : M < 170141183460469231731687303715884105728) (hd : d ≤ 9) :
    ∃ l1 h3 : Nat, ∃ ok : Bool, (∀ w, Calls Try.prog 62 #[.agg (zc (M % 18446744073709551616) (M / 18446744073709551616)).toArray, .int .u8 (d : Int)] w fun e w' => e = .returned (.tuple #[.agg (zc l1 h3).toArray, .bool ok]) ∧ Below w.heap.size w w')
      ∧ (ok = true → 10 * M + d < 170141183460469231731687303715884105728 ∧ l1 = (10 * M + d) % 18446744073709551616 ∧ h3 = (10 * M + d) / 18446744073709551616) ∧ (ok = false → ¬ 10 * M + d < 170141183460469231731687303715884105728) := by
  refine ⟨_, _, _, fun w => wdig_go (M % 18446744073709551616) (M / 18446744073709551616) d _ _ _ _ _ _ _ _ _ w hd (by omega) (by omega) rfl rfl rfl rfl rfl rfl rfl rfl rfl, fun h => ?_, fun h => ?_⟩
  · simp only [Bool.and_eq_true, decide_eq_true_eq] at h
    omega
  · intro h2
    simp only [Bool.and_eq_false_iff, decide_eq_false_iff_not] at h
    have k1 := wdig_small (M / 18446744073709551616) (M % 18446744073709551616) d _ _ _ _ (Nat.div_add_mod' (M % 18446744073709551616 * 10) 18446744073709551616).symm (Nat.div_add_mod' (M % 18446744073709551616 * 10 % 18446744073709551616 + d) 18446744073709551616).symm (by omega)
    generalize M % 18446744073709551616 * 10 / 18446744073709551616 = g at *
    generalize (M % 18446744073709551616 * 10 % 18446744073709551616 + d) / 18446744073709551616 = cc at *
    generalize M / 18446744073709551616 = hi at *
    have f0 : hi * 10 / 18446744073709551616 = 0 := by omega
    have f1 : hi * 10 % 18446744073709551616 = hi * 10 := by omega
    rw [f0, f1] at h
    omega
theorem keep_any (r : Nat) (s : ByteArray) (i M d : Nat) (b : Bool) (w : World) (V : RD w r s i M b) (hM : M < 170141183460469231731687303715884105728) (hd : d ≤ 9) :
    Calls Try.prog 59 #[.pointer (some ⟨r, 0, none⟩), .int .u8 (d : Int)] w fun e w' => e = .returned (.tuple #[]) ∧ RD w' r s i (stpM M b d) (stpB M b d) ∧ Below r w w' := by
  cases b with
  | true =>
    have e1 : stpM M true d = M := by simp [stpM]
    have e2 : stpB M true d = true := by simp [stpB]
    rw [e1, e2]
    exact keep_beyond r s i _ _ (d : Int) w V
  | false =>
    obtain ⟨l1, h3, ok, hw, ht, hf⟩ := wdig_M M d w hM hd
    cases ok with
    | true =>
      obtain ⟨hlt, rfl, rfl⟩ := ht rfl
      have e1 : stpM M false d = 10 * M + d := by simp [stpM, hlt]
      have e2 : stpB M false d = false := by simp [stpB, hlt]
      rw [e1, e2]
      exact keep_ok r s i _ _ _ _ (d : Int) w V hw
    | false =>
      have hge := hf rfl
      have e1 : stpM M false d = M := by simp [stpM, hge]
      have e2 : stpB M false d = true := by simp [stpB, hge]
      rw [e1, e2]
      exact keep_over r s i _ _ _ _ (d : Int) w V hw
theorem digit_t (r : Nat) (s : ByteArray) (i M : Nat) (b : Bool) (w : World) (V : RD w r s i M b) (hM : M < 170141183460469231731687303715884105728) (hb : s.size ≤ 64) (hg : isDg s i) :
    Calls Try.prog 53 #[.pointer (some ⟨r, 0, none⟩)] w fun e w' => e = .returned (.bool true) ∧ RD w' r s (i + 1) (stpM M b (dgt s i)) (stpB M b (dgt s i)) ∧ Below r w w' := by
  obtain ⟨h, h1, h2⟩ := hg
  have ed : (((s[i].toNat : Nat) : Int) - 48) = ((dgt s i : Nat) : Int) := by unfold dgt; rw [dif_pos h]; omega
  have hd9 : dgt s i ≤ 9 := by unfold dgt; rw [dif_pos h]; omega
  refine digit_yes r s i _ _ b w V h hb (by omega) (by omega) _ _ _ (fun w V => ?_)
  rw [ed]
  exact keep_any r s i M (dgt s i) b w V hM hd9
theorem digit_f (r : Nat) (s : ByteArray) (i M : Nat) (b : Bool) (w : World) (V : RD w r s i M b) (hi : i ≤ s.size) (hg : ¬ isDg s i) :
    Calls Try.prog 53 #[.pointer (some ⟨r, 0, none⟩)] w fun e w' => e = .returned (.bool false) ∧ RD w' r s i M b ∧ Below r w w' := by
  by_cases he : i = s.size
  · exact digit_end r s i _ _ b w V he
  · have h : i < s.size := by omega
    by_cases h1 : ((s[i].toNat : Nat) : Int) < 48
    · exact digit_low r s i _ _ b w V h h1
    · by_cases h2 : 57 < ((s[i].toNat : Nat) : Int)
      · exact digit_high r s i _ _ b w V h h2
      · exact absurd ⟨h, by omega, by omega⟩ hg
theorem take_t (r : Nat) (s : ByteArray) (i M : Nat) (b : Bool) (c : Nat) (w : World) (V : RD w r s i M b) (hb : s.size ≤ 64) (h : i < s.size) (hc : s[i].toNat = c) :
    Calls Try.prog 37 #[.pointer (some ⟨r, 0, none⟩), .int .u8 (c : Int)] w fun e w' => e = .returned (.bool true) ∧ RD w' r s (i + 1) M b ∧ Below r w w' :=
  (take_yes r s i _ _ b (c : Int) w V h (by omega) hb).mono fun e w' ⟨a, v, u⟩ => ⟨a, v, u.bel (Below.refl r w) (Nat.le_refl _)⟩
theorem take_f (r : Nat) (s : ByteArray) (i M : Nat) (b : Bool) (c : Nat) (w : World) (V : RD w r s i M b) (hi : i ≤ s.size) (hc : ∀ h : i < s.size, s[i].toNat ≠ c) :
    Calls Try.prog 37 #[.pointer (some ⟨r, 0, none⟩), .int .u8 (c : Int)] w fun e w' => e = .returned (.bool false) ∧ RD w' r s i M b ∧ Below r w w' := by
  by_cases he : i = s.size
  · exact (take_end r s i _ _ b (c : Int) w V he).mono fun e w' ⟨a, v, u⟩ => ⟨a, v, u.bel (Below.refl r w) (Nat.le_refl _)⟩
  · have h : i < s.size := by omega
    have := hc h
    exact (take_no r s i _ _ b (c : Int) w V h (by omega)).mono fun e w' ⟨a, v, u⟩ => ⟨a, v, u.bel (Below.refl r w) (Nat.le_refl _)⟩
end Go.Proofs.Ytgcmbiahakampaa
