/- texts of the model: Pg Ph Va Vc -/
import Derived.Test.YtjkiplndbcmmbaaGreatDoorW11
set_option linter.unusedVariables false
set_option linter.unusedSimpArgs false
set_option maxHeartbeats 16000000
set_option maxRecDepth 100000
namespace Go.Proofs.YtjkiplndbcmmbaaGreatDoor
open Tryz
open Go.RowKit
def tv (ca : Int) (sa : Nat) (cb : Int) (sb : Nat) : Int := ca * (10 : Int) ^ (max sa sb - sa) + cb * (10 : Int) ^ (max sa sb - sb)
theorem uL (c : Int) (k : Nat) : sv (decide (c < 0)) (c.natAbs * 10 ^ k) = c * (10 : Int) ^ k := by
 have e := iu c
 have h : ((c.natAbs * 10 ^ k : Nat) : Int) = (c.natAbs : Int) * (10 : Int) ^ k := by simp
 unfold sv at *
 by_cases hc : c < 0
 ·simp only [hc, decide_true, if_true] at *
  rw [h, ← Int.neg_mul, e]
 ·simp only [hc, decide_false, Bool.false_eq_true, if_false] at *
  rw [h, e]
theorem jQ (ca : Int) (sa : Nat) (cb : Int) (sb : Nat) : sv (tot ca sa cb sb).1 (tot ca sa cb sb).2 = tv ca sa cb sb := by
 unfold tot tv up10
 rw [tI, uL, uL]
theorem sv_in {neg : Bool} {n : Nat} : InR (sv neg n) ↔ (n : Int) < M127 := by
 constructor
 ·intro h
  have h1 := h.lo
  have h2 := h.hi
  unfold sv at h1 h2
  cases neg <;> simp at h1 h2 <;> omega
 ·intro h
  have : 0 < M127 := by decide
  unfold sv
  cases neg
  ·exact ⟨by simp; omega, by simpa using h⟩
  ·exact ⟨by simp; omega, by simp; omega⟩
theorem rQ {ca : Int} {sa : Nat} {cb : Int} {sb : Nat} (h : InR (tv ca sa cb sb)) : ((tot ca sa cb sb).2 : Int) < M127 := sv_in.1 (by rw [jQ]; exact h)
abbrev dv (c s : Int) : Value := .agg #[.int .i64 (dhi c), .int .u64 (dlo c), .int .i64 s]
theorem mF (ca cb : Int) (sa sb : Nat) (w : World) (ia : InR ca) (ib : InR cb) (hsa : (sa : Int) ≤ 18) (hsb : (sb : Int) ≤ 18) (h : InR (tv ca sa cb sb)) :
  Calls prog 30 #[.agg #[.int .i64 (dhi ca), .int .u64 (dlo ca), .int .i64 sa], .agg #[.int .i64 (dhi cb), .int .u64 (dlo cb), .int .i64 sb]] w
   fun e w' => e = .returned (.tuple #[.agg #[.int .i64 (dhi (tv ca sa cb sb)), .int .u64 (dlo (tv ca sa cb sb)), .int .i64 ((max sa sb : Nat) : Int)], .int .i64 0]) ∧ Below w.heap.size w w' := by
 have := uV ca _ _ cb _ _ sa sb w (IsD.self _) (IsD.self _) ia ib hsa hsb (rQ h)
 rw [jQ] at this
 exact this
theorem ut (ca cb : Int) (sa sb : Nat) (w : World) (ia : InR ca) (ib : InR cb) (hsa : (sa : Int) ≤ 18) (hsb : (sb : Int) ≤ 18) (h : InR (tv ca sa (-cb) sb)) :
  Calls prog 163 #[.agg #[.int .i64 (dhi ca), .int .u64 (dlo ca), .int .i64 sa], .agg #[.int .i64 (dhi cb), .int .u64 (dlo cb), .int .i64 sb]] w
   fun e w' => e = .returned (.tuple #[.agg #[.int .i64 (dhi (tv ca sa (-cb) sb)), .int .u64 (dlo (tv ca sa (-cb) sb)), .int .i64 ((max sa sb : Nat) : Int)], .int .i64 0]) ∧ Below w.heap.size w w' := by
 have := wB ca _ _ cb _ _ sa sb w (IsD.self _) (IsD.self _) ia ib hsa hsb (rQ h)
 rw [jQ] at this
 exact this
theorem gw (ca cb : Int) (sa sb : Nat) (w : World) (ia : InR ca) (ib : InR cb) (hsa : (sa : Int) ≤ 18) (hsb : (sb : Int) ≤ 18) :
  Calls prog 36 #[.agg #[.int .i64 (dhi ca), .int .u64 (dlo ca), .int .i64 sa], .agg #[.int .i64 (dhi cb), .int .u64 (dlo cb), .int .i64 sb]] w
   fun e w' => e = .returned (.tuple #[.int .i64 (sgn (tv ca sa (-cb) sb)), .int .i64 0]) ∧ Below w.heap.size w w' := by
 have := vD ca _ _ cb _ _ sa sb w (IsD.self _) (IsD.self _) ia ib hsa hsb
 rw [jQ] at this
 exact this
def Bad (h l s : Int) : Prop := (s < 0 ∨ 18 < s) ∨ (h = -9223372036854775808 ∧ l = 0)
theorem gS (h l s : Int) (wh : (Lit.int .i64 h).wf = true) (wl : (Lit.int .u64 l).wf = true) : Bad h l s ∨ ∃ (c : Int) (n : Nat), h = dhi c ∧ l = dlo c ∧ s = n ∧ InR c ∧ (n : Int) ≤ 18 := by
 have hh : -9223372036854775808 ≤ h ∧ h ≤ 9223372036854775807 := by simpa [Lit.wf, IntKind.min, IntKind.max, IntKind.signed, IntKind.bits] using wh
 have hl : 0 ≤ l ∧ l ≤ 18446744073709551615 := by simpa [Lit.wf, IntKind.min, IntKind.max, IntKind.signed, IntKind.bits] using wl
 unfold Bad
 by_cases hb : (s < 0 ∨ 18 < s) ∨ (h = -9223372036854775808 ∧ l = 0)
 ·exact Or.inl hb
 ·have := nV h l hl.1 hl.2
  refine Or.inr ⟨h * 18446744073709551616 + l, s.toNat, this.1.symm, this.2.symm, by omega, ⟨?_, ?_⟩, by omega⟩
  ·rw [bN]; omega
  ·rw [bN]; omega
theorem nz (c : Int) (s : Nat) : tv c s (-c) s = 0 := by unfold tv; simp; omega
end Go.Proofs.YtjkiplndbcmmbaaGreatDoor
namespace Go.Proofs.YtjkiplndbcmmbaaGreatDoor
open Go.RowKit
attribute [local go_sem] ap ai ar af ae ag aD av ax ay aN aO aP aQ aR
theorem uN (c : Int) {s m t : Nat} (h1 : s ≤ m) (h2 : m ≤ t) : c * (10 : Int) ^ (m - s) * (10 : Int) ^ (t - m) = c * (10 : Int) ^ (t - s) := by
 rw [Int.mul_assoc, ← Int.pow_add, show m - s + (t - m) = t - s by omega]
theorem ya (a : Int) (s : Nat) (b : Int) (u t : Nat) (h : max s u ≤ t) : tv a s b u * (10 : Int) ^ (t - max s u) = a * (10 : Int) ^ (t - s) + b * (10 : Int) ^ (t - u) := by
 unfold tv
 rw [Int.add_mul, uN a (by omega) h, uN b (by omega) h]
end Go.Proofs.YtjkiplndbcmmbaaGreatDoor
namespace Go.Proofs.YtjkiplndbcmmbaaGreatDoor
open Tryz
open Go.RowKit
attribute [local go_sem] ap ai ar af ae ag aD av ax ay aN aO aP aQ aR
def rv (c : Int) (s t mode : Nat) : Int := sv (decide (c < 0)) (rquo (decide (c < 0)) c.natAbs 1 ((t : Int) - s) mode)
def mv (a : Int) (s : Nat) (b : Int) (u t mode : Nat) : Int := sv ((decide (a < 0)) != (decide (b < 0))) (rquo ((decide (a < 0)) != (decide (b < 0))) (a.natAbs * b.natAbs) 1 ((t : Int) - s - u) mode)
def qv (a : Int) (s : Nat) (b : Int) (u t mode : Nat) : Int := sv ((decide (a < 0)) != (decide (b < 0))) (rquo ((decide (a < 0)) != (decide (b < 0))) a.natAbs b.natAbs ((t : Int) + u - s) mode)
theorem cp (c : Int) (s t mode : Nat) (w : World) (ic : InR c) (hs : (s : Int) ≤ 18) (ht : (t : Int) ≤ 18) (hm : (mode : Int) ≤ 6) (hr : InR (rv c s t mode)) :
  Calls prog 35 #[.agg #[.int .i64 (dhi c), .int .u64 (dlo c), .int .i64 s], .int .i64 t, .int .i64 mode] w
   fun e w' => e = .returned (.tuple #[.agg #[.int .i64 (dhi (rv c s t mode)), .int .u64 (dlo (rv c s t mode)), .int .i64 t], .int .i64 0]) ∧ Below w.heap.size w w' :=
 mr c _ _ s t mode w (IsD.self _) ic hs ht hm (sv_in.1 hr)
theorem tD (ca cb : Int) (sa sb t mode : Nat) (w : World) (ia : InR ca) (ib : InR cb) (hsa : (sa : Int) ≤ 18) (hsb : (sb : Int) ≤ 18) (ht : (t : Int) ≤ 18) (hm : (mode : Int) ≤ 6) (hr : InR (mv ca sa cb sb t mode)) :
  Calls prog 161 #[.agg #[.int .i64 (dhi ca), .int .u64 (dlo ca), .int .i64 sa], .agg #[.int .i64 (dhi cb), .int .u64 (dlo cb), .int .i64 sb], .int .i64 t, .int .i64 mode] w
   fun e w' => e = .returned (.tuple #[.agg #[.int .i64 (dhi (mv ca sa cb sb t mode)), .int .u64 (dlo (mv ca sa cb sb t mode)), .int .i64 t], .int .i64 0]) ∧ Below w.heap.size w w' :=
 vU ca _ _ cb _ _ sa sb t mode w (IsD.self _) (IsD.self _) ia ib hsa hsb ht hm (sv_in.1 hr)
theorem qf (ca cb : Int) (sa sb t mode : Nat) (w : World) (ia : InR ca) (ib : InR cb) (hsa : (sa : Int) ≤ 18) (hsb : (sb : Int) ≤ 18) (ht : (t : Int) ≤ 18) (hm : (mode : Int) ≤ 6) (h0 : ¬ cb = 0) (hr : InR (qv ca sa cb sb t mode)) :
  Calls prog 164 #[.agg #[.int .i64 (dhi ca), .int .u64 (dlo ca), .int .i64 sa], .agg #[.int .i64 (dhi cb), .int .u64 (dlo cb), .int .i64 sb], .int .i64 t, .int .i64 mode] w
   fun e w' => e = .returned (.tuple #[.agg #[.int .i64 (dhi (qv ca sa cb sb t mode)), .int .u64 (dlo (qv ca sa cb sb t mode)), .int .i64 t], .int .i64 0]) ∧ Below w.heap.size w w' :=
 wj ca _ _ cb _ _ sa sb t mode w (IsD.self _) (IsD.self _) ia ib hsa hsb ht hm h0 (sv_in.1 hr)
def cut0 (c : Int) (s : Nat) : Int := sv (decide (c < 0)) (c.natAbs / 10 ^ s)
theorem rA (c : Int) (s : Nat) : rv c s 0 0 = cut0 c s := by
 unfold rv cut0 rquo rnum rden
 rw [show (((0 : Nat) : Int) - s).toNat = 0 by omega, show (-(((0 : Nat) : Int) - s)).toNat = s by omega, Nat.pow_zero, Nat.mul_one, Nat.one_mul]
 have : ∀ q r d, away (decide (c < 0)) q r d 0 = false := by intro q r d; unfold away; split <;> rfl
 rw [this]
 rfl
theorem qd (c : Int) (s : Nat) : (cut0 c s).natAbs ≤ c.natAbs := by
 have h := Nat.div_le_self c.natAbs (10 ^ s)
 unfold cut0 sv
 generalize c.natAbs / 10 ^ s = k at *
 split <;> omega
theorem mK {c : Int} (s : Nat) (ic : InR c) : InR (cut0 c s) := by
 have h := qd c s
 have h1 := ic.lo
 have h2 := ic.hi
 exact ⟨by omega, by omega⟩
theorem oh (q : Int) (h1 : -9223372036854775808 ≤ q) (h2 : q ≤ 9223372036854775807) : wrap64 (dlo q) = q ∧ dhi q = q / 9223372036854775808 := by
 unfold wrap64 dlo dhi; omega
theorem t7 (q : Int) (h : ¬ (-9223372036854775808 ≤ q ∧ q ≤ 9223372036854775807)) : ¬ dhi q = wrap64 (dlo q) / 9223372036854775808 := by
 unfold wrap64 dlo dhi; omega
theorem mU (c : Int) (s : Nat) (w : World) (ic : InR c) (hs : (s : Int) ≤ 18) (he : tv (cut0 c s) 0 (-c) s = 0) (h1 : -9223372036854775808 ≤ cut0 c s) (h2 : cut0 c s ≤ 9223372036854775807) :
  Calls prog 15 #[.agg #[.int .i64 (dhi c), .int .u64 (dlo c), .int .i64 s]] w fun e w' => e = .returned (.tuple #[.int .i64 (cut0 c s), .int .i64 0]) ∧ Below w.heap.size w w' := by
 have iq := mK s ic
 have RS := cp c s 0 0
 rw [rA] at RS
 have CM := gw (cut0 c s) c 0 s
 rw [he, show sgn (0 : Int) = 0 from rfl] at CM
 have HRS : Hid _ := RS
 have HCM : Hid _ := CM
 obtain ⟨e1, e2⟩ := oh _ h1 h2
 clear RS CM he
 have HE2 : Hid _ := e2
 generalize cut0 c s = q at *
 clear e2
 go_enter func15, ntmps15
 go_wp2_with fail
 refine (HRS.out _ ic hs (by decide) (by decide) iq).mono ?_
 rintro e w1 ⟨rfl, bb⟩
 have Aa := (dt w (.int .i64 (dhi c)) (.int .u64 (dlo c)) (.int .i64 s) 44).step bb
 have G := aC bb
 clear bb
 obtain ⟨a0, a1, a2, a3⟩ := Aa
 go_wp2_with fail
 refine (HCM.out _ iq ic (by decide) hs).mono ?_
 rintro e w2 ⟨rfl, bb⟩
 have Aq := (dt w1 _ _ _ _).step bb
 have G := G.trans ((aC bb).mono G.size)
 clear bb a0 a1 a2 a3
 generalize w1.heap.size = p at *
 obtain ⟨q0, q1, q2, q3⟩ := Aq
 rw [HE2.out] at *
 go_wp2_with fail
 refine bodyPost_ret (v := .tuple #[.int .i64 q, .int .i64 0]) (by simp [results, results15, go_sem]) rfl ⟨rfl, G⟩
theorem t8 (c : Int) (s : Nat) (w : World) (ic : InR c) (hs : (s : Int) ≤ 18) (he : tv (cut0 c s) 0 (-c) s = 0) (h1 : ¬ (-9223372036854775808 ≤ cut0 c s ∧ cut0 c s ≤ 9223372036854775807)) :
  Calls prog 15 #[.agg #[.int .i64 (dhi c), .int .u64 (dlo c), .int .i64 s]] w fun e w' => e = .returned (.tuple #[.int .i64 0, .int .i64 4]) ∧ Below w.heap.size w w' := by
 have iq := mK s ic
 have RS := cp c s 0 0
 rw [rA] at RS
 have CM := gw (cut0 c s) c 0 s
 rw [he, show sgn (0 : Int) = 0 from rfl] at CM
 have HRS : Hid _ := RS
 have HCM : Hid _ := CM
 have e1 := t7 _ h1
 have e2 : (dhi (cut0 c s) != wrap64 (dlo (cut0 c s)) / 9223372036854775808) = true := by rw [bne_iff_ne]; exact e1
 clear RS CM he h1 e1
 generalize cut0 c s = q at *
 have d1 := lT iq
 have d2 := gP q
 go_enter func15, ntmps15
 go_wp2_with fail
 refine (HRS.out _ ic hs (by decide) (by decide) iq).mono ?_
 rintro e w1 ⟨rfl, bb⟩
 have Aa := (dt w (.int .i64 (dhi c)) (.int .u64 (dlo c)) (.int .i64 s) 44).step bb
 have G := aC bb
 clear bb
 obtain ⟨a0, a1, a2, a3⟩ := Aa
 go_wp2_with fail
 refine (HCM.out _ iq ic (by decide) hs).mono ?_
 rintro e w2 ⟨rfl, bb⟩
 have Aq := (dt w1 _ _ _ _).step bb
 have G := G.trans ((aC bb).mono G.size)
 clear bb a0 a1 a2 a3
 generalize w1.heap.size = p at *
 obtain ⟨q0, q1, q2, q3⟩ := Aq
 go_wp2_with fail
 refine bodyPost_ret (v := .tuple #[.int .i64 0, .int .i64 4]) (by simp [results, results15, go_sem]) rfl ⟨rfl, G⟩
end Go.Proofs.YtjkiplndbcmmbaaGreatDoor