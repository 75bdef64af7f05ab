/- The call Int of package dec, of all decimals; Of out of scale. -/
import Derived.Test.YteohncnjjgoemaaGreatDoorVa
import Derived.Test.YteohncnjjgoemaaGreatDoorQa
namespace Go.Proofs.YteohncnjjgoemaaGreatDoor
open Go.RowKit
set_option linter.unusedVariables false
attribute [local go_sem] ext_cell ext_frozen ext_drew ext_of_drew ext_of_drewN ext_setCell ext_lt ext_lt1 ext_lt2 ext_lt3 lt_n2 lt_n3 lt_n4 lt_n5 lt_n6

/-- the number without what stands behind the point -/
def cut0 (c : Int) (s : Nat) : Int := sv (decide (c < 0)) (c.natAbs / 10 ^ s)
theorem rv_cut (c : Int) (s : Nat) : rv c s 0 0 = cut0 c s := by
  unfold rv cut0 rquo rnum rden
  rw [show (((0 : Nat) : Int) - s).toNat = 0 by omega, show (-(((0 : Nat) : Int) - s)).toNat = s by omega, Nat.pow_zero, Nat.mul_one, Nat.one_mul]
  have : ∀ q r d, away (decide (c < 0)) q r d 0 = false := by intro q r d; unfold away; split <;> rfl
  rw [this]
  rfl
theorem cut0_abs (c : Int) (s : Nat) : (cut0 c s).natAbs ≤ c.natAbs := by
  have h := Nat.div_le_self c.natAbs (10 ^ s)
  unfold cut0 sv
  generalize c.natAbs / 10 ^ s = k at *
  split <;> omega
theorem cut0_in {c : Int} (s : Nat) (ic : InR c) : InR (cut0 c s) := by
  have h := cut0_abs c s
  have h1 := ic.lo
  have h2 := ic.hi
  exact ⟨by omega, by omega⟩
theorem int_words (q : Int) (h1 : -9223372036854775808 ≤ q) (h2 : q ≤ 9223372036854775807) : wrap64 (dlo q) = q ∧ dhi q = q / 9223372036854775808 := by
  unfold wrap64 dlo dhi; omega
theorem int_far (q : Int) (h : ¬ (-9223372036854775808 ≤ q ∧ q ≤ 9223372036854775807)) : ¬ dhi q = wrap64 (dlo q) / 9223372036854775808 := by
  unfold wrap64 dlo dhi; omega
theorem sgn_ne {x : Int} (h : ¬ x = 0) : (sgn x != 0) = true := by
  rw [bne_iff_ne]
  exact fun e => h ((sgn_zero x).1 e)
set_option maxHeartbeats 1000000 in
set_option maxRecDepth 100000 in
theorem int_yes (c : Int) (s : Nat) (w : World) (ic : InR c) (hs : (s : Int) ≤ 18) (he : tv (cut0 c s) 0 (-c) s = 0) (h1 : -9223372036854775808 ≤ cut0 c s) (h2 : cut0 c s ≤ 9223372036854775807) :
    Calls Tryz.prog 45 #[.agg #[.int .i64 (dhi c), .int .u64 (dlo c), .int .i64 s]] w fun e w' => e = .returned (.tuple #[.int .i64 (cut0 c s), .int .i64 0]) ∧ Below w.heap.size w w' := by
  have iq := cut0_in s ic
  have RS := rescale_yes c s 0 0
  rw [rv_cut] at RS
  have CM := cmp_yes (cut0 c s) c 0 s
  rw [he, show sgn (0 : Int) = 0 from rfl] at CM
  have HRS := (show Hid _ from RS)
  have HCM := (show Hid _ from CM)
  obtain ⟨e1, e2⟩ := int_words _ h1 h2
  clear RS CM he
  have HE2 := (show Hid _ from e2)
  generalize cut0 c s = q at *
  clear e2
  go_enter Tryz.func45, Tryz.ntmps45
  go_wp2_with fail
  refine (HRS.out _ ic hs (by decide) (by decide) iq).mono ?_
  rintro e w1 ⟨rfl, bb⟩
  have Aa := (at3_new w (.int .i64 (dhi c)) (.int .u64 (dlo c)) (.int .i64 s) 41).step bb
  have G := below_over bb
  clear bb
  obtain ⟨a0, a1, a2, a3⟩ := Aa
  go_wp2_with fail
  refine (HCM.out _ iq ic (by decide) hs).mono ?_
  rintro e w2 ⟨rfl, bb⟩
  have Aq := (at3_new w1 _ _ _ _).step bb
  have G := G.trans ((below_over bb).mono G.size)
  clear bb a0 a1 a2 a3
  generalize w1.heap.size = p at *
  obtain ⟨q0, q1, q2, q3⟩ := Aq
  rw [HE2.out] at *
  go_wp2_with fail
  refine bodyPost_ret (v := .tuple #[.int .i64 q, .int .i64 0]) (by simp [results, Tryz.results45, go_sem]) rfl ⟨rfl, G⟩
set_option maxHeartbeats 1000000 in
set_option maxRecDepth 100000 in
theorem int_part (c : Int) (s : Nat) (w : World) (ic : InR c) (hs : (s : Int) ≤ 18) (he : ¬ tv (cut0 c s) 0 (-c) s = 0) :
    Calls Tryz.prog 45 #[.agg #[.int .i64 (dhi c), .int .u64 (dlo c), .int .i64 s]] w fun e w' => e = .returned (.tuple #[.int .i64 0, .int .i64 4]) ∧ Below w.heap.size w w' := by
  have iq := cut0_in s ic
  have RS := rescale_yes c s 0 0
  rw [rv_cut] at RS
  have CM := cmp_yes (cut0 c s) c 0 s
  have hne := sgn_ne he
  have HRS := (show Hid _ from RS)
  have HCM := (show Hid _ from CM)
  clear RS CM he
  generalize sgn (tv (cut0 c s) 0 (-c) s) = o at *
  generalize cut0 c s = q at *
  go_enter Tryz.func45, Tryz.ntmps45
  go_wp2_with fail
  refine (HRS.out _ ic hs (by decide) (by decide) iq).mono ?_
  rintro e w1 ⟨rfl, bb⟩
  have Aa := (at3_new w (.int .i64 (dhi c)) (.int .u64 (dlo c)) (.int .i64 s) 41).step bb
  have G := below_over bb
  clear bb
  obtain ⟨a0, a1, a2, a3⟩ := Aa
  go_wp2_with fail
  refine (HCM.out _ iq ic (by decide) hs).mono ?_
  rintro e w2 ⟨rfl, bb⟩
  have G := G.trans ((below_over bb).mono G.size)
  clear bb a0 a1 a2 a3
  generalize w1.heap.size = p at *
  go_wp2_with fail
  refine bodyPost_ret (v := .tuple #[.int .i64 0, .int .i64 4]) (by simp [results, Tryz.results45, go_sem]) rfl ⟨rfl, G⟩
set_option maxHeartbeats 1000000 in
set_option maxRecDepth 100000 in
theorem int_out (c : Int) (s : Nat) (w : World) (ic : InR c) (hs : (s : Int) ≤ 18) (he : tv (cut0 c s) 0 (-c) s = 0) (h1 : ¬ (-9223372036854775808 ≤ cut0 c s ∧ cut0 c s ≤ 9223372036854775807)) :
    Calls Tryz.prog 45 #[.agg #[.int .i64 (dhi c), .int .u64 (dlo c), .int .i64 s]] w fun e w' => e = .returned (.tuple #[.int .i64 0, .int .i64 4]) ∧ Below w.heap.size w w' := by
  have iq := cut0_in s ic
  have RS := rescale_yes c s 0 0
  rw [rv_cut] at RS
  have CM := cmp_yes (cut0 c s) c 0 s
  rw [he, show sgn (0 : Int) = 0 from rfl] at CM
  have HRS := (show Hid _ from RS)
  have HCM := (show Hid _ from CM)
  have e1 := int_far _ h1
  have e2 : (dhi (cut0 c s) != wrap64 (dlo (cut0 c s)) / 9223372036854775808) = true := by rw [bne_iff_ne]; exact e1
  clear RS CM he h1 e1
  generalize cut0 c s = q at *
  have d1 := dhi_bd iq
  have d2 := dlo_bd q
  go_enter Tryz.func45, Tryz.ntmps45
  go_wp2_with fail
  refine (HRS.out _ ic hs (by decide) (by decide) iq).mono ?_
  rintro e w1 ⟨rfl, bb⟩
  have Aa := (at3_new w (.int .i64 (dhi c)) (.int .u64 (dlo c)) (.int .i64 s) 41).step bb
  have G := below_over bb
  clear bb
  obtain ⟨a0, a1, a2, a3⟩ := Aa
  go_wp2_with fail
  refine (HCM.out _ iq ic (by decide) hs).mono ?_
  rintro e w2 ⟨rfl, bb⟩
  have Aq := (at3_new w1 _ _ _ _).step bb
  have G := G.trans ((below_over bb).mono G.size)
  clear bb a0 a1 a2 a3
  generalize w1.heap.size = p at *
  obtain ⟨q0, q1, q2, q3⟩ := Aq
  go_wp2_with fail
  refine bodyPost_ret (v := .tuple #[.int .i64 0, .int .i64 4]) (by simp [results, Tryz.results45, go_sem]) rfl ⟨rfl, G⟩
set_option maxHeartbeats 1000000 in
set_option maxRecDepth 100000 in
theorem int_form (h l s : Int) (w : World) (hb : Bad h l s) :
    Calls Tryz.prog 45 #[.agg #[.int .i64 h, .int .u64 l, .int .i64 s]] w fun e w' => e = .returned (.tuple #[.int .i64 0, .int .i64 3]) ∧ Below w.heap.size w w' := by
  have H : Hid (Bad h l s) := hb
  clear hb
  go_enter Tryz.func45, Tryz.ntmps45
  go_wp2_with fail
  refine (rescale_form h l s 0 0 _ (by decide) (by decide) (by decide) H.out).mono ?_
  rintro e w1 ⟨rfl, bb⟩
  have G := bel_alloc (below_over bb) (.cells #[.int .i64 0, .int .u64 0, .int .i64 0] 41)
  clear bb
  go_wp2_with fail
  refine bodyPost_ret (v := .tuple #[.int .i64 0, .int .i64 3]) (by simp [results, Tryz.results45, go_sem]) rfl ⟨rfl, G⟩
set_option maxHeartbeats 1000000 in
set_option maxRecDepth 100000 in
theorem of_arg (n s : Int) (w : World) (hs : s < 0 ∨ 18 < s) :
    Calls Tryz.prog 28 #[.int .i64 n, .int .i64 s] w fun e w' => e = .returned (.tuple #[.agg #[.int .i64 0, .int .u64 0, .int .i64 0], .int .i64 1]) ∧ Below w.heap.size w w' := by
  have H := (show Hid _ from hs)
  clear hs
  go_enter Tryz.func28, Tryz.ntmps28
  go_wp2_with (go_at_call 61; refine (isScale_no _ _ H.out).mono ?_; rintro e w1 ⟨rfl, rfl⟩)
  refine bodyPost_ret (v := .tuple #[.agg #[.int .i64 0, .int .u64 0, .int .i64 0], .int .i64 1]) (by simp [results, Tryz.results28, go_sem]) rfl ⟨rfl, ?_⟩
  repeat (first | exact Below.refl _ _ | refine Below.drew ?_ | refine below_drewN ?_ _ | refine bel_alloc ?_ _ | refine bel_ext ?_ _ | (refine Below.setCell ?_ ?_ _; rotate_left; (simp <;> omega)))
end Go.Proofs.YteohncnjjgoemaaGreatDoor
