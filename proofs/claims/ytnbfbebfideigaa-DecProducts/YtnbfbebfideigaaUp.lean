/- The document's decimals: the contracts of DocCmp and DocAdd in form. -/
import Derived.Test.YtnbfbebfideigaaUo
namespace Go.Proofs.Ytnbfbebfideigaa
open Go.RowKit
set_option linter.unusedVariables false
attribute [local go_sem ↓] Go.wp_at_zero Go.wp_at_succ

theorem tv_at (ca cb : Int) (sa sb : Nat) (M : Int) (hM : M = max (sa : Int) sb) : ca * 10 ^ (M - sa).toNat = ca * (10 : Int) ^ (max sa sb - sa) ∧ cb * 10 ^ (M - sb).toNat = cb * (10 : Int) ^ (max sa sb - sb) := by
  have e1 : (M - sa).toNat = max sa sb - sa := by omega
  have e2 : (M - sb).toNat = max sa sb - sb := by omega
  rw [e1, e2]
  exact ⟨rfl, rfl⟩
theorem up_mi {c : Int} (h : InR c) (k : Nat) (hk : k ≤ 40) : Mi (c * 10 ^ k) := by
  have h1 := inr_abs h
  rw [M127_eq] at h1
  refine mi_of (k := 300) ?_ (by omega)
  rw [Int.natAbs_mul, ten_abs]
  have h2 : (10 : Nat) ^ k ≤ 10 ^ 40 := Nat.pow_le_pow_right (by decide) hk
  have h3 : c.natAbs * 10 ^ k ≤ 170141183460469231731687303715884105728 * 10 ^ 40 := Nat.mul_le_mul (by omega) h2
  exact Nat.lt_of_le_of_lt h3 (by decide +kernel)
theorem at_eq (c : Int) (s : Nat) (t X : Int) (w : World) (ic : InR c) (h1 : (s : Int) ≤ t) (h2 : t ≤ 18) (hX : X = c * 10 ^ (t - s).toNat) :
    Calls Try.prog 35 #[.agg #[.int .i64 (dhi c), .int .u64 (dlo c), .int .i64 s], .int .i64 t] w fun e w' => (∃ r, e = .returned r ∧ In w' r X) ∧ Below w.heap.size w w' := by
  rw [hX]; exact at_ok c s t w ic h1 h2
set_option maxHeartbeats 1000000 in
set_option maxRecDepth 100000 in
theorem dcmp_lt (ca cb : Int) (sa sb : Nat) (w : World) (ia : InR ca) (ib : InR cb) (hsa : (sa : Int) ≤ 18) (hsb : (sb : Int) ≤ 18) (hlt : sa < sb) :
    Calls Try.prog 13 #[.agg #[.int .i64 (dhi ca), .int .u64 (dlo ca), .int .i64 sa], .agg #[.int .i64 (dhi cb), .int .u64 (dlo cb), .int .i64 sb]] w fun e w' => e = .returned (.tuple #[.int .i64 (sgn (tv ca sa (-cb) sb)), .int .i64 0]) ∧ Below w.heap.size w w' := by
  obtain ⟨X, hX⟩ : ∃ X, X = ca * 10 ^ ((sb : Int) - sa).toNat := ⟨_, rfl⟩
  obtain ⟨Y, hY⟩ : ∃ Y, Y = cb * 10 ^ ((sb : Int) - sb).toNat := ⟨_, rfl⟩
  have HV : Hid (sgn (X - Y) = sgn (tv ca sa (-cb) sb)) := by
    obtain ⟨e1, e2⟩ := tv_at ca cb sa sb (sb : Int) (by omega)
    show _ = _
    rw [hX, hY, e1, e2]; unfold tv; rw [Int.neg_mul]; rfl
  have MX : Hid (Mi X) := by rw [hX]; exact up_mi ia _ (by omega)
  have MY : Hid (Mi Y) := by rw [hY]; exact up_mi ib _ (by omega)
  have HX := (show Hid _ from hX)
  have HY := (show Hid _ from hY)
  clear hX hY
  have A := (v3_new w (.int .i64 (dhi ca)) (.int .u64 (dlo ca)) (.int .i64 sa) 24).alloc (.cells #[.int .i64 (dhi cb), .int .u64 (dlo cb), .int .i64 sb] 24)
  have B := v3_new (w.alloc (.cells #[.int .i64 (dhi ca), .int .u64 (dlo ca), .int .i64 sa] 24)) (.int .i64 (dhi cb)) (.int .u64 (dlo cb)) (.int .i64 sb) 24
  rw [size_al] at B
  have hW := bel_al (bel_al (Below.refl _ w) (.cells #[.int .i64 (dhi ca), .int .u64 (dlo ca), .int .i64 sa] 24)) (.cells #[.int .i64 (dhi cb), .int .u64 (dlo cb), .int .i64 sb] 24)
  go_enter Try.func13, Try.ntmps13
  go_wp2_with fail
  refine (form_yes ca sa _ ia hsa).mono ?_
  rintro e W ⟨rfl, hb⟩
  replace A := A.step hb
  replace B := B.step hb
  replace hW := hW.trans (hb.mono hW.size)
  clear hb
  obtain ⟨p, hp⟩ : ∃ p, p = w.heap.size := ⟨_, rfl⟩
  rw [← hp] at A B
  rw [← hp]
  clear hp
  have b0 := B.c0
  have b1 := B.c1
  have b2 := B.c2
  go_wp2_with fail
  refine (form_yes cb sb _ ib hsb).mono ?_
  rintro e W2 ⟨rfl, hb⟩
  replace A := A.step hb
  replace B := B.step hb
  replace hW := hW.trans (hb.mono hW.size)
  clear hb b0 b1 b2
  have a2 := A.c2
  have b2 := B.c2
  go_wp2_with fail
  clear a2 b2
  go_region_held3 (fun w' => w'.cell? ⟨p, 0, none⟩ = some (.int .i64 (dhi ca)) ∧ w'.cell? ⟨p, 1, none⟩ = some (.int .u64 (dlo ca)) ∧ w'.cell? ⟨p, 2, none⟩ = some (.int .i64 sa) ∧ w'.cell? ⟨p + 1, 0, none⟩ = some (.int .i64 (dhi cb)) ∧ w'.cell? ⟨p + 1, 1, none⟩ = some (.int .u64 (dlo cb)) ∧ w'.cell? ⟨p + 1, 2, none⟩ = some (.int .i64 sb))
    (first | exact ⟨A.c0, A.c1, A.c2, B.c0, B.c1, B.c2⟩ | exact ⟨A.drew.c0, A.drew.c1, A.drew.c2, B.drew.c0, B.drew.c1, B.drew.c2⟩ | exact ⟨A3.c0, A3.c1, A3.c2, B3.c0, B3.c1, B3.c2⟩ | exact ⟨A4.c0, A4.c1, A4.c2, B4.c0, B4.c1, B4.c2⟩ | exact ⟨A5.c0, A5.c1, A5.c2, B5.c0, B5.c1, B5.c2⟩)
    (first
      | (go_at_call_of 35 (Value.agg #[.int .i64 (dhi ca), .int .u64 (dlo ca), .int .i64 (sa : Int)]); refine (at_eq ca sa _ X _ ia (by omega) (by omega) HX.out).mono ?_; rintro e w3 ⟨⟨r3, rfl, hr3⟩, hb3⟩; have A3 := A.drew.step hb3; have B3 := B.drew.step hb3; have hW3 := hW.trans ((bel_of_drew hb3).mono hW.size))
      | (go_at_call_of 35 (Value.agg #[.int .i64 (dhi cb), .int .u64 (dlo cb), .int .i64 (sb : Int)]); refine (at_eq cb sb _ Y _ ib (by omega) (by omega) HY.out).mono ?_; rintro e w4 ⟨⟨r4, rfl, hr4⟩, hb4⟩; have A4 := A3.step hb4; have B4 := B3.step hb4; have h4 := hr3.step hb4; have hW4 := hW3.trans (hb4.mono hW3.size))
      | (go_at_call 41; refine (order_in _ _ X Y _ h4 hr4 MX.out MY.out).mono ?_; rintro e w5 ⟨rfl, hb5⟩; have A5 := A4.step hb5; have B5 := B4.step hb5; have hW5 := hW4.trans (hb5.mono hW4.size)))
  clear A B A3 B3 A4 B4 A5 B5 hr3 hr4 h4 hb3 hb4 hb5 hW hW3 hW4
  rw [HV.out]
  go_wp2_with fail
  refine bodyPost_ret (v := .tuple #[.int .i64 (sgn (tv ca sa (-cb) sb)), .int .i64 0]) (by simp [results, Try.results13, go_sem]) rfl ⟨rfl, hW5⟩
set_option maxHeartbeats 1000000 in
set_option maxRecDepth 100000 in
theorem dcmp_ge (ca cb : Int) (sa sb : Nat) (w : World) (ia : InR ca) (ib : InR cb) (hsa : (sa : Int) ≤ 18) (hsb : (sb : Int) ≤ 18) (hlt : ¬ sa < sb) :
    Calls Try.prog 13 #[.agg #[.int .i64 (dhi ca), .int .u64 (dlo ca), .int .i64 sa], .agg #[.int .i64 (dhi cb), .int .u64 (dlo cb), .int .i64 sb]] w fun e w' => e = .returned (.tuple #[.int .i64 (sgn (tv ca sa (-cb) sb)), .int .i64 0]) ∧ Below w.heap.size w w' := by
  obtain ⟨X, hX⟩ : ∃ X, X = ca * 10 ^ ((sa : Int) - sa).toNat := ⟨_, rfl⟩
  obtain ⟨Y, hY⟩ : ∃ Y, Y = cb * 10 ^ ((sa : Int) - sb).toNat := ⟨_, rfl⟩
  have HV : Hid (sgn (X - Y) = sgn (tv ca sa (-cb) sb)) := by
    obtain ⟨e1, e2⟩ := tv_at ca cb sa sb (sa : Int) (by omega)
    show _ = _
    rw [hX, hY, e1, e2]; unfold tv; rw [Int.neg_mul]; rfl
  have MX : Hid (Mi X) := by rw [hX]; exact up_mi ia _ (by omega)
  have MY : Hid (Mi Y) := by rw [hY]; exact up_mi ib _ (by omega)
  have HX := (show Hid _ from hX)
  have HY := (show Hid _ from hY)
  clear hX hY
  have A := (v3_new w (.int .i64 (dhi ca)) (.int .u64 (dlo ca)) (.int .i64 sa) 24).alloc (.cells #[.int .i64 (dhi cb), .int .u64 (dlo cb), .int .i64 sb] 24)
  have B := v3_new (w.alloc (.cells #[.int .i64 (dhi ca), .int .u64 (dlo ca), .int .i64 sa] 24)) (.int .i64 (dhi cb)) (.int .u64 (dlo cb)) (.int .i64 sb) 24
  rw [size_al] at B
  have hW := bel_al (bel_al (Below.refl _ w) (.cells #[.int .i64 (dhi ca), .int .u64 (dlo ca), .int .i64 sa] 24)) (.cells #[.int .i64 (dhi cb), .int .u64 (dlo cb), .int .i64 sb] 24)
  go_enter Try.func13, Try.ntmps13
  go_wp2_with fail
  refine (form_yes ca sa _ ia hsa).mono ?_
  rintro e W ⟨rfl, hb⟩
  replace A := A.step hb
  replace B := B.step hb
  replace hW := hW.trans (hb.mono hW.size)
  clear hb
  obtain ⟨p, hp⟩ : ∃ p, p = w.heap.size := ⟨_, rfl⟩
  rw [← hp] at A B
  rw [← hp]
  clear hp
  have b0 := B.c0
  have b1 := B.c1
  have b2 := B.c2
  go_wp2_with fail
  refine (form_yes cb sb _ ib hsb).mono ?_
  rintro e W2 ⟨rfl, hb⟩
  replace A := A.step hb
  replace B := B.step hb
  replace hW := hW.trans (hb.mono hW.size)
  clear hb b0 b1 b2
  have a2 := A.c2
  have b2 := B.c2
  go_wp2_with fail
  clear a2 b2
  go_region_held3 (fun w' => w'.cell? ⟨p, 0, none⟩ = some (.int .i64 (dhi ca)) ∧ w'.cell? ⟨p, 1, none⟩ = some (.int .u64 (dlo ca)) ∧ w'.cell? ⟨p, 2, none⟩ = some (.int .i64 sa) ∧ w'.cell? ⟨p + 1, 0, none⟩ = some (.int .i64 (dhi cb)) ∧ w'.cell? ⟨p + 1, 1, none⟩ = some (.int .u64 (dlo cb)) ∧ w'.cell? ⟨p + 1, 2, none⟩ = some (.int .i64 sb))
    (first | exact ⟨A.c0, A.c1, A.c2, B.c0, B.c1, B.c2⟩ | exact ⟨A.drew.c0, A.drew.c1, A.drew.c2, B.drew.c0, B.drew.c1, B.drew.c2⟩ | exact ⟨A3.c0, A3.c1, A3.c2, B3.c0, B3.c1, B3.c2⟩ | exact ⟨A4.c0, A4.c1, A4.c2, B4.c0, B4.c1, B4.c2⟩ | exact ⟨A5.c0, A5.c1, A5.c2, B5.c0, B5.c1, B5.c2⟩)
    (first
      | (go_at_call_of 35 (Value.agg #[.int .i64 (dhi ca), .int .u64 (dlo ca), .int .i64 (sa : Int)]); refine (at_eq ca sa _ X _ ia (by omega) (by omega) HX.out).mono ?_; rintro e w3 ⟨⟨r3, rfl, hr3⟩, hb3⟩; have A3 := A.drew.step hb3; have B3 := B.drew.step hb3; have hW3 := hW.trans ((bel_of_drew hb3).mono hW.size))
      | (go_at_call_of 35 (Value.agg #[.int .i64 (dhi cb), .int .u64 (dlo cb), .int .i64 (sb : Int)]); refine (at_eq cb sb _ Y _ ib (by omega) (by omega) HY.out).mono ?_; rintro e w4 ⟨⟨r4, rfl, hr4⟩, hb4⟩; have A4 := A3.step hb4; have B4 := B3.step hb4; have h4 := hr3.step hb4; have hW4 := hW3.trans (hb4.mono hW3.size))
      | (go_at_call 41; refine (order_in _ _ X Y _ h4 hr4 MX.out MY.out).mono ?_; rintro e w5 ⟨rfl, hb5⟩; have A5 := A4.step hb5; have B5 := B4.step hb5; have hW5 := hW4.trans (hb5.mono hW4.size)))
  clear A B A3 B3 A4 B4 A5 B5 hr3 hr4 h4 hb3 hb4 hb5 hW hW3 hW4
  rw [HV.out]
  go_wp2_with fail
  refine bodyPost_ret (v := .tuple #[.int .i64 (sgn (tv ca sa (-cb) sb)), .int .i64 0]) (by simp [results, Try.results13, go_sem]) rfl ⟨rfl, hW5⟩
theorem dcmp_ok (ca cb : Int) (sa sb : Nat) (w : World) (ia : InR ca) (ib : InR cb) (hsa : (sa : Int) ≤ 18) (hsb : (sb : Int) ≤ 18) :
    Calls Try.prog 13 #[.agg #[.int .i64 (dhi ca), .int .u64 (dlo ca), .int .i64 sa], .agg #[.int .i64 (dhi cb), .int .u64 (dlo cb), .int .i64 sb]] w fun e w' => e = .returned (.tuple #[.int .i64 (sgn (tv ca sa (-cb) sb)), .int .i64 0]) ∧ Below w.heap.size w w' := by
  by_cases hlt : sa < sb
  · exact dcmp_lt ca cb sa sb w ia ib hsa hsb hlt
  · exact dcmp_ge ca cb sa sb w ia ib hsa hsb hlt
end Go.Proofs.Ytnbfbebfideigaa
