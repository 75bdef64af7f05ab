/- The document's decimals: the contracts of At, DocSign, DocNeg, DocCmp, DocAdd. -/
import Derived.Test.YtnbfbebfideigaaUm
namespace Go.Proofs.Ytnbfbebfideigaa
open Go.RowKit
set_option linter.unusedVariables false
attribute [local go_sem ↓] Go.wp_at_zero Go.wp_at_succ

theorem ten_z (K : Int) (w : World) (h0 : 0 ≤ K) (h1 : K ≤ 38) :
    Calls Try.prog 48 #[.int .i64 K] w fun e w' => (∃ r, e = .returned r ∧ Nm w' r (10 ^ K.toNat)) ∧ Below w.heap.size w w' := by
  obtain ⟨N, rfl⟩ := Int.eq_ofNat_of_zero_le h0
  rw [Int.toNat_natCast]
  exact ten_ok N w (by omega)
theorem inr_mi {c : Int} (h : InR c) : Mi c := mi_of (k := 127) (by have := inr_abs h; rw [M127_eq] at this; omega) (by omega)
theorem ten_mi (k : Nat) (h : k ≤ 40) : Mi ((10 : Int) ^ k) := by
  have e : ((10 : Int) ^ k).natAbs = 10 ^ k := by rw [Int.natAbs_pow]; rfl
  unfold Mi
  rw [e]
  exact ten_md k h
theorem ten_abs (k : Nat) : ((10 : Int) ^ k).natAbs = 10 ^ k := by rw [Int.natAbs_pow]; rfl
theorem ten_pos (k : Nat) : (0 : Int) < 10 ^ k := Int.pow_pos (by decide)
set_option maxHeartbeats 1000000 in
set_option maxRecDepth 100000 in
theorem at_ok (c : Int) (s : Nat) (t : Int) (w : World) (ic : InR c) (h1 : (s : Int) ≤ t) (h2 : t ≤ 18) :
    Calls Try.prog 35 #[.agg #[.int .i64 (dhi c), .int .u64 (dlo c), .int .i64 s], .int .i64 t] w fun e w' => (∃ r, e = .returned r ∧ In w' r (c * 10 ^ (t - s).toNat)) ∧ Below w.heap.size w w' := by
  have D := (v3_new w (.int .i64 (dhi c)) (.int .u64 (dlo c)) (.int .i64 s) 24).alloc (.cells #[.bool false, .slice none 0 0] 66)
  have R := v2_new (w.alloc (.cells #[.int .i64 (dhi c), .int .u64 (dlo c), .int .i64 s] 24)) (.bool false) (.slice none 0 0) 66
  rw [size_al] at R
  have hW := bel_al (bel_al (Below.refl _ w) (.cells #[.int .i64 (dhi c), .int .u64 (dlo c), .int .i64 s] 24)) (.cells #[.bool false, .slice none 0 0] 66)
  have hw : IntKind.i64.wrap (t - s) = t - s := by rw [IntKind.wrap_i64]; omega
  go_enter Try.func35, Try.ntmps35
  go_wp2_with fail
  generalize (w.alloc (.cells #[.int .i64 (dhi c), .int .u64 (dlo c), .int .i64 s] 24)).alloc (.cells #[.bool false, .slice none 0 0] 66) = W at *
  obtain ⟨p, hp⟩ : ∃ p, p = w.heap.size := ⟨_, rfl⟩
  have HP : Hid (p = w.heap.size) := hp
  rw [← hp] at D R
  rw [← hp]
  clear hp
  have lD := D.lt
  have lR := R.lt
  go_region_held3 (fun w' => w'.cell? ⟨p, 0, none⟩ = some (.int .i64 (dhi c)) ∧ w'.cell? ⟨p, 1, none⟩ = some (.int .u64 (dlo c)) ∧ w'.cell? ⟨p, 2, none⟩ = some (.int .i64 s))
    (first | exact ⟨D.c0, D.c1, D.c2⟩ | exact ⟨D.drew.c0, D.drew.c1, D.drew.c2⟩ | exact ⟨D4.c0, D4.c1, D4.c2⟩ | exact ⟨D3.c0, D3.c1, D3.c2⟩ | exact ⟨D2.c0, D2.c1, D2.c2⟩ | exact ⟨(cell_put (by omega)).trans D4.c0, (cell_put (by omega)).trans D4.c1, (cell_put (by omega)).trans D4.c2⟩)
    (first
      | (go_at_call 42; refine (coef_ok c s _ ic).mono ?_; rintro e w2 ⟨⟨r, rfl, hr⟩, hb⟩; have D2 := D.drew.step hb; have R2 := R.drew.step hb; have hW2 := hW.trans ((bel_of_drew hb).mono hW.size))
      | (go_at_call 48; refine (ten_z _ _ (by omega) (by omega)).mono ?_; rintro e w3 ⟨⟨r3, rfl, hr3⟩, hb3⟩; obtain ⟨ra, rn, rc, rfl⟩ := hr3.form; have D3 := D2.step hb3; have R3 := R2.step hb3; have h3 := hr.step hb3; have hW3 := hW2.trans (hb3.mono hW2.size))
      | (go_at_call 54; refine (prod_in _ _ c (10 ^ (t - s).toNat) _ h3 (in_mk (by rw [ten_abs]; exact hr3) (fun _ => rfl) (fun h => by have := ten_pos (t - s).toNat; omega)) (inr_mi ic) (ten_mi _ (by omega))).mono ?_; rintro e w4 ⟨⟨r4, rfl, hr4⟩, hb4⟩; have D4 := D3.step hb4; have R4 := R3.step hb4; have hW4 := hW3.trans (hb4.mono hW3.size); obtain ⟨m4, a4, n4, k4, rfl, hn4, ha4, hb5⟩ := hr4.form; have r0 := R4.c0; have r1 := R4.c1; have f0 := R4.free 0; have f1 := R4.free 1))
  have V := (R4.set0 (.bool m4)).set1 (.slice a4 n4 k4)
  have hF := hn4.put R4 (by decide) (.bool m4) (.slice a4 n4 k4)
  have hB := bel_put hW4 (p := p + 1) (by have := HP.out; omega) (.bool m4) (.slice a4 n4 k4)
  have HF := (show Hid _ from in_mk hF ha4 hb5)
  have HB := (show Hid _ from hB)
  clear hF hB D D2 D3 D4 R R2 R3 R4 r0 r1 f0 f1 hr hr3 hr4 hW hW2 hW3 hW4 hb hb3 hb4 hn4 lD lR hw
  generalize (w4.setCell ⟨p + 1, 0, none⟩ (.bool m4)).setCell ⟨p + 1, 1, none⟩ (.slice a4 n4 k4) = Z at *
  have c0 := V.c0
  have c1 := V.c1
  clear V
  go_wp2_with fail
  refine bodyPost_ret (v := .agg #[.bool m4, .slice a4 n4 k4]) (by simp [results, Try.results35, go_sem, *]) rfl ⟨⟨_, rfl, HF.out⟩, HB.out⟩
set_option maxHeartbeats 1000000 in
set_option maxRecDepth 100000 in
theorem dsign_ok (c : Int) (s : Nat) (w : World) (ic : InR c) (hs : (s : Int) ≤ 18) :
    Calls Try.prog 18 #[.agg #[.int .i64 (dhi c), .int .u64 (dlo c), .int .i64 s]] w fun e w' => e = .returned (.tuple #[.int .i64 (sgn c), .int .i64 0]) ∧ Below w.heap.size w w' := by
  have D := v3_new w (.int .i64 (dhi c)) (.int .u64 (dlo c)) (.int .i64 s) 24
  have hW := bel_al (Below.refl _ w) (.cells #[.int .i64 (dhi c), .int .u64 (dlo c), .int .i64 s] 24)
  go_enter Try.func18, Try.ntmps18
  go_wp2_with fail
  refine (form_yes c s _ ic hs).mono ?_
  rintro e w1 ⟨rfl, hb⟩
  replace D := D.step hb
  replace hW := hW.trans (hb.mono hW.size)
  have d0 := D.c0
  have d1 := D.c1
  have d2 := D.c2
  clear hb
  go_wp2_with fail
  refine (coef_ok c s _ ic).mono ?_
  rintro e w2 ⟨⟨r, rfl, hr⟩, hb⟩
  replace hW := hW.trans (hb.mono hW.size)
  clear hb D d0 d1 d2
  go_wp2_with fail
  refine (sign_in _ c _ hr).mono ?_
  rintro e w3 ⟨rfl, hb⟩
  replace hW := hW.trans (hb.mono hW.size)
  clear hb hr
  go_wp2_with fail
  refine bodyPost_ret (v := .tuple #[.int .i64 (sgn c), .int .i64 0]) (by simp [results, Try.results18, go_sem]) rfl ⟨rfl, hW⟩
theorem dsign_bad (h l s : Int) (w : World) (hb : Bad h l s) :
    Calls Try.prog 18 #[.agg #[.int .i64 h, .int .u64 l, .int .i64 s]] w fun e w' => e = .returned (.tuple #[.int .i64 0, .int .i64 3]) ∧ Below w.heap.size w w' := by
  have HB : Hid (Bad h l s) := hb
  clear hb
  have hW := bel_al (Below.refl _ w) (.cells #[.int .i64 h, .int .u64 l, .int .i64 s] 24)
  go_enter Try.func18, Try.ntmps18
  go_wp2_with fail
  refine (form_no h l s _ HB.out).mono ?_
  rintro e w1 ⟨rfl, hb⟩
  replace hW := hW.trans (hb.mono hW.size)
  clear hb
  go_wp2_with fail
  refine bodyPost_ret (v := .tuple #[.int .i64 0, .int .i64 3]) (by simp [results, Try.results18, go_sem]) rfl ⟨rfl, hW⟩
end Go.Proofs.Ytnbfbebfideigaa
