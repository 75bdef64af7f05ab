/- The document's whole numbers: the contract of DocInt. -/
import Derived.Test.YtghdkchbaadddaaVd
namespace Go.Proofs.Ytghdkchbaadddaa
open Go.RowKit
set_option linter.unusedVariables false
attribute [local go_sem ↓] Go.wp_at_zero Go.wp_at_succ

theorem lenz {w : World} {a : Option Addr} {n c : Nat} (h : Nm w (.slice a n c) 0) : n = 0 := by
  obtain ⟨ds, ⟨_, a', c', e, _⟩, hn, hv⟩ := h
  cases e
  exact hn.zero.1 hv
theorem lens {w : World} {a : Option Addr} {n c x : Nat} (h : Nm w (.slice a n c) x) (hx : 0 < x) : 0 < n := by
  obtain ⟨ds, ⟨_, a', c', e, _⟩, hn, hv⟩ := h
  cases e
  by_cases h0 : ds.length = 0
  · have := hn.zero.2 h0; omega
  · omega
set_option maxHeartbeats 1000000 in
set_option maxRecDepth 100000 in
theorem dint_part (c : Int) (s : Nat) (w : World) (ic : InR c) (hs : (s : Int) ≤ 18) (nn : Int) (ok : Bool)
    (SM : ∀ (v : Value) (w : World), In w v (cut0 c s) → Calls Try.prog 49 #[v] w fun e w' => e = .returned (.tuple #[.int .i64 nn, .bool ok]) ∧ Below w.heap.size w w') (hz : 0 < c.natAbs % 10 ^ s) :
    Calls Try.prog 24 #[.agg #[.int .i64 (dhi c), .int .u64 (dlo c), .int .i64 s]] w fun e w' => e = .returned (.tuple #[.int .i64 0, .int .i64 4]) ∧ Below w.heap.size w w' := by
  have HSM := (show Hid _ from SM)
  clear SM
  have D := v3_new w (.int .i64 (dhi c)) (.int .u64 (dlo c)) (.int .i64 s) 24
  have hW := bel_al (Below.refl _ w) (.cells #[.int .i64 (dhi c), .int .u64 (dlo c), .int .i64 s] 24)
  have hs38 : s ≤ 38 := by omega
  go_enter Try.func24, Try.ntmps24
  go_wp2_with fail
  refine (form_yes c s _ ic hs).mono ?_
  rintro e w1 ⟨rfl, hb⟩
  replace D := D.step hb
  replace hW := hW.trans (hb.mono hW.size)
  have d0 := D.c0
  have d1 := D.c1
  have d2 := D.c2
  clear hb
  go_wp2_with fail
  refine (coef_ok c s _ ic).mono ?_
  rintro e w2 ⟨⟨r, rfl, hr⟩, hb⟩
  obtain ⟨m, a, n, k, rfl, hn, ha, hb2⟩ := hr.form
  replace D := (D.step hb).alloc (.cells #[.bool m, .slice a n k] 66)
  have C := v2_new w2 (.bool m) (.slice a n k) 66
  replace hn := hn.alloc (.cells #[.bool m, .slice a n k] 66)
  replace hW := bel_al (hW.trans (hb.mono hW.size)) (.cells #[.bool m, .slice a n k] 66)
  clear hb hr d0 d1 d2
  go_wp2_with fail
  generalize w2.alloc (.cells #[.bool m, .slice a n k] 66) = W at *
  obtain ⟨q, hq⟩ : ∃ q, q = w2.heap.size := ⟨_, rfl⟩
  rw [← hq] at C
  rw [← hq]
  clear hq
  obtain ⟨p, hp⟩ : ∃ p, p = w.heap.size := ⟨_, rfl⟩
  rw [← hp] at D
  rw [← hp]
  clear hp
  have HA := (show Hid _ from ha)
  have HB := (show Hid _ from hb2)
  clear ha hb2
  go_region_held3 (fun w' => w'.cell? ⟨q, 1, none⟩ = some (.slice a n k) ∧ w'.cell? ⟨p, 2, none⟩ = some (.int .i64 s))
    (first | exact ⟨C.c1, D.c2⟩ | exact ⟨C.drew.c1, D.drew.c2⟩ | exact ⟨C4.c1, D4.c2⟩ | exact ⟨C3.c1, D3.c2⟩)
    (first
      | (go_at_call 48; refine (ten_ok s _ hs38).mono ?_; rintro e w3 ⟨⟨r3, rfl, hr3⟩, hb3⟩; have D3 := D.drew.step hb3; have C3 := C.drew.step hb3; have n3 := hn.drew.step hb3; have hW3 := hW.trans ((bel_of_drew hb3).mono hW.size))
      | (go_at_call 47; refine (lquo_ok _ _ c.natAbs (10 ^ s) _ n3 hr3 (inr_mi ic) (ten_md s (by omega)) (Nat.pow_pos (by decide))).mono ?_; rintro e w4 ⟨⟨q4, r4, rfl, hq4, hr4⟩, hb4⟩; obtain ⟨qa, qn, qc, rfl⟩ := hq4.form; obtain ⟨ra, rn, rc, rfl⟩ := hr4.form; have D4 := D3.step hb4; have C4 := C3.step hb4; have hW4 := hW3.trans (hb4.mono hW3.size)))
  clear C C3 D D3 D4 n3 hn hr3 hb3 hb4 hW hW3
  have c0 := C4.c0
  have c1 := C4.c1
  go_wp2_with fail
  refine (HSM.out _ _ (in_mk (by rw [cut0_size]; exact hq4) (fun h => HA.out (cut0_pos h)) (fun h => HB.out (cut0_neg h)))).mono ?_
  rintro e w5 ⟨rfl, hb⟩
  have hW5 := hW4.trans (hb.mono hW4.size)
  clear hb hW4 c0 c1 C4 hq4 HSM
  have hrn := lens hr4 hz
  have t1 : decide (0 < (rn : Int)) = true := decide_eq_true (by omega)
  clear hz hr4
  go_wp2_with fail
  refine bodyPost_ret (v := .tuple #[.int .i64 0, .int .i64 4]) (by simp [results, Try.results24, go_sem]) rfl ⟨rfl, hW5⟩
set_option maxHeartbeats 1000000 in
set_option maxRecDepth 100000 in
theorem dint_yes (c : Int) (s : Nat) (w : World) (ic : InR c) (hs : (s : Int) ≤ 18) (nn : Int) (ok : Bool)
    (SM : ∀ (v : Value) (w : World), In w v (cut0 c s) → Calls Try.prog 49 #[v] w fun e w' => e = .returned (.tuple #[.int .i64 nn, .bool ok]) ∧ Below w.heap.size w w') (hz : c.natAbs % 10 ^ s = 0) (hok : ok = true) :
    Calls Try.prog 24 #[.agg #[.int .i64 (dhi c), .int .u64 (dlo c), .int .i64 s]] w fun e w' => e = .returned (.tuple #[.int .i64 nn, .int .i64 0]) ∧ Below w.heap.size w w' := by
  have HSM := (show Hid _ from SM)
  clear SM
  have D := v3_new w (.int .i64 (dhi c)) (.int .u64 (dlo c)) (.int .i64 s) 24
  have hW := bel_al (Below.refl _ w) (.cells #[.int .i64 (dhi c), .int .u64 (dlo c), .int .i64 s] 24)
  have hs38 : s ≤ 38 := by omega
  go_enter Try.func24, Try.ntmps24
  go_wp2_with fail
  refine (form_yes c s _ ic hs).mono ?_
  rintro e w1 ⟨rfl, hb⟩
  replace D := D.step hb
  replace hW := hW.trans (hb.mono hW.size)
  have d0 := D.c0
  have d1 := D.c1
  have d2 := D.c2
  clear hb
  go_wp2_with fail
  refine (coef_ok c s _ ic).mono ?_
  rintro e w2 ⟨⟨r, rfl, hr⟩, hb⟩
  obtain ⟨m, a, n, k, rfl, hn, ha, hb2⟩ := hr.form
  replace D := (D.step hb).alloc (.cells #[.bool m, .slice a n k] 66)
  have C := v2_new w2 (.bool m) (.slice a n k) 66
  replace hn := hn.alloc (.cells #[.bool m, .slice a n k] 66)
  replace hW := bel_al (hW.trans (hb.mono hW.size)) (.cells #[.bool m, .slice a n k] 66)
  clear hb hr d0 d1 d2
  go_wp2_with fail
  generalize w2.alloc (.cells #[.bool m, .slice a n k] 66) = W at *
  obtain ⟨q, hq⟩ : ∃ q, q = w2.heap.size := ⟨_, rfl⟩
  rw [← hq] at C
  rw [← hq]
  clear hq
  obtain ⟨p, hp⟩ : ∃ p, p = w.heap.size := ⟨_, rfl⟩
  rw [← hp] at D
  rw [← hp]
  clear hp
  have HA := (show Hid _ from ha)
  have HB := (show Hid _ from hb2)
  clear ha hb2
  go_region_held3 (fun w' => w'.cell? ⟨q, 1, none⟩ = some (.slice a n k) ∧ w'.cell? ⟨p, 2, none⟩ = some (.int .i64 s))
    (first | exact ⟨C.c1, D.c2⟩ | exact ⟨C.drew.c1, D.drew.c2⟩ | exact ⟨C4.c1, D4.c2⟩ | exact ⟨C3.c1, D3.c2⟩)
    (first
      | (go_at_call 48; refine (ten_ok s _ hs38).mono ?_; rintro e w3 ⟨⟨r3, rfl, hr3⟩, hb3⟩; have D3 := D.drew.step hb3; have C3 := C.drew.step hb3; have n3 := hn.drew.step hb3; have hW3 := hW.trans ((bel_of_drew hb3).mono hW.size))
      | (go_at_call 47; refine (lquo_ok _ _ c.natAbs (10 ^ s) _ n3 hr3 (inr_mi ic) (ten_md s (by omega)) (Nat.pow_pos (by decide))).mono ?_; rintro e w4 ⟨⟨q4, r4, rfl, hq4, hr4⟩, hb4⟩; obtain ⟨qa, qn, qc, rfl⟩ := hq4.form; obtain ⟨ra, rn, rc, rfl⟩ := hr4.form; have D4 := D3.step hb4; have C4 := C3.step hb4; have hW4 := hW3.trans (hb4.mono hW3.size)))
  clear C C3 D D3 D4 n3 hn hr3 hb3 hb4 hW hW3
  have c0 := C4.c0
  have c1 := C4.c1
  go_wp2_with fail
  refine (HSM.out _ _ (in_mk (by rw [cut0_size]; exact hq4) (fun h => HA.out (cut0_pos h)) (fun h => HB.out (cut0_neg h)))).mono ?_
  rintro e w5 ⟨rfl, hb⟩
  have hW5 := hW4.trans (hb.mono hW4.size)
  clear hb hW4 c0 c1 C4 hq4 HSM
  have hrn : rn = 0 := lenz (by rw [hz] at hr4; exact hr4)
  subst hrn
  subst hok
  clear hz hr4
  go_wp2_with fail
  refine bodyPost_ret (v := .tuple #[.int .i64 nn, .int .i64 0]) (by simp [results, Try.results24, go_sem]) rfl ⟨rfl, hW5⟩
set_option maxHeartbeats 1000000 in
set_option maxRecDepth 100000 in
theorem dint_out (c : Int) (s : Nat) (w : World) (ic : InR c) (hs : (s : Int) ≤ 18) (nn : Int) (ok : Bool)
    (SM : ∀ (v : Value) (w : World), In w v (cut0 c s) → Calls Try.prog 49 #[v] w fun e w' => e = .returned (.tuple #[.int .i64 nn, .bool ok]) ∧ Below w.heap.size w w') (hz : c.natAbs % 10 ^ s = 0) (hok : ok = false) :
    Calls Try.prog 24 #[.agg #[.int .i64 (dhi c), .int .u64 (dlo c), .int .i64 s]] w fun e w' => e = .returned (.tuple #[.int .i64 0, .int .i64 4]) ∧ Below w.heap.size w w' := by
  have HSM := (show Hid _ from SM)
  clear SM
  have D := v3_new w (.int .i64 (dhi c)) (.int .u64 (dlo c)) (.int .i64 s) 24
  have hW := bel_al (Below.refl _ w) (.cells #[.int .i64 (dhi c), .int .u64 (dlo c), .int .i64 s] 24)
  have hs38 : s ≤ 38 := by omega
  go_enter Try.func24, Try.ntmps24
  go_wp2_with fail
  refine (form_yes c s _ ic hs).mono ?_
  rintro e w1 ⟨rfl, hb⟩
  replace D := D.step hb
  replace hW := hW.trans (hb.mono hW.size)
  have d0 := D.c0
  have d1 := D.c1
  have d2 := D.c2
  clear hb
  go_wp2_with fail
  refine (coef_ok c s _ ic).mono ?_
  rintro e w2 ⟨⟨r, rfl, hr⟩, hb⟩
  obtain ⟨m, a, n, k, rfl, hn, ha, hb2⟩ := hr.form
  replace D := (D.step hb).alloc (.cells #[.bool m, .slice a n k] 66)
  have C := v2_new w2 (.bool m) (.slice a n k) 66
  replace hn := hn.alloc (.cells #[.bool m, .slice a n k] 66)
  replace hW := bel_al (hW.trans (hb.mono hW.size)) (.cells #[.bool m, .slice a n k] 66)
  clear hb hr d0 d1 d2
  go_wp2_with fail
  generalize w2.alloc (.cells #[.bool m, .slice a n k] 66) = W at *
  obtain ⟨q, hq⟩ : ∃ q, q = w2.heap.size := ⟨_, rfl⟩
  rw [← hq] at C
  rw [← hq]
  clear hq
  obtain ⟨p, hp⟩ : ∃ p, p = w.heap.size := ⟨_, rfl⟩
  rw [← hp] at D
  rw [← hp]
  clear hp
  have HA := (show Hid _ from ha)
  have HB := (show Hid _ from hb2)
  clear ha hb2
  go_region_held3 (fun w' => w'.cell? ⟨q, 1, none⟩ = some (.slice a n k) ∧ w'.cell? ⟨p, 2, none⟩ = some (.int .i64 s))
    (first | exact ⟨C.c1, D.c2⟩ | exact ⟨C.drew.c1, D.drew.c2⟩ | exact ⟨C4.c1, D4.c2⟩ | exact ⟨C3.c1, D3.c2⟩)
    (first
      | (go_at_call 48; refine (ten_ok s _ hs38).mono ?_; rintro e w3 ⟨⟨r3, rfl, hr3⟩, hb3⟩; have D3 := D.drew.step hb3; have C3 := C.drew.step hb3; have n3 := hn.drew.step hb3; have hW3 := hW.trans ((bel_of_drew hb3).mono hW.size))
      | (go_at_call 47; refine (lquo_ok _ _ c.natAbs (10 ^ s) _ n3 hr3 (inr_mi ic) (ten_md s (by omega)) (Nat.pow_pos (by decide))).mono ?_; rintro e w4 ⟨⟨q4, r4, rfl, hq4, hr4⟩, hb4⟩; obtain ⟨qa, qn, qc, rfl⟩ := hq4.form; obtain ⟨ra, rn, rc, rfl⟩ := hr4.form; have D4 := D3.step hb4; have C4 := C3.step hb4; have hW4 := hW3.trans (hb4.mono hW3.size)))
  clear C C3 D D3 D4 n3 hn hr3 hb3 hb4 hW hW3
  have c0 := C4.c0
  have c1 := C4.c1
  go_wp2_with fail
  refine (HSM.out _ _ (in_mk (by rw [cut0_size]; exact hq4) (fun h => HA.out (cut0_pos h)) (fun h => HB.out (cut0_neg h)))).mono ?_
  rintro e w5 ⟨rfl, hb⟩
  have hW5 := hW4.trans (hb.mono hW4.size)
  clear hb hW4 c0 c1 C4 hq4 HSM
  have hrn : rn = 0 := lenz (by rw [hz] at hr4; exact hr4)
  subst hrn
  subst hok
  clear hz hr4
  go_wp2_with fail
  refine bodyPost_ret (v := .tuple #[.int .i64 0, .int .i64 4]) (by simp [results, Try.results24, go_sem]) rfl ⟨rfl, hW5⟩
theorem dint_form (h l s : Int) (w : World) (hb : Bad h l s) :
    Calls Try.prog 24 #[.agg #[.int .i64 h, .int .u64 l, .int .i64 s]] w fun e w' => e = .returned (.tuple #[.int .i64 0, .int .i64 3]) ∧ Below w.heap.size w w' := by
  have HB : Hid (Bad h l s) := hb
  clear hb
  have hW := bel_al (Below.refl _ w) (.cells #[.int .i64 h, .int .u64 l, .int .i64 s] 24)
  go_enter Try.func24, Try.ntmps24
  go_wp2_with fail
  refine (form_no h l s _ HB.out).mono ?_
  rintro e w1 ⟨rfl, hb⟩
  replace hW := hW.trans (hb.mono hW.size)
  clear hb
  go_wp2_with fail
  refine bodyPost_ret (v := .tuple #[.int .i64 0, .int .i64 3]) (by simp [results, Try.results24, go_sem]) rfl ⟨rfl, hW⟩
end Go.Proofs.Ytghdkchbaadddaa
