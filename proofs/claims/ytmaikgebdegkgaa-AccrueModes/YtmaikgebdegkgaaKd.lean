/- accrue: the contracts of interest, Daily. -/
import Derived.Test.YtmaikgebdegkgaaKc
namespace Go.Proofs.Ytmaikgebdegkgaa
open Go.RowKit
set_option linter.unusedVariables false
attribute [local go_sem] ext_cell ext_frozen ext_drew ext_of_drew ext_of_drewN ext_setCell ext_lt ext_lt1 ext_lt2 ext_lt3 lt_n2 lt_n3 lt_n4 lt_n5 lt_n6

/-- the rounded quotient of whole numbers that are not below nought -/
def rq (N D : Int) (mode : Nat) : Nat := rquo false N.natAbs D.natAbs 0 mode
theorem rq_le (N D : Int) (mode : Nat) : rq N D mode ≤ N.natAbs + 1 := by
  have := rquo_le false N.natAbs D.natAbs 0 mode
  unfold rnum at this
  simp at this
  exact this
theorem quo_int (N D : Int) (mode : Nat) (w : World) (hN : 0 ≤ N) (hN2 : N ≤ 100000000000000000000000000000000000) (hD : 0 < D) (hD2 : D ≤ 1000000000000000000) (hm : (mode : Int) ≤ 6) :
    Calls Try.prog 33 #[.agg (dcl N).toArray, .agg (dcl D).toArray, .int .i64 0, .int .i64 mode] w
      fun e w' => e = .returned (.tuple #[.agg (dcl (rq N D mode)).toArray, .int .i64 0]) ∧ Below w.heap.size w w' := by
  have e : qv N 0 D 0 0 mode = (rq N D mode : Int) := by
    unfold qv rq sv
    rw [decide_eq_false (show ¬ N < 0 by omega), decide_eq_false (show ¬ D < 0 by omega), show ((0 : Nat) : Int) + ((0 : Nat) : Int) - ((0 : Nat) : Int) = 0 by omega]
    simp
  have b := rq_le N D mode
  have h := dquo_yes N D 0 0 0 mode w (in_small hN (by omega)) (in_small (by omega) (by omega)) (by decide) (by decide) (by decide) hm (by omega) (by rw [e]; exact in_small (by omega) (by omega))
  rw [e] at h
  exact h
theorem cut0_zero (c : Int) : cut0 c 0 = c := by
  unfold cut0
  rw [Nat.pow_zero, Nat.div_one, sv_abs]
theorem int_int (q : Int) (w : World) (h0 : 0 ≤ q) (h1 : q ≤ 9223372036854775807) :
    Calls Try.prog 36 #[.agg (dcl q).toArray] w fun e w' => e = .returned (.tuple #[.int .i64 q, .int .i64 0]) ∧ Below w.heap.size w w' := by
  have h := int_yes q 0 w (in_small h0 (by omega)) (by decide) (by rw [cut0_zero, tv_self]) (by rw [cut0_zero]; omega) (by rw [cut0_zero]; exact h1)
  rw [cut0_zero] at h
  exact h
theorem int_big (q : Int) (w : World) (h0 : 9223372036854775807 < q) (h1 : q ≤ 1000000000000000000000000000000000000) :
    Calls Try.prog 36 #[.agg (dcl q).toArray] w fun e w' => e = .returned (.tuple #[.int .i64 0, .int .i64 4]) ∧ Below w.heap.size w w' :=
  int_out q 0 w (in_small (by omega) h1) (by decide) (by rw [cut0_zero, tv_self]) (by rw [cut0_zero]; omega)
set_option maxHeartbeats 1000000 in
set_option maxRecDepth 100000 in
theorem interest_any (Y n d : Int) (mode : Nat) (w : World) (hY : 0 ≤ Y ∧ Y ≤ 80000000000000000000000) (hn : 0 ≤ n ∧ n ≤ 1500000000) (hd : 0 < d ∧ d ≤ 133590) (hm : (mode : Int) ≤ 6) :
    Calls Try.prog 21 #[.agg (dcl Y).toArray, .int .i64 n, .int .i64 d, .int .i64 mode] w
      fun e w' => (((rq (Y * n) (d * 1000) mode : Nat) : Int) ≤ 4000000000000000000 ∧ e = .returned (.tuple #[.int .i64 (rq (Y * n) (d * 1000) mode : Nat), .int .i64 0]) ∨ ¬ ((rq (Y * n) (d * 1000) mode : Nat) : Int) ≤ 4000000000000000000 ∧ e = .returned (.tuple #[.int .i64 0, .int .i64 4])) ∧ Below w.heap.size w w' := by
  have p0 : 0 ≤ Y * n := Int.mul_nonneg hY.1 hn.1
  have p1 : Y * n ≤ 80000000000000000000000 * 1500000000 := Int.mul_le_mul hY.2 hn.2 hn.1 (by omega)
  have bq := rq_le (Y * n) (d * 1000) mode
  have hq2 : ((rq (Y * n) (d * 1000) mode : Nat) : Int) ≤ 1000000000000000000000000000000000 := by omega
  have HQ2 := (show Hid _ from hq2)
  have HY := (show Hid _ from hY)
  have HN := (show Hid _ from hn)
  have HP := (show Hid _ from And.intro p0 p1)
  obtain ⟨d1, d2⟩ := hd
  clear hY hn bq hq2 p0 p1
  have V0 := (show Hid _ from va_new w (dcl Y) 56)
  have B0 := (show Hid _ from (Below.refl w.heap.size w).alloc (Nat.le_refl _) (.cells (dcl Y).toArray 56))
  go_enter Try.func21, Try.ntmps21
  go_wp2_with (refine ldA rfl 56 _ rfl w.heap.size (by rfl) (dcl Y) _ V0.out _ Try.underlying56 rfl infoD ?_)
  refine (times_ok Y n _ (in_small (by have := HY.out; omega) (by have := HY.out; omega)) (by have := HN.out; omega) (by have := HN.out; omega) (in_small HP.out.1 (by have := HP.out; omega))).mono ?_
  rintro e w1 ⟨rfl, b1⟩
  have B1 := (show Hid _ from B0.out.trans (b1.mono B0.out.size))
  clear b1 V0 B0
  go_wp2_with fail
  refine (whole_ok (d * 1000) _ (by omega) (by omega)).mono ?_
  rintro e w2 ⟨rfl, b2⟩
  have B2 := (show Hid _ from B1.out.trans (b2.mono B1.out.size))
  clear b2 B1
  go_wp2_with fail
  refine (quo_int (Y * n) (d * 1000) mode _ HP.out.1 (by have := HP.out; omega) (by omega) (by omega) hm).mono ?_
  rintro e w3 ⟨rfl, b3⟩
  have B3 := (show Hid _ from (B2.out.trans (b3.mono B2.out.size)).alloc (Nat.le_trans B2.out.size b3.size) (.cells zdl.toArray 56))
  have s3 := Nat.le_trans B2.out.size b3.size
  have V3 := (show Hid _ from va_new w3 zdl 56)
  clear b3 B2
  obtain ⟨q, hq⟩ : ∃ q, q = ((rq (Y * n) (d * 1000) mode : Nat) : Int) := ⟨_, rfl⟩
  have hq0 : 0 ≤ q := by omega
  have HQ : Hid (q = ((rq (Y * n) (d * 1000) mode : Nat) : Int)) := hq
  have hq2 : q ≤ 1000000000000000000000000000000000 := by rw [hq]; exact HQ2.out
  rw [← hq]
  clear hq HQ2
  have HQL := (show Hid _ from hq2)
  clear hq2
  go_wp2_with (first | (refine stA rfl 56 _ _ rfl w3.heap.size (by rfl) zdl (dcl q) (by rfl) 56 V3.out infoD rfl (dcl_one _) ?_; intro w4 va up; have V4 := (show Hid _ from va); have B4 := (show Hid _ from up.bel B3.out s3); clear va up) | (refine ldA rfl 56 _ rfl w3.heap.size (by rfl) (dcl q) _ V4.out _ Try.underlying56 rfl infoD ?_))
  by_cases h9 : q ≤ 9223372036854775807
  · refine (int_int q _ hq0 h9).mono ?_
    rintro e w5 ⟨rfl, b5⟩
    have B5 := (show Hid _ from B4.out.trans (b5.mono B4.out.size))
    clear b5 B4
    by_cases h4 : q ≤ 4000000000000000000
    · have d3 : decide (4000000000000000000 < q) = false := decide_eq_false (by omega)
      have H4 := (show Hid _ from h4)
      clear h4
      go_wp2_with fail
      refine bodyPost_ret (v := .tuple #[.int .i64 q, .int .i64 0]) (by simp [results, Try.results21, go_sem]) rfl ?_
      exact ⟨Or.inl ⟨by rw [← HQ.out]; exact H4.out, by rw [HQ.out]⟩, B5.out⟩
    · have d3 : decide (4000000000000000000 < q) = true := decide_eq_true (by omega)
      have H4 := (show Hid _ from h4)
      clear h4
      go_wp2_with fail
      refine bodyPost_ret (v := .tuple #[.int .i64 0, .int .i64 4]) (by simp [results, Try.results21, go_sem]) rfl ?_
      exact ⟨Or.inr ⟨by rw [← HQ.out]; have := Int.not_le.1 H4.out; omega, rfl⟩, B5.out⟩
  · have H4 : Hid (¬ q ≤ 4000000000000000000) := (by omega : ¬ q ≤ 4000000000000000000)
    refine (int_big q _ (by omega) (by have := HQL.out; omega)).mono ?_
    rintro e w5 ⟨rfl, b5⟩
    have B5 := (show Hid _ from B4.out.trans (b5.mono B4.out.size))
    clear b5 B4
    go_wp2_with fail
    refine bodyPost_ret (v := .tuple #[.int .i64 0, .int .i64 4]) (by simp [results, Try.results21, go_sem]) rfl ?_
    exact ⟨Or.inr ⟨by rw [← HQ.out]; exact H4.out, rfl⟩, B5.out⟩
theorem yearPart_ok (how f t n d r : Int) (hP : ∀ w, Calls Try.prog 32 #[.int .i64 how, .int .i64 f, .int .i64 t] w fun e w' => e = .returned (.tuple #[.int .i64 n, .int .i64 d, .int .i64 r]) ∧ w' = w) (w : World) :
    Calls Try.prog 19 #[.int .i64 how, .int .i64 f, .int .i64 t] w fun e w' => e = .returned (.tuple #[.int .i64 n, .int .i64 d, .int .i64 r]) ∧ w' = w := by
  have HP := (show Hid _ from hP)
  clear hP
  go_enter Try.func19, Try.ntmps19
  go_wp2_with fail
  refine (HP.out _).mono ?_
  rintro e w1 ⟨rfl, hw⟩
  obtain rfl := hw.symm
  go_wp2_with fail
  refine bodyPost_ret (v := .tuple #[.int .i64 n, .int .i64 d, .int .i64 r]) (by simp [results, Try.results19, go_sem]) rfl ?_
  exact ⟨rfl, rfl⟩
/-- the interest of right arguments -/
def dly (b : Int) (ts : List (Int × Int)) (n d : Int) (mode : Nat) : Int := ((rq (ysum b ts ts.length * n) (d * 1000) mode : Nat) : Int)
set_option maxRecDepth 100000 in
theorem Daily_ok (b : Int) (tv : Value) (ts : List (Int × Int)) (how f t n d : Int) (mode : Nat) (w : World) (h : Tr w tv ts) (hb : 0 ≤ b ∧ b ≤ 10000000000000) (ht : terr ts = 0) (hm : (mode : Int) ≤ 6)
    (hP : ∀ w, Calls Try.prog 32 #[.int .i64 how, .int .i64 f, .int .i64 t] w fun e w' => e = .returned (.tuple #[.int .i64 n, .int .i64 d, .int .i64 0]) ∧ w' = w) (hn : 0 ≤ n ∧ n ≤ 1500000000) (hd : 0 < d ∧ d ≤ 133590) :
    Calls Try.prog 10 #[.int .i64 b, tv, .int .i64 how, .int .i64 mode, .int .i64 f, .int .i64 t] w
      fun e w' => (dly b ts n d mode ≤ 4000000000000000000 ∧ e = .returned (.tuple #[.int .i64 (dly b ts n d mode), .int .i64 0]) ∨ ¬ dly b ts n d mode ≤ 4000000000000000000 ∧ e = .returned (.tuple #[.int .i64 0, .int .i64 4])) ∧ Below w.heap.size w w' := by
  have hmd : decide (0 ≤ (mode : Int) ∧ (mode : Int) ≤ 6) = true := decide_eq_true ⟨by omega, hm⟩
  have H := (show Hid _ from h)
  have HB := (show Hid _ from hb)
  have HT := (show Hid _ from ht)
  have HP := (show Hid _ from yearPart_ok how f t n d 0 hP)
  have HN := (show Hid _ from And.intro hn hd)
  have HM := (show Hid _ from hm)
  have ys := ysum_bd hb ht ts.length (Nat.le_refl _)
  have HYS : Hid (0 ≤ ysum b ts ts.length ∧ ysum b ts ts.length ≤ 80000000000000000000000) := by
    have := (terr_zero ht).1
    exact ⟨ys.1, by omega⟩
  have B0 := (show Hid _ from Below.refl w.heap.size w)
  clear h hb ht hP hn hd hm ys
  go_enter Try.func10, Try.ntmps10
  go_wp2_with fail
  refine (HP.out _).mono ?_
  rintro e w1 ⟨rfl, hw⟩
  obtain rfl := hw.symm
  go_wp2_with fail
  refine (isMode_ok mode _).mono ?_
  rintro e w1 ⟨rfl, hw⟩
  obtain rfl := hw.symm
  rw [hmd]
  go_wp2_with fail
  refine (Parts_ok b tv ts _ H.out HB.out HT.out).mono ?_
  rintro e w1 ⟨⟨v, rfl, ho⟩, b1⟩
  have O1 := (show Hid _ from ho.is)
  have B1 := (show Hid _ from b1)
  clear ho b1
  go_wp2_with fail
  refine (yearly_ok b v tv ts _ O1.out (H.out.step B1.out) HB.out HT.out).mono ?_
  rintro e w2 ⟨rfl, b2⟩
  have B2 := (show Hid _ from B1.out.trans (b2.mono B1.out.size))
  clear b2 B1 O1
  go_wp2_with fail
  refine (interest_any _ n d mode _ HYS.out HN.out.1 HN.out.2 HM.out).mono ?_
  rintro e w3 ⟨hh, b3⟩
  have B3 := (show Hid _ from B2.out.trans (b3.mono B2.out.size))
  clear b3 B2
  rcases hh with ⟨h4, rfl⟩ | ⟨h4, rfl⟩
  · have H4 := (show Hid _ from h4)
    clear h4
    go_wp2_with fail
    refine bodyPost_ret (v := .tuple #[.int .i64 ((rq (ysum b ts ts.length * n) (d * 1000) mode : Nat) : Int), .int .i64 0]) (by simp [results, Try.results10, go_sem]) rfl ?_
    exact ⟨Or.inl ⟨H4.out, rfl⟩, B3.out⟩
  · have H4 := (show Hid _ from h4)
    clear h4
    go_wp2_with fail
    refine bodyPost_ret (v := .tuple #[.int .i64 0, .int .i64 4]) (by simp [results, Try.results10, go_sem]) rfl ?_
    exact ⟨Or.inr ⟨by have := Int.not_le.1 H4.out; unfold dly; omega, rfl⟩, B3.out⟩
end Go.Proofs.Ytmaikgebdegkgaa
