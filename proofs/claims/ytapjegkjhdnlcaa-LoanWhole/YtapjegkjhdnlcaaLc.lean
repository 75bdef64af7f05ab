/- loan: the document's plan; two lists compared. -/
import Derived.Test.YtapjegkjhdnlcaaLb
namespace Go.Proofs.Ytapjegkjhdnlcaa
open Go.RowKit
set_option linter.unusedVariables false

set_option maxRecDepth 100000 in
theorem rSchedule_ok (p : Int) (m : Nat) (w : World) (h : Plan p m) : Calls Try.prog 21 #[.int .i64 p, .int .i64 m] w fun e w' => (∃ v, e = .returned v ∧ OwnI w' w.heap.size v (plan p m m)) ∧ Below w.heap.size w w' := by
  have hm : m ≤ 480 := by have := h.2.2.2; omega
  have hm1 : 1 ≤ m := by have := h.2.2.1; omega
  have HH := (show Hid _ from h)
  have B0 := (show Hid _ from Below.refl w.heap.size w)
  clear h
  go_enter Try.func21, Try.ntmps21
  go_wp2_with fail
  go_loopw [0, 1, 5] (fun q i s wr => ∃ k : Nat, k ≤ m ∧ q = .int .i64 (p - pdv p m k) ∧ i = .int .i64 ((m : Int) - k) ∧ Hid (OwnI wr w.heap.size s (plan p m k)) ∧ Hid (Below w.heap.size w wr)) (fun _ i _ _ => (intOf i).toNat)
  case atStart => exact ⟨0, by omega, by rw [show ((0 : Nat) : Int) = 0 from rfl, pdv_zero p m (by omega), Int.sub_zero], by simp, ownI_nil _ _, B0⟩
  case round =>
    obtain ⟨k, hk, rfl, rfl, ho, hb⟩ := hrel
    by_cases hkm : k = m
    · subst hkm
      have hz : decide ((0 : Int) < (k : Int) - k) = false := decide_eq_false (by omega)
      go_wp2_with fail
      go_ret
      exact ⟨⟨_, rfl, ho.out⟩, hb.out⟩
    have hk' : k < m := by omega
    have hz : decide ((0 : Int) < (m : Int) - k) = true := decide_eq_true (by omega)
    have bI := ins_nn p m k (by omega) (by have := HH.out.1; omega)
    have bp := pdv_bd p m k (by omega) (by have := HH.out.1; omega) (by omega)
    have hp := HH.out.2.1
    have hdi := doc_ins p m k (by omega) (by omega)
    have hq : p / m ≤ p := Int.ediv_le_self _ (by have := HH.out.1; omega)
    have htd : (p - pdv p m k + (m - k) - 1).tdiv (m - k) = ins p m k := by rw [Int.tdiv_eq_ediv_of_nonneg (by omega)]; exact hdi
    obtain ⟨x, hx⟩ : ∃ x, x = ins p m k := ⟨_, rfl⟩
    obtain ⟨y, hy⟩ : ∃ y, y = pdv p m k := ⟨_, rfl⟩
    have HX := (show Hid _ from hx)
    have HY := (show Hid _ from hy)
    rw [← hx] at bI htd
    rw [← hy] at bp htd
    simp only [← hy]
    obtain ⟨y1, y2⟩ := bp
    obtain ⟨x1, x2⟩ := bI
    have x3 : x ≤ 10000000000001 := by omega
    clear hx hy hdi hq x2
    go_wp2_with (at_builtin; refine appI1 rfl _ _ rfl w.heap.size (plan p m k) _ x (by rfl) (by rfl) ho.out (hb.out.size) (by rw [plan_len]; omega) ?_; intro v' w1 ho1 hb1)
    have e := pdv_succ p m k
    rw [← HX.out, ← HY.out] at e
    refine ⟨⟨k + 1, by omega, ?_, ?_, ?_, hb.out.trans hb1⟩, by simp [intOf]; omega⟩
    · rw [show ((k + 1 : Nat) : Int) = (k : Int) + 1 by omega, e]; congr 1; omega
    · congr 1; omega
    · rw [plan_succ, ← HX.out]; exact ho1
theorem DocSchedule_no (p n : Int) (w : World) (h : ¬ Plan p n) : Calls Try.prog 9 #[.int .i64 p, .int .i64 n] w fun e w' => e = .returned (.tuple #[.slice none 0 0, .int .i64 1]) ∧ w' = w := by
  have hd : decide (Plan p n) = false := decide_eq_false h
  clear h
  go_enter Try.func9, Try.ntmps9
  go_wp2_with (go_at_call 20; refine (right_ok p n _).mono ?_; rintro e w1 ⟨rfl, rfl⟩; rw [hd])
  refine bodyPost_ret (v := .tuple #[.slice none 0 0, .int .i64 1]) (by simp [results, Try.results9, go_sem]) rfl ?_
  exact ⟨rfl, rfl⟩
theorem DocSchedule_ok (p : Int) (m : Nat) (w : World) (h : Plan p m) : Calls Try.prog 9 #[.int .i64 p, .int .i64 m] w fun e w' => (∃ v, e = .returned (.tuple #[v, .int .i64 0]) ∧ OwnI w' w.heap.size v (plan p m m)) ∧ Below w.heap.size w w' := by
  have hd : decide (Plan p m) = true := decide_eq_true h
  have HH := (show Hid _ from h)
  clear h
  go_enter Try.func9, Try.ntmps9
  go_wp2_with (first | (go_at_call 20; refine (right_ok p m _).mono ?_; rintro e w1 ⟨rfl, hw⟩; obtain rfl := hw.symm; rw [hd]) | (go_at_call 21; refine (rSchedule_ok p m _ HH.out).mono ?_; rintro e w2 ⟨⟨v, rfl, ho⟩, hb⟩; have HO := (show Hid _ from ho); have HB := (show Hid _ from hb); clear ho hb))
  refine bodyPost_ret (v := .tuple #[v, .int .i64 0]) (by simp [results, Try.results9, go_sem]) rfl ?_
  exact ⟨⟨_, rfl, HO.out⟩, HB.out⟩
theorem DocLeft_no (p n k : Int) (w : World) (h : ¬ (Plan p n ∧ 0 ≤ k)) : Calls Try.prog 11 #[.int .i64 p, .int .i64 n, .int .i64 k] w fun e w' => e = .returned (.tuple #[.int .i64 0, .int .i64 1]) ∧ w' = w := by
  by_cases hP : Plan p n
  · have hd : decide (Plan p n) = true := decide_eq_true hP
    have hk0 : decide (k < 0) = true := decide_eq_true (by have : ¬ 0 ≤ k := fun h0 => h ⟨hP, h0⟩; omega)
    clear h hP
    go_enter Try.func11, Try.ntmps11
    go_wp2_with (go_at_call 20; refine (right_ok p n _).mono ?_; rintro e w1 ⟨rfl, rfl⟩; rw [hd])
    refine bodyPost_ret (v := .tuple #[.int .i64 0, .int .i64 1]) (by simp [results, Try.results11, go_sem]) rfl ?_
    exact ⟨rfl, rfl⟩
  · have hd : decide (Plan p n) = false := decide_eq_false hP
    clear h hP
    go_enter Try.func11, Try.ntmps11
    go_wp2_with (go_at_call 20; refine (right_ok p n _).mono ?_; rintro e w1 ⟨rfl, rfl⟩; rw [hd])
    refine bodyPost_ret (v := .tuple #[.int .i64 0, .int .i64 1]) (by simp [results, Try.results11, go_sem]) rfl ?_
    exact ⟨rfl, rfl⟩
/-- what is owed by the plan of the first j months, from month k on -/
def from' (p n k : Int) (j : Nat) : Int := pdv p n j - pdv p n (min k j)
theorem from_bd (p n k : Int) (j : Nat) (h : Plan p n) (h0 : 0 ≤ k) (hj : (j : Int) ≤ n) : 0 ≤ from' p n k j ∧ from' p n k j ≤ p := by
  obtain ⟨h1, h2, h3, h4⟩ := h
  have a := pdv_bd p n j h3 (by omega) hj
  have b := pdv_bd' p n (min k j) h3 (by omega) (by omega) (by omega)
  have c := pdv_mono p n (min k j).toNat j h3 (by omega) (by omega)
  rw [show (((min k j).toNat : Nat) : Int) = min k j by omega] at c
  unfold from'
  omega
theorem from_succ (p n k : Int) (j : Nat) (h : Plan p n) (h0 : 0 ≤ k) : from' p n k (j + 1) = if (j : Int) < k then 0 else from' p n k j + ins p n j := by
  unfold from'
  have e := pdv_succ p n j
  rw [show ((j + 1 : Nat) : Int) = (j : Int) + 1 by omega]
  split
  · rw [show min k ((j : Int) + 1) = (j : Int) + 1 by omega]; omega
  · rw [show min k ((j : Int) + 1) = k by omega, show min k (j : Int) = k by omega]; omega
theorem from_low (p n k : Int) (j : Nat) (h : (j : Int) ≤ k) : from' p n k j = 0 := by
  unfold from'; rw [show min k (j : Int) = j by omega]; omega
set_option maxRecDepth 100000 in
theorem DocLeft_ok (p : Int) (m : Nat) (k : Int) (w : World) (h : Plan p m) (h0 : 0 ≤ k) : Calls Try.prog 11 #[.int .i64 p, .int .i64 m, .int .i64 k] w fun e w' => e = .returned (.tuple #[.int .i64 (lft p m k), .int .i64 0]) ∧ Below w.heap.size w w' := by
  have hd : decide (Plan p m) = true := decide_eq_true h
  have hk0 : decide (k < 0) = false := decide_eq_false (by omega)
  have hm : m ≤ 480 := by have := h.2.2.2; omega
  have HH := (show Hid _ from h)
  have H0 := (show Hid _ from h0)
  clear h h0
  go_enter Try.func11, Try.ntmps11
  go_wp2_with (first | (go_at_call 20; refine (right_ok p m _).mono ?_; rintro e w1 ⟨rfl, hw⟩; obtain rfl := hw.symm; rw [hd]) | (go_at_call 21; refine (rSchedule_ok p m _ HH.out).mono ?_; rintro e w2 ⟨⟨v, rfl, ho⟩, hb⟩; have HO := (show Hid _ from ho); have HB := (show Hid _ from hb); obtain ⟨a, c, rfl, hc1, hc2⟩ := ho.form; rw [plan_len] at *; clear ho hb hc1))
  go_loopw [8, 23] (fun s i wr => ∃ j : Nat, j ≤ m ∧ s = .int .i64 (from' p m k j) ∧ i = .int .i64 j ∧ wr = w2) (fun _ i _ => m - (intOf i).toNat)
  case atStart => exact ⟨0, by omega, by rw [from_low p m k 0 H0.out], rfl, rfl⟩
  case round =>
    obtain ⟨j, hj, rfl, rfl, rfl⟩ := hrel
    by_cases hjm : j = m
    · subst hjm
      go_wp2_with fail
      refine bodyPost_ret (v := .tuple #[.int .i64 (from' p j k j), .int .i64 0]) (by simp [results, Try.results11, go_sem]) rfl ?_
      refine ⟨?_, HB.out⟩
      have e : from' p j k j = lft p j k := by unfold from' lft; rw [pdv_all p j (by have := HH.out.2.2.1; omega)]
      rw [e]
    have hj' : j < m := by omega
    have fb := from_bd p m k j HH.out H0.out (by omega)
    have fs := from_succ p m k j HH.out H0.out
    have fl := from_low p m k j
    have bI := ins_nn p m j (by omega) (by have := HH.out.1; omega)
    have hq : p / m ≤ p := Int.ediv_le_self _ (by have := HH.out.1; omega)
    have hp := HH.out.2.1
    obtain ⟨g, rfl, hg, hcell⟩ := HO.out.at j (by rw [plan_len]; omega)
    rw [plan_get p m m j hj'] at hcell
    obtain ⟨x, hx⟩ : ∃ x, x = ins p m j := ⟨_, rfl⟩
    obtain ⟨y, hy⟩ : ∃ y, y = from' p m k j := ⟨_, rfl⟩
    rw [← hx] at hcell bI fs
    rw [← hy] at fb fs fl ⊢
    have FS := (show Hid _ from fs)
    have x3 : 0 ≤ x ∧ x ≤ 10000000000001 := by omega
    obtain ⟨x1, x2⟩ := x3
    obtain ⟨y1, y2⟩ := fb
    by_cases hjk : (j : Int) < k
    · have hyz := fl (by omega)
      have e := FS.out
      rw [if_pos hjk] at e
      have E := (show Hid _ from e)
      have Y := (show Hid _ from hyz)
      clear hx hy hq bI fs fl FS e hyz
      go_wp2_with fail
      exact ⟨⟨j + 1, by omega, by rw [E.out, Y.out], by simp, trivial⟩, by simp [intOf]; omega⟩
    · have e := FS.out
      rw [if_neg hjk] at e
      have E := (show Hid _ from e)
      clear hx hy hq bI fs fl FS e
      go_wp2_with fail
      exact ⟨⟨j + 1, by omega, by rw [E.out], by simp, trivial⟩, by simp [intOf]; omega⟩
theorem DocArrears_ok (p : Int) (m : Nat) (k b : Int) (w : World) (h : Plan p m) (h0 : 0 ≤ k) (hb : 0 ≤ b ∧ b ≤ 10000000000000) : Calls Try.prog 13 #[.int .i64 p, .int .i64 m, .int .i64 k, .int .i64 b] w fun e w' => e = .returned (.tuple #[.int .i64 (max 0 (b - lft p m k)), .int .i64 0]) ∧ Below w.heap.size w w' := by
  have bd := lft_bd p m k h h0
  have hp := h.2.1
  have HH := (show Hid _ from h)
  have H0 := (show Hid _ from h0)
  clear h h0
  obtain ⟨l, hl⟩ : ∃ l, l = lft p m k := ⟨_, rfl⟩
  have HL := (show Hid _ from hl)
  rw [← hl] at bd ⊢
  clear hl
  obtain ⟨b1, b2⟩ := hb
  obtain ⟨l1, l2⟩ := bd
  have d1 : decide (b < 0) = false := decide_eq_false (by omega)
  have d2 : decide (10000000000000 < b) = false := decide_eq_false (by omega)
  by_cases hk : b ≤ l
  · have e : max 0 (b - l) = 0 := by omega
    have E := (show Hid _ from e)
    clear e
    go_enter Try.func13, Try.ntmps13
    go_wp2_with (go_at_call 11; refine (DocLeft_ok p m k _ HH.out H0.out).mono ?_; rintro e w1 ⟨rfl, hb1⟩; rw [← HL.out]; have B1 := (show Hid _ from hb1); clear hb1)
    refine bodyPost_ret (v := .tuple #[.int .i64 0, .int .i64 0]) (by simp [results, Try.results13, go_sem]) rfl ?_
    exact ⟨by rw [E.out], B1.out⟩
  · have e : max 0 (b - l) = b - l := by omega
    have E := (show Hid _ from e)
    clear e
    go_enter Try.func13, Try.ntmps13
    go_wp2_with (go_at_call 11; refine (DocLeft_ok p m k _ HH.out H0.out).mono ?_; rintro e w1 ⟨rfl, hb1⟩; rw [← HL.out]; have B1 := (show Hid _ from hb1); clear hb1)
    refine bodyPost_ret (v := .tuple #[.int .i64 (b - l), .int .i64 0]) (by simp [results, Try.results13, go_sem]) rfl ?_
    exact ⟨by rw [E.out], B1.out⟩
theorem DocArrears_no1 (p n k b : Int) (w : World) (h : ¬ (Plan p n ∧ 0 ≤ k)) : Calls Try.prog 13 #[.int .i64 p, .int .i64 n, .int .i64 k, .int .i64 b] w fun e w' => e = .returned (.tuple #[.int .i64 0, .int .i64 1]) ∧ Below w.heap.size w w' := by
  have B0 := (show Hid _ from Below.refl w.heap.size w)
  have HP := (show Hid _ from h)
  clear h
  go_enter Try.func13, Try.ntmps13
  go_wp2_with (go_at_call 11; refine (DocLeft_no p n k _ HP.out).mono ?_; rintro e w1 ⟨rfl, rfl⟩)
  refine bodyPost_ret (v := .tuple #[.int .i64 0, .int .i64 1]) (by simp [results, Try.results13, go_sem]) rfl ?_
  exact ⟨rfl, B0.out⟩
theorem DocArrears_no2 (p : Int) (m : Nat) (k b : Int) (w : World) (h : Plan p m) (h0 : 0 ≤ k) (hb : ¬ (0 ≤ b ∧ b ≤ 10000000000000)) : Calls Try.prog 13 #[.int .i64 p, .int .i64 m, .int .i64 k, .int .i64 b] w fun e w' => e = .returned (.tuple #[.int .i64 0, .int .i64 1]) ∧ Below w.heap.size w w' := by
  have HH := (show Hid _ from h)
  have H0 := (show Hid _ from h0)
  clear h h0
  obtain ⟨l, hl⟩ : ∃ l, l = lft p m k := ⟨_, rfl⟩
  have HL := (show Hid _ from hl)
  clear hl
  by_cases hk : b < 0
  · have d1 : decide (b < 0) = true := decide_eq_true hk
    clear hb hk
    go_enter Try.func13, Try.ntmps13
    go_wp2_with (go_at_call 11; refine (DocLeft_ok p m k _ HH.out H0.out).mono ?_; rintro e w1 ⟨rfl, hb1⟩; rw [← HL.out]; have B1 := (show Hid _ from hb1); clear hb1)
    refine bodyPost_ret (v := .tuple #[.int .i64 0, .int .i64 1]) (by simp [results, Try.results13, go_sem]) rfl ?_
    exact ⟨rfl, B1.out⟩
  · have d1 : decide (b < 0) = false := decide_eq_false hk
    have d2 : decide (10000000000000 < b) = true := decide_eq_true (by omega)
    clear hb hk
    go_enter Try.func13, Try.ntmps13
    go_wp2_with (go_at_call 11; refine (DocLeft_ok p m k _ HH.out H0.out).mono ?_; rintro e w1 ⟨rfl, hb1⟩; rw [← HL.out]; have B1 := (show Hid _ from hb1); clear hb1)
    refine bodyPost_ret (v := .tuple #[.int .i64 0, .int .i64 1]) (by simp [results, Try.results13, go_sem]) rfl ?_
    exact ⟨rfl, B1.out⟩
end Go.Proofs.Ytapjegkjhdnlcaa
