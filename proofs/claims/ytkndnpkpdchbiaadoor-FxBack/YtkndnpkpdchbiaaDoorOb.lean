/- fx: the contracts of the document's over, of Quote, DocQuote, Cross, DocCross. -/
import Derived.Test.YtkndnpkpdchbiaaDoorOa
namespace Go.Proofs.YtkndnpkpdchbiaaDoor
open Go.RowKit
set_option linter.unusedVariables false
attribute [local go_sem] ext_cell ext_frozen ext_drew ext_of_drew ext_of_drewN ext_setCell ext_lt ext_lt1 ext_lt2 ext_lt3 lt_n2 lt_n3 lt_n4 lt_n5 lt_n6

theorem mi_small {x : Int} (h1 : 0 ≤ x) (h2 : x ≤ 1000000000000000000000000000000000000000000) : Mi x := by
  unfold Mi
  exact md_of (k := 160) (by have : x.natAbs ≤ 1000000000000000000000000000000000000000000 := by omega
                             exact Nat.lt_of_le_of_lt this (by decide)) (by decide)
theorem prod_bd {a b : Nat} (ha : a ≤ 1000000000000) (hb : b ≤ 1000000000000) : 0 ≤ (a : Int) * (b : Int) ∧ (a : Int) * (b : Int) ≤ 1000000000000000000000000 := by
  refine ⟨Int.mul_nonneg (by omega) (by omega), ?_⟩
  have := Int.mul_le_mul (show (a : Int) ≤ 1000000000000 by omega) (show (b : Int) ≤ 1000000000000 by omega) (by omega) (by omega)
  omega
set_option maxHeartbeats 1000000 in
set_option maxRecDepth 100000 in
theorem over_ok (a b c mode q : Nat) (w : World) (ha : a ≤ 1000000000000) (hb : b ≤ 1000000000000) (hc : 0 < c ∧ c ≤ 1000000000) (hm : mode ≤ 6) (hq : q = rnd false (a * b) c mode) (hq2 : q ≤ 9223372036854775807) :
    Calls Tryd.prog 15 #[.int .i64 a, .int .i64 b, .int .i64 c, .int .i64 mode] w fun e w' => e = .returned (.tuple #[.int .i64 q, .bool (wi q 1 1000000000000)]) ∧ Below w.heap.size w w' := by
  have HP := (show Hid _ from prod_bd ha hb)
  have HA := (show Hid _ from And.intro ha (And.intro hb (And.intro hc hq2)))
  have HQ : Hid (sv (decide ((a : Int) * (b : Int) < 0)) (rnd (decide ((a : Int) * (b : Int) < 0)) ((a : Int) * (b : Int)).natAbs c mode) = (q : Int)) := by
    show sv (decide ((a : Int) * (b : Int) < 0)) (rnd (decide ((a : Int) * (b : Int) < 0)) ((a : Int) * (b : Int)).natAbs c mode) = (q : Int)
    have := HP.out
    rw [decide_eq_false (by omega), show ((a : Int) * (b : Int)).natAbs = a * b by rw [Int.natAbs_mul, Int.natAbs_natCast, Int.natAbs_natCast], hq]
    simp [sv]
  have HM := (show Hid _ from hm)
  clear ha hb hc hq hq2 hm
  have BB_0 := (show Hid _ from Below.refl w.heap.size w)
  go_enter Tryd.func15, Tryd.ntmps15
  go_wp2_with fail
  refine (made_in a _ (by have := HA.out; omega) (by have := HA.out; omega)).mono ?_
  rintro e w1 ⟨⟨v1, rfl, i1⟩, b1⟩
  have I1 := (show Hid _ from i1)
  have B1 := (show Hid _ from b1)
  clear i1 b1 BB_0
  go_wp2_with fail
  refine (made_in b _ (by have := HA.out; omega) (by have := HA.out; omega)).mono ?_
  rintro e w2 ⟨⟨v2, rfl, i2⟩, b2⟩
  have I1' := (show Hid _ from I1.out.step b2)
  have I2 := (show Hid _ from i2)
  have B2 := (show Hid _ from B1.out.trans (b2.mono B1.out.size))
  clear i2 b2 B1 I1
  go_wp2_with fail
  refine (prod_in v1 v2 a b _ I1'.out I2.out (mi_small (by omega) (by have := HA.out; omega)) (mi_small (by omega) (by have := HA.out; omega))).mono ?_
  rintro e w3 ⟨⟨v3, rfl, i3⟩, b3⟩
  have I3 := (show Hid _ from i3)
  have B3 := (show Hid _ from B2.out.trans (b3.mono B2.out.size))
  clear i3 b3 B2 I1' I2
  have hc64 : (c : Int) ≤ 1000000000 := by have := HA.out; omega
  go_wp2_with fail
  refine (word_ok c _ (by omega) (by omega)).mono ?_
  rintro e w4 ⟨⟨v4, rfl, i4⟩, b4⟩
  rw [show ((c : Nat) : Int).toNat = c by omega] at i4
  have I3' := (show Hid _ from I3.out.step b4)
  have I4 := (show Hid _ from i4)
  have B4 := (show Hid _ from B3.out.trans (b4.mono B3.out.size))
  clear i4 b4 B3 I3
  go_wp2_with fail
  refine (rounded_in v3 v4 (a * b) c mode _ I3'.out I4.out (mi_small HP.out.1 (by have := HP.out; omega)) (md_of (k := 60) (by have := HA.out; omega) (by decide)) (by have := HA.out; omega) HM.out).mono ?_
  rintro e w5 ⟨⟨v5, rfl, i5⟩, b5⟩
  rw [HQ.out] at i5
  have I5 := (show Hid _ from i5)
  have B5 := (show Hid _ from B4.out.trans (b5.mono B4.out.size))
  clear i5 b5 B4 I3' I4
  go_wp2_with fail
  refine (small_yes v5 q _ I5.out (by omega) (by have := HA.out; omega)).mono ?_
  rintro e w6 ⟨rfl, b6⟩
  have B6 := (show Hid _ from B5.out.trans (b6.mono B5.out.size))
  clear b6 B5 I5
  go_wp2_with fail
  refine (rrate_ok q _).mono ?_
  rintro e w7 ⟨rfl, hq⟩
  obtain rfl := hq.symm
  go_wp2_with fail
  refine bodyPost_ret (v := .tuple #[.int .i64 q, .bool (wi q 1 1000000000000)]) (by simp [results, Tryd.results15, go_sem]) rfl ?_
  exact ⟨rfl, B6.out⟩
/-- what is not a rate, or no spread -/
theorem Quote_arg (a s : Int) (w : World) (h : ¬ (1 ≤ a ∧ a ≤ 1000000000000) ∨ s < 0 ∨ 1000000 ≤ s) :
    Calls Tryd.prog 6 #[.int .i64 a, .int .i64 s] w fun e w' => e = .returned (.tuple #[.int .i64 0, .int .i64 0, .int .i64 1]) ∧ w' = w := by
  by_cases h1 : wi a 1 1000000000000 = true
  · have h2 : s < 0 ∨ 1000000 ≤ s := by
      rcases h with h | h
      · exact absurd (of_decide_eq_true h1) h
      · exact h
    clear h
    by_cases h3 : s < 0
    · have d1 : decide (s < 0) = true := decide_eq_true h3
      clear h2 h3
      go_enter Tryd.func6, Tryd.ntmps6
      go_wp2_with fail
      refine (frate_ok a _).mono ?_
      rintro e w7 ⟨rfl, hq⟩
      obtain rfl := hq.symm
      rw [h1]
      go_wp2_with fail
      refine bodyPost_ret (v := .tuple #[.int .i64 0, .int .i64 0, .int .i64 1]) (by simp [results, Tryd.results6, go_sem]) rfl ?_
      exact ⟨rfl, rfl⟩
    · have d1 : decide (s < 0) = false := decide_eq_false h3
      have d2 : decide (1000000 ≤ s) = true := decide_eq_true (by omega)
      clear h2 h3
      go_enter Tryd.func6, Tryd.ntmps6
      go_wp2_with fail
      refine (frate_ok a _).mono ?_
      rintro e w7 ⟨rfl, hq⟩
      obtain rfl := hq.symm
      rw [h1]
      go_wp2_with fail
      refine bodyPost_ret (v := .tuple #[.int .i64 0, .int .i64 0, .int .i64 1]) (by simp [results, Tryd.results6, go_sem]) rfl ?_
      exact ⟨rfl, rfl⟩
  · replace h1 : wi a 1 1000000000000 = false := by simpa using h1
    clear h
    go_enter Tryd.func6, Tryd.ntmps6
    go_wp2_with fail
    refine (frate_ok a _).mono ?_
    rintro e w7 ⟨rfl, hq⟩
    obtain rfl := hq.symm
    rw [h1]
    go_wp2_with fail
    refine bodyPost_ret (v := .tuple #[.int .i64 0, .int .i64 0, .int .i64 1]) (by simp [results, Tryd.results6, go_sem]) rfl ?_
    exact ⟨rfl, rfl⟩
theorem DocQuote_arg (a s : Int) (w : World) (h : ¬ (1 ≤ a ∧ a ≤ 1000000000000) ∨ s < 0 ∨ 1000000 ≤ s) :
    Calls Tryd.prog 7 #[.int .i64 a, .int .i64 s] w fun e w' => e = .returned (.tuple #[.int .i64 0, .int .i64 0, .int .i64 1]) ∧ w' = w := by
  by_cases h1 : wi a 1 1000000000000 = true
  · have h2 : s < 0 ∨ 1000000 ≤ s := by
      rcases h with h | h
      · exact absurd (of_decide_eq_true h1) h
      · exact h
    clear h
    by_cases h3 : s < 0
    · have d1 : decide (s < 0) = true := decide_eq_true h3
      clear h2 h3
      go_enter Tryd.func7, Tryd.ntmps7
      go_wp2_with fail
      refine (rrate_ok a _).mono ?_
      rintro e w7 ⟨rfl, hq⟩
      obtain rfl := hq.symm
      rw [h1]
      go_wp2_with fail
      refine bodyPost_ret (v := .tuple #[.int .i64 0, .int .i64 0, .int .i64 1]) (by simp [results, Tryd.results7, go_sem]) rfl ?_
      exact ⟨rfl, rfl⟩
    · have d1 : decide (s < 0) = false := decide_eq_false h3
      have d2 : decide (999999 < s) = true := decide_eq_true (by omega)
      clear h2 h3
      go_enter Tryd.func7, Tryd.ntmps7
      go_wp2_with fail
      refine (rrate_ok a _).mono ?_
      rintro e w7 ⟨rfl, hq⟩
      obtain rfl := hq.symm
      rw [h1]
      go_wp2_with fail
      refine bodyPost_ret (v := .tuple #[.int .i64 0, .int .i64 0, .int .i64 1]) (by simp [results, Tryd.results7, go_sem]) rfl ?_
      exact ⟨rfl, rfl⟩
  · replace h1 : wi a 1 1000000000000 = false := by simpa using h1
    clear h
    go_enter Tryd.func7, Tryd.ntmps7
    go_wp2_with fail
    refine (rrate_ok a _).mono ?_
    rintro e w7 ⟨rfl, hq⟩
    obtain rfl := hq.symm
    rw [h1]
    go_wp2_with fail
    refine bodyPost_ret (v := .tuple #[.int .i64 0, .int .i64 0, .int .i64 1]) (by simp [results, Tryd.results7, go_sem]) rfl ?_
    exact ⟨rfl, rfl⟩
def qx (r s : Nat) : Nat := r * (1000000 - s) / 1000000
def qy (r s : Nat) : Nat := rnd false (r * (1000000 + s)) 1000000 3
theorem qx_bd {r s : Nat} (hr : r ≤ 1000000000000) : qx r s ≤ 1000000000000 := by
  unfold qx
  have : r * (1000000 - s) ≤ 1000000000000 * 1000000 := Nat.mul_le_mul hr (by omega)
  omega
theorem qy_bd {r s : Nat} (hr : r ≤ 1000000000000) (hs : s ≤ 999999) : qy r s ≤ 2000000000001 := by
  unfold qy
  have h := (rnd_bd (r * (1000000 + s)) 1000000 3).2
  have : r * (1000000 + s) ≤ 1000000000000 * 2000000 := Nat.mul_le_mul hr (by omega)
  omega
def ansQ (r s : Nat) : Array Value := if wi (qx r s) 1 1000000000000 && wi (qy r s) 1 1000000000000 then #[.int .i64 (qx r s : Int), .int .i64 (qy r s : Int), .int .i64 0] else #[.int .i64 0, .int .i64 0, .int .i64 4]
set_option maxHeartbeats 1000000 in
theorem Quote_ok (r s : Nat) (w : World) (h0 : 1 ≤ r) (hr : r ≤ 1000000000000) (hs : s ≤ 999999) :
    Calls Tryd.prog 6 #[.int .i64 r, .int .i64 s] w fun e w' => e = .returned (.tuple (ansQ r s)) ∧ Below w.heap.size w w' := by
  have h1 : wi r 1 1000000000000 = true := wi_yes (by omega) (by omega)
  have d1 : decide ((s : Int) < 0) = false := decide_eq_false (by omega)
  have d2 : decide (1000000 ≤ (s : Int)) = false := decide_eq_false (by omega)
  have eX : qx r s = rnd false (r * (1000000 - s)) (10 ^ 6) 2 := by unfold qx; exact (rnd_flo _ _).2.symm
  have eY : qy r s = rnd false (r * (1000000 + s)) (10 ^ 6) 3 := rfl
  have bX := qx_bd (s := s) hr
  have bY := qy_bd hr hs
  obtain ⟨m, hm⟩ : ∃ m : Nat, m = 1000000 - s := ⟨_, rfl⟩
  obtain ⟨n, hn⟩ : ∃ n : Nat, n = 1000000 + s := ⟨_, rfl⟩
  have em : Hid (1000000 - (s : Int) = (m : Int)) := (by omega : 1000000 - (s : Int) = (m : Int))
  have en : Hid (1000000 + (s : Int) = (n : Int)) := (by omega : 1000000 + (s : Int) = (n : Int))
  rw [← hm] at eX
  rw [← hn] at eY
  obtain ⟨A, hA⟩ : ∃ A, A = ansQ r s := ⟨_, rfl⟩
  rw [← hA]
  unfold ansQ at hA
  generalize qx r s = X at *
  generalize qy r s = Y at *
  have HAA := (show Hid _ from hA)
  clear hA
  have HE := (show Hid _ from And.intro eX (And.intro eY (And.intro bX bY)))
  have HB : Hid (r ≤ 1000000000000 ∧ m ≤ 1000000000000 ∧ n ≤ 1000000000000) := ⟨hr, by omega, by omega⟩
  clear eX eY bX bY hm hn h0
  go_enter Tryd.func6, Tryd.ntmps6
  go_wp2_with fail
  refine (frate_ok r _).mono ?_
  rintro e w7 ⟨rfl, hq⟩
  obtain rfl := hq.symm
  rw [h1]
  clear h1
  go_wp2_with fail
  rw [em.out]
  refine (ftimes_ok r m 6 2 X _ HB.out.1 HB.out.2.1 (by decide) (by decide) HE.out.1 (by have := HE.out; omega)).mono ?_
  rintro e w1 ⟨rfl, b1⟩
  have B1 := (show Hid _ from b1)
  clear b1
  go_wp2_with fail
  rw [en.out]
  refine (ftimes_ok r n 6 3 Y _ HB.out.1 HB.out.2.2 (by decide) (by decide) HE.out.2.1 (by have := HE.out; omega)).mono ?_
  rintro e w2 ⟨rfl, b2⟩
  have B2 := (show Hid _ from B1.out.trans (b2.mono B1.out.size))
  clear b2 B1
  go_wp2_with fail
  refine (frate_ok X _).mono ?_
  rintro e w7 ⟨rfl, hq⟩
  obtain rfl := hq.symm
  by_cases x1 : wi X 1 1000000000000 = true
  · rw [x1]
    go_wp2_with fail
    refine (frate_ok Y _).mono ?_
    rintro e w7 ⟨rfl, hq⟩
    obtain rfl := hq.symm
    by_cases y1 : wi Y 1 1000000000000 = true
    · rw [y1]
      go_wp2_with fail
      refine bodyPost_ret (v := .tuple #[.int .i64 X, .int .i64 Y, .int .i64 0]) (by simp [results, Tryd.results6, go_sem]) rfl ?_
      exact ⟨by rw [HAA.out, x1, y1]; rfl, B2.out⟩
    · replace y1 : wi Y 1 1000000000000 = false := by simpa using y1
      rw [y1]
      go_wp2_with fail
      refine bodyPost_ret (v := .tuple #[.int .i64 0, .int .i64 0, .int .i64 4]) (by simp [results, Tryd.results6, go_sem]) rfl ?_
      exact ⟨by rw [HAA.out, x1, y1]; rfl, B2.out⟩
  · replace x1 : wi X 1 1000000000000 = false := by simpa using x1
    rw [x1]
    go_wp2_with fail
    refine bodyPost_ret (v := .tuple #[.int .i64 0, .int .i64 0, .int .i64 4]) (by simp [results, Tryd.results6, go_sem]) rfl ?_
    exact ⟨by rw [HAA.out, x1]; rfl, B2.out⟩
set_option maxHeartbeats 1000000 in
theorem DocQuote_ok (r s : Nat) (w : World) (h0 : 1 ≤ r) (hr : r ≤ 1000000000000) (hs : s ≤ 999999) :
    Calls Tryd.prog 7 #[.int .i64 r, .int .i64 s] w fun e w' => e = .returned (.tuple (ansQ r s)) ∧ Below w.heap.size w w' := by
  have h1 : wi r 1 1000000000000 = true := wi_yes (by omega) (by omega)
  have d1 : decide ((s : Int) < 0) = false := decide_eq_false (by omega)
  have d2 : decide (999999 < (s : Int)) = false := decide_eq_false (by omega)
  have eX : qx r s = rnd false (r * (1000000 - s)) 1000000 0 := by unfold qx; exact (rnd_flo _ _).1.symm
  have eY : qy r s = rnd false (r * (1000000 + s)) 1000000 1 := by unfold qy; exact (rnd_cei _ _).symm
  have bX := qx_bd (s := s) hr
  have bY := qy_bd hr hs
  obtain ⟨m, hm⟩ : ∃ m : Nat, m = 1000000 - s := ⟨_, rfl⟩
  obtain ⟨n, hn⟩ : ∃ n : Nat, n = 1000000 + s := ⟨_, rfl⟩
  have em : Hid (1000000 - (s : Int) = (m : Int)) := (by omega : 1000000 - (s : Int) = (m : Int))
  have en : Hid (1000000 + (s : Int) = (n : Int)) := (by omega : 1000000 + (s : Int) = (n : Int))
  rw [← hm] at eX
  rw [← hn] at eY
  obtain ⟨A, hA⟩ : ∃ A, A = ansQ r s := ⟨_, rfl⟩
  rw [← hA]
  unfold ansQ at hA
  generalize qx r s = X at *
  generalize qy r s = Y at *
  have HAA := (show Hid _ from hA)
  clear hA
  have HE := (show Hid _ from And.intro eX (And.intro eY (And.intro bX bY)))
  have HB : Hid (r ≤ 1000000000000 ∧ m ≤ 1000000000000 ∧ n ≤ 1000000000000) := ⟨hr, by omega, by omega⟩
  clear eX eY bX bY hm hn h0
  go_enter Tryd.func7, Tryd.ntmps7
  go_wp2_with fail
  refine (rrate_ok r _).mono ?_
  rintro e w7 ⟨rfl, hq⟩
  obtain rfl := hq.symm
  rw [h1]
  clear h1
  go_wp2_with fail
  rw [em.out]
  refine (over_ok r m 1000000 0 X _ HB.out.1 HB.out.2.1 (by decide) (by decide) HE.out.1 (by have := HE.out; omega)).mono ?_
  rintro e w1 ⟨rfl, b1⟩
  have B1 := (show Hid _ from b1)
  clear b1
  go_wp2_with fail
  rw [en.out]
  refine (over_ok r n 1000000 1 Y _ HB.out.1 HB.out.2.2 (by decide) (by decide) HE.out.2.1 (by have := HE.out; omega)).mono ?_
  rintro e w2 ⟨rfl, b2⟩
  have B2 := (show Hid _ from B1.out.trans (b2.mono B1.out.size))
  clear b2 B1
  by_cases x1 : wi X 1 1000000000000 = true
  · rw [x1]
    by_cases y1 : wi Y 1 1000000000000 = true
    · rw [y1]
      go_wp2_with fail
      refine bodyPost_ret (v := .tuple #[.int .i64 X, .int .i64 Y, .int .i64 0]) (by simp [results, Tryd.results7, go_sem]) rfl ?_
      exact ⟨by rw [HAA.out, x1, y1]; rfl, B2.out⟩
    · replace y1 : wi Y 1 1000000000000 = false := by simpa using y1
      rw [y1]
      go_wp2_with fail
      refine bodyPost_ret (v := .tuple #[.int .i64 0, .int .i64 0, .int .i64 4]) (by simp [results, Tryd.results7, go_sem]) rfl ?_
      exact ⟨by rw [HAA.out, x1, y1]; rfl, B2.out⟩
  · replace x1 : wi X 1 1000000000000 = false := by simpa using x1
    rw [x1]
    go_wp2_with fail
    refine bodyPost_ret (v := .tuple #[.int .i64 0, .int .i64 0, .int .i64 4]) (by simp [results, Tryd.results7, go_sem]) rfl ?_
    exact ⟨by rw [HAA.out, x1]; rfl, B2.out⟩
def crx (a b : Nat) : Nat := a * b / 1000000000
def ansC (a b : Nat) : Array Value := if wi (crx a b) 1 1000000000000 then #[.int .i64 (crx a b : Int), .int .i64 0] else #[.int .i64 0, .int .i64 4]
theorem crx_bd {a b : Nat} (ha : a ≤ 1000000000000) (hb : b ≤ 1000000000000) : crx a b ≤ 1000000000000000 := by
  unfold crx
  have : a * b ≤ 1000000000000 * 1000000000000 := Nat.mul_le_mul ha hb
  omega
theorem Cross_arg (a b : Int) (w : World) (h : ¬ ((1 ≤ a ∧ a ≤ 1000000000000) ∧ 1 ≤ b ∧ b ≤ 1000000000000)) :
    Calls Tryd.prog 8 #[.int .i64 a, .int .i64 b] w fun e w' => e = .returned (.tuple #[.int .i64 0, .int .i64 1]) ∧ w' = w := by
  by_cases h1 : wi a 1 1000000000000 = true
  · have h2 : wi b 1 1000000000000 = false := wi_no (fun hb => h ⟨of_decide_eq_true h1, hb⟩)
    clear h
    go_enter Tryd.func8, Tryd.ntmps8
    go_wp2_with fail
    refine (frate_ok a _).mono ?_
    rintro e w7 ⟨rfl, hq⟩
    obtain rfl := hq.symm
    rw [h1]
    go_wp2_with fail
    refine (frate_ok b _).mono ?_
    rintro e w7 ⟨rfl, hq⟩
    obtain rfl := hq.symm
    rw [h2]
    go_wp2_with fail
    refine bodyPost_ret (v := .tuple #[.int .i64 0, .int .i64 1]) (by simp [results, Tryd.results8, go_sem]) rfl ?_
    exact ⟨rfl, rfl⟩
  · replace h1 : wi a 1 1000000000000 = false := by simpa using h1
    clear h
    go_enter Tryd.func8, Tryd.ntmps8
    go_wp2_with fail
    refine (frate_ok a _).mono ?_
    rintro e w7 ⟨rfl, hq⟩
    obtain rfl := hq.symm
    rw [h1]
    go_wp2_with fail
    refine bodyPost_ret (v := .tuple #[.int .i64 0, .int .i64 1]) (by simp [results, Tryd.results8, go_sem]) rfl ?_
    exact ⟨rfl, rfl⟩
set_option maxHeartbeats 1000000 in
theorem Cross_ok (a b : Nat) (w : World) (h0 : 1 ≤ a) (h1 : a ≤ 1000000000000) (h2 : 1 ≤ b) (h3 : b ≤ 1000000000000) :
    Calls Tryd.prog 8 #[.int .i64 a, .int .i64 b] w fun e w' => e = .returned (.tuple (ansC a b)) ∧ Below w.heap.size w w' := by
  have ha : wi a 1 1000000000000 = true := wi_yes (by omega) (by omega)
  have hb : wi b 1 1000000000000 = true := wi_yes (by omega) (by omega)
  have eX : crx a b = rnd false (a * b) (10 ^ 9) 2 := by unfold crx; exact (rnd_flo _ _).2.symm
  have bX := crx_bd h1 h3
  obtain ⟨A, hA⟩ : ∃ A, A = ansC a b := ⟨_, rfl⟩
  rw [← hA]
  unfold ansC at hA
  generalize crx a b = X at *
  have HAA := (show Hid _ from hA)
  clear hA
  have HE := (show Hid _ from And.intro eX bX)
  have HB := (show Hid _ from And.intro h1 h3)
  clear eX bX h0 h1 h2 h3
  go_enter Tryd.func8, Tryd.ntmps8
  go_wp2_with fail
  refine (frate_ok a _).mono ?_
  rintro e w7 ⟨rfl, hq⟩
  obtain rfl := hq.symm
  rw [ha]
  go_wp2_with fail
  refine (frate_ok b _).mono ?_
  rintro e w7 ⟨rfl, hq⟩
  obtain rfl := hq.symm
  rw [hb]
  clear ha hb
  go_wp2_with fail
  refine (ftimes_ok a b 9 2 X _ HB.out.1 HB.out.2 (by decide) (by decide) HE.out.1 (by have := HE.out; omega)).mono ?_
  rintro e w2 ⟨rfl, b2⟩
  have B2 := (show Hid _ from b2)
  clear b2
  go_wp2_with fail
  refine (frate_ok X _).mono ?_
  rintro e w7 ⟨rfl, hq⟩
  obtain rfl := hq.symm
  by_cases x1 : wi X 1 1000000000000 = true
  · have x1 : wi X 1 1000000000000 = true := by simpa using x1
    rw [x1]
    go_wp2_with fail
    refine bodyPost_ret (v := .tuple #[.int .i64 X, .int .i64 0]) (by simp [results, Tryd.results8, go_sem]) rfl ?_
    exact ⟨by rw [HAA.out, x1]; rfl, B2.out⟩
  · have x1 : wi X 1 1000000000000 = false := by simpa using x1
    rw [x1]
    go_wp2_with fail
    refine bodyPost_ret (v := .tuple #[.int .i64 0, .int .i64 4]) (by simp [results, Tryd.results8, go_sem]) rfl ?_
    exact ⟨by rw [HAA.out, x1]; rfl, B2.out⟩
theorem DocCross_arg (a b : Int) (w : World) (h : ¬ ((1 ≤ a ∧ a ≤ 1000000000000) ∧ 1 ≤ b ∧ b ≤ 1000000000000)) :
    Calls Tryd.prog 9 #[.int .i64 a, .int .i64 b] w fun e w' => e = .returned (.tuple #[.int .i64 0, .int .i64 1]) ∧ w' = w := by
  by_cases h1 : wi a 1 1000000000000 = true
  · have h2 : wi b 1 1000000000000 = false := wi_no (fun hb => h ⟨of_decide_eq_true h1, hb⟩)
    clear h
    go_enter Tryd.func9, Tryd.ntmps9
    go_wp2_with fail
    refine (rrate_ok a _).mono ?_
    rintro e w7 ⟨rfl, hq⟩
    obtain rfl := hq.symm
    rw [h1]
    go_wp2_with fail
    refine (rrate_ok b _).mono ?_
    rintro e w7 ⟨rfl, hq⟩
    obtain rfl := hq.symm
    rw [h2]
    go_wp2_with fail
    refine bodyPost_ret (v := .tuple #[.int .i64 0, .int .i64 1]) (by simp [results, Tryd.results9, go_sem]) rfl ?_
    exact ⟨rfl, rfl⟩
  · replace h1 : wi a 1 1000000000000 = false := by simpa using h1
    clear h
    go_enter Tryd.func9, Tryd.ntmps9
    go_wp2_with fail
    refine (rrate_ok a _).mono ?_
    rintro e w7 ⟨rfl, hq⟩
    obtain rfl := hq.symm
    rw [h1]
    go_wp2_with fail
    refine bodyPost_ret (v := .tuple #[.int .i64 0, .int .i64 1]) (by simp [results, Tryd.results9, go_sem]) rfl ?_
    exact ⟨rfl, rfl⟩
set_option maxHeartbeats 1000000 in
theorem DocCross_ok (a b : Nat) (w : World) (h0 : 1 ≤ a) (h1 : a ≤ 1000000000000) (h2 : 1 ≤ b) (h3 : b ≤ 1000000000000) :
    Calls Tryd.prog 9 #[.int .i64 a, .int .i64 b] w fun e w' => e = .returned (.tuple (ansC a b)) ∧ Below w.heap.size w w' := by
  have ha : wi a 1 1000000000000 = true := wi_yes (by omega) (by omega)
  have hb : wi b 1 1000000000000 = true := wi_yes (by omega) (by omega)
  have eX : crx a b = rnd false (a * b) 1000000000 0 := by unfold crx; exact (rnd_flo _ _).1.symm
  have bX := crx_bd h1 h3
  obtain ⟨A, hA⟩ : ∃ A, A = ansC a b := ⟨_, rfl⟩
  rw [← hA]
  unfold ansC at hA
  generalize crx a b = X at *
  have HAA := (show Hid _ from hA)
  clear hA
  have HE := (show Hid _ from And.intro eX bX)
  have HB := (show Hid _ from And.intro h1 h3)
  clear eX bX h0 h1 h2 h3
  go_enter Tryd.func9, Tryd.ntmps9
  go_wp2_with fail
  refine (rrate_ok a _).mono ?_
  rintro e w7 ⟨rfl, hq⟩
  obtain rfl := hq.symm
  rw [ha]
  go_wp2_with fail
  refine (rrate_ok b _).mono ?_
  rintro e w7 ⟨rfl, hq⟩
  obtain rfl := hq.symm
  rw [hb]
  clear ha hb
  go_wp2_with fail
  refine (over_ok a b 1000000000 0 X _ HB.out.1 HB.out.2 (by decide) (by decide) HE.out.1 (by have := HE.out; omega)).mono ?_
  rintro e w2 ⟨rfl, b2⟩
  have B2 := (show Hid _ from b2)
  clear b2
  by_cases x1 : wi X 1 1000000000000 = true
  · have x1 : wi X 1 1000000000000 = true := by simpa using x1
    rw [x1]
    go_wp2_with fail
    refine bodyPost_ret (v := .tuple #[.int .i64 X, .int .i64 0]) (by simp [results, Tryd.results9, go_sem]) rfl ?_
    exact ⟨by rw [HAA.out, x1]; rfl, B2.out⟩
  · have x1 : wi X 1 1000000000000 = false := by simpa using x1
    rw [x1]
    go_wp2_with fail
    refine bodyPost_ret (v := .tuple #[.int .i64 0, .int .i64 4]) (by simp [results, Tryd.results9, go_sem]) rfl ?_
    exact ⟨by rw [HAA.out, x1]; rfl, B2.out⟩
end Go.Proofs.YtkndnpkpdchbiaaDoor
