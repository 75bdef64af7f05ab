/- fx: the walk of FxSpread. -/
import Derived.Test.YtkndnpkpdchbiaaDoorOe
namespace Go.Proofs.YtkndnpkpdchbiaaDoor
open Go.RowKit
set_option linter.unusedVariables false
attribute [local go_sem] ext_cell ext_frozen ext_drew ext_of_drew ext_of_drewN ext_setCell ext_lt ext_lt1 ext_lt2 ext_lt3 lt_n2 lt_n3 lt_n4 lt_n5 lt_n6

/-- int64(uint64(x) % m) -/
theorem um (x m : Int) (h0 : 0 < m) (h1 : m ≤ 9000000000000000000) : 0 ≤ wrap64 ((IntKind.u64.wrap x).tmod m) ∧ wrap64 ((IntKind.u64.wrap x).tmod m) < m := by
  have hw : 0 ≤ IntKind.u64.wrap x := by
    show 0 ≤ x % 2 ^ 64
    exact Int.emod_nonneg _ (by decide)
  rw [Int.tmod_eq_emod_of_nonneg hw]
  have a := Int.emod_nonneg (IntKind.u64.wrap x) (show m ≠ 0 by omega)
  have b := Int.emod_lt_of_pos (IntKind.u64.wrap x) h0
  generalize IntKind.u64.wrap x % m = z at *
  unfold wrap64
  omega
/-- Quote, as the law reads it -/
theorem quote_ans (r s : Nat) (h0 : 1 ≤ r) (hr : r ≤ 1000000000000) (hs : s ≤ 999999) : ∃ x y e : Int,
    (∀ w, Calls Tryd.prog 6 #[.int .i64 r, .int .i64 s] w fun q w' => q = .returned (.tuple #[.int .i64 x, .int .i64 y, .int .i64 e]) ∧ Below w.heap.size w w') ∧
    ((e = 0 ∧ 1 ≤ qx r s ∧ qy r s ≤ 1000000000000 ∧ x = (qx r s : Int) ∧ y = (qy r s : Int)) ∨ (e = 4 ∧ ¬ (1 ≤ qx r s ∧ qy r s ≤ 1000000000000))) := by
  have b1 := qx_le r s
  have b2 := qy_ge r s
  by_cases hc : 1 ≤ qx r s ∧ qy r s ≤ 1000000000000
  · have e : ansQ r s = #[.int .i64 (qx r s : Int), .int .i64 (qy r s : Int), .int .i64 0] := by unfold ansQ; rw [wi_yes (by omega) (by omega), wi_yes (by omega) (by omega)]; rfl
    refine ⟨qx r s, qy r s, 0, fun w => ?_, Or.inl ⟨rfl, hc.1, hc.2, rfl, rfl⟩⟩
    have h := Quote_ok r s w h0 hr hs
    rw [e] at h
    exact h
  · have e : ansQ r s = #[.int .i64 0, .int .i64 0, .int .i64 4] := by
      unfold ansQ
      rw [if_neg]
      intro h
      rw [Bool.and_eq_true] at h
      have h1 := of_decide_eq_true h.1
      have h2 := of_decide_eq_true h.2
      exact hc ⟨by omega, by omega⟩
    refine ⟨0, 0, 4, fun w => ?_, Or.inr ⟨rfl, hc⟩⟩
    have h := Quote_ok r s w h0 hr hs
    rw [e] at h
    exact h
set_option maxHeartbeats 4000000 in
set_option maxRecDepth 100000 in
theorem spread_walk (x a b : Int) (w : World) (T : Cu w) (a1 : 0 ≤ a) (a2 : a ≤ 4294967295) (b1 : 0 ≤ b) (b2 : b ≤ 4294967295) : Calls Tryd.prog 5 #[.int .i64 x, .int .u32 a, .int .u32 b] w fun e w' => e = .returned (.bool true) ∧ Below w.heap.size w w' := by
  have u1 := um x 1000000000000 (by omega) (by omega)
  have HT := (show Hid _ from T)
  clear T
  go_enter Tryd.func5, Tryd.ntmps5
  go_wp2_with fail
  refine (awake16 _ HT.out).mono ?_
  rintro e w1 ⟨rfl, b1'⟩
  have BB_1 := (show Hid _ from b1')
  clear b1'
  go_upto_region 5 with fail
  obtain ⟨R, hR⟩ : ∃ R, R = 1 + wrap64 ((IntKind.u64.wrap x).tmod 1000000000000) := ⟨_, rfl⟩
  rw [← hR]
  have r1 : 1 ≤ R := by omega
  have r2 : R ≤ 1000000000000 := by omega
  obtain ⟨A, hA⟩ : ∃ A, A = a % 1000000 := ⟨_, rfl⟩
  obtain ⟨B, hB⟩ : ∃ B, B = b % 1000000 := ⟨_, rfl⟩
  rw [← hA, ← hB]
  have r3 : 0 ≤ A ∧ A ≤ 999999 := by omega
  have r4 : 0 ≤ B ∧ B ≤ 999999 := by omega
  clear hR hA hB u1 a1 a2 b1 b2 HT
  generalize wrap64 ((IntKind.u64.wrap x).tmod 1000000000000) = z1
  generalize (IntKind.u64.wrap x).tmod 1000000000000 = z2
  obtain ⟨r, rfl⟩ := Int.eq_ofNat_of_zero_le (show 0 ≤ R by omega)
  obtain ⟨s, rfl⟩ := Int.eq_ofNat_of_zero_le r3.1
  obtain ⟨t, rfl⟩ := Int.eq_ofNat_of_zero_le r4.1
  have hr1 : 1 ≤ r := by omega
  have hr2 : r ≤ 1000000000000 := by omega
  have hs : s ≤ 999999 := by omega
  have ht : t ≤ 999999 := by omega
  clear r1 r2 r3 r4
  by_cases hts : t < s
  · have hst : t ≤ s := by omega
    have d0 : (t < s) = True := eq_true hts
    clear hts
    obtain ⟨X1, Y1, E1, q1, c1⟩ := quote_ans r t hr1 hr2 ht
    obtain ⟨X2, Y2, E2, q2, c2⟩ := quote_ans r s hr1 hr2 hs
    have Q1 := (show Hid _ from q1)
    have Q2 := (show Hid _ from q2)
    clear q1 q2
    have m1 := qx_mono (r := r) hst
    have m2 := qy_mono (r := r) hst
    have m3 := qx_le r t
    have m4 := qy_ge r t
    have m5 : t = 0 → qx r t = r ∧ qy r t = r := fun h => by rw [h]; exact q_zero r
    go_wp2_with fail
    refine (Q1.out _).mono ?_
    rintro e w2 ⟨rfl, b2⟩
    have BB_2 := (show Hid _ from BB_1.out.trans (b2.mono BB_1.out.size))
    clear b2 BB_1
    go_wp2_with fail
    refine (Q2.out _).mono ?_
    rintro e w3 ⟨rfl, b3⟩
    have BB_3 := (show Hid _ from BB_2.out.trans (b3.mono BB_2.out.size))
    clear b3 BB_2
    obtain ⟨x1, hx1⟩ : ∃ z, z = qx r t := ⟨_, rfl⟩
    obtain ⟨y1, hy1⟩ : ∃ z, z = qy r t := ⟨_, rfl⟩
    obtain ⟨x2, hx2⟩ : ∃ z, z = qx r s := ⟨_, rfl⟩
    obtain ⟨y2, hy2⟩ : ∃ z, z = qy r s := ⟨_, rfl⟩
    rw [← hx1, ← hy1] at c1 m5
    rw [← hx2, ← hy2] at c2
    rw [← hx1] at m1 m3
    rw [← hx2] at m1
    rw [← hy1] at m2 m4
    rw [← hy2] at m2
    clear hx1 hy1 hx2 hy2
    rcases c1 with ⟨rfl, k1, k2, g1, g2⟩ | ⟨rfl, k1⟩
    · have d1 : decide ((r : Int) < X1) = false := decide_eq_false (by omega)
      have d2 : decide (Y1 < (r : Int)) = false := decide_eq_false (by omega)
      rcases c2 with ⟨rfl, k3, k4, g3, g4⟩ | ⟨rfl, k3⟩
      · have d3 : decide (X2 ≤ X1) = true := decide_eq_true (by omega)
        have d4 : decide (Y1 ≤ Y2) = true := decide_eq_true (by omega)
        by_cases hz : t = 0
        · obtain ⟨z1, z2⟩ := m5 hz
          have n1 : (X1 != (r : Int)) = false := by rw [g1, z1]; simp
          have n2 : (Y1 != (r : Int)) = false := by rw [g2, z2]; simp
          have n3 : ((t : Int) == 0) = true := by rw [beq_iff_eq]; omega
          clear z1 z2 hz m5 m1 m2 m3 m4 k1 k2 k3 k4 g1 g2 g3 g4 hst ht hs hr1 hr2
          go_wp2_with fail
          exact bodyPost_ret (v := .bool true) (by simp [results, Tryd.results5, go_sem]) rfl ⟨rfl, BB_3.out⟩
        · have n3 : ((t : Int) == 0) = false := by rw [beq_eq_false_iff_ne]; omega
          clear hz m5 m1 m2 m3 m4 k1 k2 k3 k4 g1 g2 g3 g4 hst ht hs hr1 hr2
          go_wp2_with fail
          exact bodyPost_ret (v := .bool true) (by simp [results, Tryd.results5, go_sem]) rfl ⟨rfl, BB_3.out⟩
      · by_cases hz : t = 0
        · obtain ⟨z1, z2⟩ := m5 hz
          have n1 : (X1 != (r : Int)) = false := by rw [g1, z1]; simp
          have n2 : (Y1 != (r : Int)) = false := by rw [g2, z2]; simp
          have n3 : ((t : Int) == 0) = true := by rw [beq_iff_eq]; omega
          clear z1 z2 hz m5 m1 m2 m3 m4 k1 k2 k3 g1 g2 hst ht hs hr1 hr2
          go_wp2_with fail
          exact bodyPost_ret (v := .bool true) (by simp [results, Tryd.results5, go_sem]) rfl ⟨rfl, BB_3.out⟩
        · have n3 : ((t : Int) == 0) = false := by rw [beq_eq_false_iff_ne]; omega
          clear hz m5 m1 m2 m3 m4 k1 k2 k3 g1 g2 hst ht hs hr1 hr2
          go_wp2_with fail
          exact bodyPost_ret (v := .bool true) (by simp [results, Tryd.results5, go_sem]) rfl ⟨rfl, BB_3.out⟩
    · rcases c2 with ⟨rfl, k3, k4, g3, g4⟩ | ⟨rfl, k3⟩
      · exact absurd ⟨by omega, by omega⟩ k1
      · clear m5 m1 m2 m3 m4 k1 k3 hst ht hs hr1 hr2
        go_wp2_with fail
        exact bodyPost_ret (v := .bool true) (by simp [results, Tryd.results5, go_sem]) rfl ⟨rfl, BB_3.out⟩
  · have hst : s ≤ t := by omega
    have d0 : (t < s) = False := eq_false hts
    clear hts
    obtain ⟨X1, Y1, E1, q1, c1⟩ := quote_ans r s hr1 hr2 hs
    obtain ⟨X2, Y2, E2, q2, c2⟩ := quote_ans r t hr1 hr2 ht
    have Q1 := (show Hid _ from q1)
    have Q2 := (show Hid _ from q2)
    clear q1 q2
    have m1 := qx_mono (r := r) hst
    have m2 := qy_mono (r := r) hst
    have m3 := qx_le r s
    have m4 := qy_ge r s
    have m5 : s = 0 → qx r s = r ∧ qy r s = r := fun h => by rw [h]; exact q_zero r
    go_wp2_with fail
    refine (Q1.out _).mono ?_
    rintro e w2 ⟨rfl, b2⟩
    have BB_2 := (show Hid _ from BB_1.out.trans (b2.mono BB_1.out.size))
    clear b2 BB_1
    go_wp2_with fail
    refine (Q2.out _).mono ?_
    rintro e w3 ⟨rfl, b3⟩
    have BB_3 := (show Hid _ from BB_2.out.trans (b3.mono BB_2.out.size))
    clear b3 BB_2
    obtain ⟨x1, hx1⟩ : ∃ z, z = qx r s := ⟨_, rfl⟩
    obtain ⟨y1, hy1⟩ : ∃ z, z = qy r s := ⟨_, rfl⟩
    obtain ⟨x2, hx2⟩ : ∃ z, z = qx r t := ⟨_, rfl⟩
    obtain ⟨y2, hy2⟩ : ∃ z, z = qy r t := ⟨_, rfl⟩
    rw [← hx1, ← hy1] at c1 m5
    rw [← hx2, ← hy2] at c2
    rw [← hx1] at m1 m3
    rw [← hx2] at m1
    rw [← hy1] at m2 m4
    rw [← hy2] at m2
    clear hx1 hy1 hx2 hy2
    rcases c1 with ⟨rfl, k1, k2, g1, g2⟩ | ⟨rfl, k1⟩
    · have d1 : decide ((r : Int) < X1) = false := decide_eq_false (by omega)
      have d2 : decide (Y1 < (r : Int)) = false := decide_eq_false (by omega)
      rcases c2 with ⟨rfl, k3, k4, g3, g4⟩ | ⟨rfl, k3⟩
      · have d3 : decide (X2 ≤ X1) = true := decide_eq_true (by omega)
        have d4 : decide (Y1 ≤ Y2) = true := decide_eq_true (by omega)
        by_cases hz : s = 0
        · obtain ⟨z1, z2⟩ := m5 hz
          have n1 : (X1 != (r : Int)) = false := by rw [g1, z1]; simp
          have n2 : (Y1 != (r : Int)) = false := by rw [g2, z2]; simp
          have n3 : ((s : Int) == 0) = true := by rw [beq_iff_eq]; omega
          clear z1 z2 hz m5 m1 m2 m3 m4 k1 k2 k3 k4 g1 g2 g3 g4 hst hs ht hr1 hr2
          go_wp2_with fail
          exact bodyPost_ret (v := .bool true) (by simp [results, Tryd.results5, go_sem]) rfl ⟨rfl, BB_3.out⟩
        · have n3 : ((s : Int) == 0) = false := by rw [beq_eq_false_iff_ne]; omega
          clear hz m5 m1 m2 m3 m4 k1 k2 k3 k4 g1 g2 g3 g4 hst hs ht hr1 hr2
          go_wp2_with fail
          exact bodyPost_ret (v := .bool true) (by simp [results, Tryd.results5, go_sem]) rfl ⟨rfl, BB_3.out⟩
      · by_cases hz : s = 0
        · obtain ⟨z1, z2⟩ := m5 hz
          have n1 : (X1 != (r : Int)) = false := by rw [g1, z1]; simp
          have n2 : (Y1 != (r : Int)) = false := by rw [g2, z2]; simp
          have n3 : ((s : Int) == 0) = true := by rw [beq_iff_eq]; omega
          clear z1 z2 hz m5 m1 m2 m3 m4 k1 k2 k3 g1 g2 hst hs ht hr1 hr2
          go_wp2_with fail
          exact bodyPost_ret (v := .bool true) (by simp [results, Tryd.results5, go_sem]) rfl ⟨rfl, BB_3.out⟩
        · have n3 : ((s : Int) == 0) = false := by rw [beq_eq_false_iff_ne]; omega
          clear hz m5 m1 m2 m3 m4 k1 k2 k3 g1 g2 hst hs ht hr1 hr2
          go_wp2_with fail
          exact bodyPost_ret (v := .bool true) (by simp [results, Tryd.results5, go_sem]) rfl ⟨rfl, BB_3.out⟩
    · rcases c2 with ⟨rfl, k3, k4, g3, g4⟩ | ⟨rfl, k3⟩
      · exact absurd ⟨by omega, by omega⟩ k1
      · clear m5 m1 m2 m3 m4 k1 k3 hst hs ht hr1 hr2
        go_wp2_with fail
        exact bodyPost_ret (v := .bool true) (by simp [results, Tryd.results5, go_sem]) rfl ⟨rfl, BB_3.out⟩
end Go.Proofs.YtkndnpkpdchbiaaDoor
