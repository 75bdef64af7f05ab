/- loan: the walk of LoanWhole. -/
import Derived.Test.YtapjegkjhdnlcaaLf
import Derived.Deep.DeepCutAuto
namespace Go.Proofs.Ytapjegkjhdnlcaa
open Go.RowKit
set_option linter.unusedVariables false

theorem ins_last (p n : Int) (i : Nat) (h : Plan p n) (m : Nat) (hm : n = m) (hi : i < m) : ins p n (m - 1) ≤ ins p n i ∧ ins p n i ≤ ins p n (m - 1) + 1 ∧ (0 < i → ins p n i ≤ ins p n (i - 1)) := by
  rw [ins_eq p n i h.2.2.1, ins_eq p n (m - 1) h.2.2.1, ins_eq p n (i - 1) h.2.2.1]
  have := Int.emod_lt_of_pos p (show 0 < n by have := h.2.2.1; omega)
  have h1 : ¬ ((m - 1 : Nat) : Int) < p % n := by omega
  rw [if_neg h1]
  refine ⟨?_, ?_, fun h0 => ?_⟩
  · split <;> omega
  · split <;> omega
  · split
    · rw [if_pos (by omega)]; omega
    · split <;> omega
set_option maxRecDepth 100000 in
set_option maxHeartbeats 1000000 in
theorem whole_walk (p n : Int) (w : World) (n1 : 0 ≤ n) (n2 : n ≤ 65535) : Calls Try.prog 5 #[.int .i64 p, .int .u16 n] w fun e w' => e = .returned (.bool true) ∧ Below w.heap.size w w' := by
  go_enter Try.func5, Try.ntmps5
  go_wp2_with (go_at_call 14; refine (awake_ok _).mono ?_; rintro e w1 ⟨rfl, b1⟩; have B1 := (show Hid _ from b1); clear b1)
  have a1 := um p 10000000000000 (by omega) (by omega)
  have hP : Plan (wrap64 (1 + wrap64 ((IntKind.u64.wrap p).tmod 10000000000000))) (1 + n % 480) := by
    generalize wrap64 ((IntKind.u64.wrap p).tmod 10000000000000) = z at *
    have : wrap64 (1 + z) = 1 + z := by unfold wrap64; omega
    rw [this]
    refine ⟨?_, ?_, ?_, ?_⟩ <;> omega
  clear a1
  generalize wrap64 (1 + wrap64 ((IntKind.u64.wrap p).tmod 10000000000000)) = P at *
  obtain ⟨m, hm⟩ : ∃ m : Nat, 1 + n % 480 = m := ⟨(1 + n % 480).toNat, by omega⟩
  rw [hm] at hP ⊢
  clear hm
  have HP := (show Hid (Plan P m) from hP)
  obtain ⟨hP1, hP2, hP3, hP4⟩ := hP
  refine (Schedule_ok P m _ HP.out).mono ?_
  rintro e w2 ⟨⟨v, rfl, ho⟩, b2⟩
  obtain ⟨a, cp, rfl, hc1, hc2⟩ := ho.form
  rw [plan_len] at ho hc1 ⊢
  obtain ⟨g, rfl, hg, _⟩ := ho.at 0 (by rw [plan_len]; omega)
  have HO := (show Hid _ from ho)
  have B2 := (show Hid _ from B1.out.trans (b2.mono B1.out.size))
  clear b2 B1 ho
  go_wp2_with fail
  go_loopw [9, 44] (fun o i wr => ∃ j : Nat, j ≤ m ∧ o = .int .i64 (P - pdv P m j) ∧ i = .int .i64 j ∧ Hid (OwnI wr w1.heap.size (.slice (some ⟨g, 0, none⟩) m cp) (plan P m m)) ∧ Hid (Below w.heap.size w wr)) (fun _ i _ => m - (intOf i).toNat)
  case atStart => exact ⟨0, by omega, by rw [show ((0 : Nat) : Int) = 0 from rfl, pdv_zero P m (by omega), Int.sub_zero], rfl, HO, B2⟩
  case round =>
    obtain ⟨j, hj, rfl, rfl, ho, hb⟩ := hrel
    by_cases hjm : j = m
    · subst hjm
      rw [pdv_all P j (by omega), Int.sub_self]
      go_wp2_with fail
      go_ret
      exact ⟨rfl, hb.out⟩
    have hj' : j < m := by omega
    obtain ⟨g1, eg, hgl, cj⟩ := ho.out.at j (by rw [plan_len]; omega)
    cases eg
    obtain ⟨g1, eg, _, cl⟩ := ho.out.at (m - 1) (by rw [plan_len]; omega)
    cases eg
    obtain ⟨g1, eg, _, cp1⟩ := ho.out.at (j - 1) (by rw [plan_len]; omega)
    cases eg
    rw [plan_get _ _ _ _ hj'] at cj
    rw [plan_get _ _ _ _ (by omega)] at cl cp1
    have hi := ins_last P m j HP.out m rfl hj'
    have bI := ins_nn P m j (by omega) (by omega)
    have bL := ins_nn P m (m - 1) (by omega) (by omega)
    have hq : P / m ≤ P := Int.ediv_le_self _ (by omega)
    have hs := pdv_succ P m j
    have bp := pdv_bd P m j (by omega) (by omega) (by omega)
    have bq := pdv_bd P m (j + 1) (by omega) (by omega) (by omega)
    rw [show ((j + 1 : Nat) : Int) = (j : Int) + 1 by omega] at bq
    have hmi : ((m - 1 : Nat) : Int) = (m : Int) - 1 := by omega
    obtain ⟨x, hx⟩ : ∃ x, x = ins P m j := ⟨_, rfl⟩
    obtain ⟨y, hy⟩ : ∃ y, y = ins P m (m - 1) := ⟨_, rfl⟩
    obtain ⟨z, hz⟩ : ∃ z, z = ins P m (j - 1) := ⟨_, rfl⟩
    obtain ⟨q, hq'⟩ : ∃ q, q = pdv P m j := ⟨_, rfl⟩
    obtain ⟨q1, hq1⟩ : ∃ q1, q1 = pdv P m (j + 1) := ⟨_, rfl⟩
    rw [← hx] at cj hi bI hs
    rw [← hy] at cl hi bL
    rw [← hz] at cp1 hi
    rw [← hq'] at hs bp ⊢
    rw [← hq1] at hs bq
    have HQ1 := (show Hid _ from hq1)
    have E : Hid (lft P m (j + 1) = P - q - x) := by show lft P m (j + 1) = P - q - x; unfold lft; rw [Int.min_eq_left (by omega), ← hq1]; omega
    clear hx hy hz hq' hq1
    obtain ⟨i1, i2, i3⟩ := hi
    obtain ⟨x1, x2⟩ := bI
    obtain ⟨y1, y2⟩ := bL
    obtain ⟨p1, p2⟩ := bp
    obtain ⟨r1, r2⟩ := bq
    have x3 : x ≤ 10000000000001 := by omega
    have y3 : y ≤ 10000000000001 := by omega
    have dlt : decide ((j : Int) < m) = true := decide_eq_true (by omega)
    have d1 : decide (x < y) = false := decide_eq_false (by omega)
    have d2 : decide (y + 1 < x) = false := decide_eq_false (by omega)
    have hsub : Hid (P - q - x = P - q1) := (by omega : P - q - x = P - q1)
    have HS := (show Hid _ from hs)
    clear hs x2 y2 hq
    by_cases hj0 : j = 0
    · subst hj0
      clear cp1 i3
      have E : Hid (lft P m 1 = P - q - x) := E
      go_wp2_with fail
      refine (Left_ok P m (1) _ HP.out (by omega)).mono ?_
      rintro e w3 ⟨rfl, hw⟩
      rw [E.out]
      have b3 : Below wr.heap.size wr w3 := by rw [hw]; exact (Below.refl _ _).drew
      have O3 := (show Hid _ from ho.out.step b3)
      have B3 := (show Hid _ from hb.out.trans (b3.mono hb.out.size))
      clear hw b3
      go_wp2_with fail
      refine (Arrears_ok P m (1) (P - q - x) _ HP.out (by omega) ⟨by have := HS.out; omega, by omega⟩).mono ?_
      rintro e w4 ⟨rfl, hw⟩
      rw [E.out, show max 0 (P - q - x - (P - q - x)) = 0 by omega]
      have b4 : Below w3.heap.size w3 w4 := by rw [hw]; exact (Below.refl _ _).drew
      have O4 := (show Hid _ from O3.out.step b4)
      have B4 := (show Hid _ from B3.out.trans (b4.mono B3.out.size))
      clear hw b4 O3 B3
      go_wp2_with fail
      have hfin : P - q - x = P - pdv P m (1) := by have := HQ1.out; have := HS.out; simp only [Int.natCast_zero, Int.zero_add] at *; omega
      exact ⟨⟨1, by omega, by rw [hfin]; rfl, rfl, O4, B4⟩, by simp [intOf]; omega⟩
    · have d3 : decide (0 < (j : Int)) = true := decide_eq_true (by omega)
      have d4 : decide (z < x) = false := decide_eq_false (by have := i3 (by omega); omega)
      have hji : ((j - 1 : Nat) : Int) = (j : Int) - 1 := by omega
      clear i3
      go_wp2_with fail
      refine (Left_ok P m ((j : Int) + 1) _ HP.out (by omega)).mono ?_
      rintro e w3 ⟨rfl, hw⟩
      rw [E.out]
      have b3 : Below wr.heap.size wr w3 := by rw [hw]; exact (Below.refl _ _).drew
      have O3 := (show Hid _ from ho.out.step b3)
      have B3 := (show Hid _ from hb.out.trans (b3.mono hb.out.size))
      clear hw b3
      go_wp2_with fail
      refine (Arrears_ok P m ((j : Int) + 1) (P - q - x) _ HP.out (by omega) ⟨by have := HS.out; omega, by omega⟩).mono ?_
      rintro e w4 ⟨rfl, hw⟩
      rw [E.out, show max 0 (P - q - x - (P - q - x)) = 0 by omega]
      have b4 : Below w3.heap.size w3 w4 := by rw [hw]; exact (Below.refl _ _).drew
      have O4 := (show Hid _ from O3.out.step b4)
      have B4 := (show Hid _ from B3.out.trans (b4.mono B3.out.size))
      clear hw b4 O3 B3
      go_wp2_with fail
      have hfin : P - q - x = P - pdv P m ((j : Int) + 1) := by have := HQ1.out; have := HS.out; omega
      exact ⟨⟨j + 1, by omega, by rw [hfin]; rfl, by simp, O4, B4⟩, by simp [intOf]; omega⟩
end Go.Proofs.Ytapjegkjhdnlcaa
