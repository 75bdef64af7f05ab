/- event: the document's Count, Form. -/
import Derived.Test.YtcognhhbpapibaaDoorFc
namespace Go.Proofs.YtcognhhbpapibaaDoor
open Go.RowKit
set_option linter.unusedVariables false

theorem rcount_yes (o : Nat) (w : World) (h1 : 1 ≤ o) (h2 : o ≤ 15) :
    Calls Tryd.prog 26 #[.int .u8 o] w fun e w' => e = .returned (.int .i64 ((ct.getD o 0 : Nat) : Int)) ∧ w' = w := by
  obtain rfl | rfl | rfl | rfl | rfl | rfl | rfl | rfl | rfl | rfl | rfl | rfl | rfl | rfl | rfl : o = 1 ∨ o = 2 ∨ o = 3 ∨ o = 4 ∨ o = 5 ∨ o = 6 ∨ o = 7 ∨ o = 8 ∨ o = 9 ∨ o = 10 ∨ o = 11 ∨ o = 12 ∨ o = 13 ∨ o = 14 ∨ o = 15 := by omega
  · change Calls _ _ #[.int .u8 1] _ fun e w' => e = .returned (.int .i64 8) ∧ w' = w
    go_enter Tryd.func26, Tryd.ntmps26
    go_wp2_with fail
    go_ret
    exact ⟨rfl, rfl⟩
  · change Calls _ _ #[.int .u8 2] _ fun e w' => e = .returned (.int .i64 2) ∧ w' = w
    go_enter Tryd.func26, Tryd.ntmps26
    go_wp2_with fail
    go_ret
    exact ⟨rfl, rfl⟩
  · change Calls _ _ #[.int .u8 3] _ fun e w' => e = .returned (.int .i64 1) ∧ w' = w
    go_enter Tryd.func26, Tryd.ntmps26
    go_wp2_with fail
    go_ret
    exact ⟨rfl, rfl⟩
  · change Calls _ _ #[.int .u8 4] _ fun e w' => e = .returned (.int .i64 2) ∧ w' = w
    go_enter Tryd.func26, Tryd.ntmps26
    go_wp2_with fail
    go_ret
    exact ⟨rfl, rfl⟩
  · change Calls _ _ #[.int .u8 5] _ fun e w' => e = .returned (.int .i64 2) ∧ w' = w
    go_enter Tryd.func26, Tryd.ntmps26
    go_wp2_with fail
    go_ret
    exact ⟨rfl, rfl⟩
  · change Calls _ _ #[.int .u8 6] _ fun e w' => e = .returned (.int .i64 3) ∧ w' = w
    go_enter Tryd.func26, Tryd.ntmps26
    go_wp2_with fail
    go_ret
    exact ⟨rfl, rfl⟩
  · change Calls _ _ #[.int .u8 7] _ fun e w' => e = .returned (.int .i64 3) ∧ w' = w
    go_enter Tryd.func26, Tryd.ntmps26
    go_wp2_with fail
    go_ret
    exact ⟨rfl, rfl⟩
  · change Calls _ _ #[.int .u8 8] _ fun e w' => e = .returned (.int .i64 2) ∧ w' = w
    go_enter Tryd.func26, Tryd.ntmps26
    go_wp2_with fail
    go_ret
    exact ⟨rfl, rfl⟩
  · change Calls _ _ #[.int .u8 9] _ fun e w' => e = .returned (.int .i64 4) ∧ w' = w
    go_enter Tryd.func26, Tryd.ntmps26
    go_wp2_with fail
    go_ret
    exact ⟨rfl, rfl⟩
  · change Calls _ _ #[.int .u8 10] _ fun e w' => e = .returned (.int .i64 3) ∧ w' = w
    go_enter Tryd.func26, Tryd.ntmps26
    go_wp2_with fail
    go_ret
    exact ⟨rfl, rfl⟩
  · change Calls _ _ #[.int .u8 11] _ fun e w' => e = .returned (.int .i64 3) ∧ w' = w
    go_enter Tryd.func26, Tryd.ntmps26
    go_wp2_with fail
    go_ret
    exact ⟨rfl, rfl⟩
  · change Calls _ _ #[.int .u8 12] _ fun e w' => e = .returned (.int .i64 4) ∧ w' = w
    go_enter Tryd.func26, Tryd.ntmps26
    go_wp2_with fail
    go_ret
    exact ⟨rfl, rfl⟩
  · change Calls _ _ #[.int .u8 13] _ fun e w' => e = .returned (.int .i64 1) ∧ w' = w
    go_enter Tryd.func26, Tryd.ntmps26
    go_wp2_with fail
    go_ret
    exact ⟨rfl, rfl⟩
  · change Calls _ _ #[.int .u8 14] _ fun e w' => e = .returned (.int .i64 3) ∧ w' = w
    go_enter Tryd.func26, Tryd.ntmps26
    go_wp2_with fail
    go_ret
    exact ⟨rfl, rfl⟩
  · change Calls _ _ #[.int .u8 15] _ fun e w' => e = .returned (.int .i64 1) ∧ w' = w
    go_enter Tryd.func26, Tryd.ntmps26
    go_wp2_with fail
    go_ret
    exact ⟨rfl, rfl⟩
theorem rcount_no (o : Nat) (w : World) (h : o < 1 ∨ 15 < o) (h2 : o ≤ 255) :
    Calls Tryd.prog 26 #[.int .u8 o] w fun e w' => e = .returned (.int .i64 (-1)) ∧ w' = w := by
  have n1 : ((o : Int) == 1) = false := by
    have : ¬ ((o : Int) = 1) := by omega
    simpa using this
  have n2 : ((o : Int) == 2) = false := by
    have : ¬ ((o : Int) = 2) := by omega
    simpa using this
  have n3 : ((o : Int) == 3) = false := by
    have : ¬ ((o : Int) = 3) := by omega
    simpa using this
  have n4 : ((o : Int) == 4) = false := by
    have : ¬ ((o : Int) = 4) := by omega
    simpa using this
  have n5 : ((o : Int) == 5) = false := by
    have : ¬ ((o : Int) = 5) := by omega
    simpa using this
  have n6 : ((o : Int) == 6) = false := by
    have : ¬ ((o : Int) = 6) := by omega
    simpa using this
  have n7 : ((o : Int) == 7) = false := by
    have : ¬ ((o : Int) = 7) := by omega
    simpa using this
  have n8 : ((o : Int) == 8) = false := by
    have : ¬ ((o : Int) = 8) := by omega
    simpa using this
  have n9 : ((o : Int) == 9) = false := by
    have : ¬ ((o : Int) = 9) := by omega
    simpa using this
  have n10 : ((o : Int) == 10) = false := by
    have : ¬ ((o : Int) = 10) := by omega
    simpa using this
  have n11 : ((o : Int) == 11) = false := by
    have : ¬ ((o : Int) = 11) := by omega
    simpa using this
  have n12 : ((o : Int) == 12) = false := by
    have : ¬ ((o : Int) = 12) := by omega
    simpa using this
  have n13 : ((o : Int) == 13) = false := by
    have : ¬ ((o : Int) = 13) := by omega
    simpa using this
  have n14 : ((o : Int) == 14) = false := by
    have : ¬ ((o : Int) = 14) := by omega
    simpa using this
  have n15 : ((o : Int) == 15) = false := by
    have : ¬ ((o : Int) = 15) := by omega
    simpa using this
  go_enter Tryd.func26, Tryd.ntmps26
  go_wp2_with fail
  go_ret
  exact ⟨rfl, rfl⟩
theorem rdcount_yes (o : Nat) (w : World) (h1 : 1 ≤ o) (h2 : o ≤ 15) :
    Calls Tryd.prog 12 #[.int .u8 o] w fun e w' => e = .returned (.tuple #[.int .i64 ((ct.getD o 0 : Nat) : Int), .int .i64 0]) ∧ w' = w := by
  have h0 := rcount_yes o w h1 h2
  generalize ct.getD o 0 = N at *
  have HC := (show Hid _ from h0)
  clear h0
  go_enter Tryd.func12, Tryd.ntmps12
  go_wp2_with fail
  refine Calls.mono HC.out ?_
  rintro e w1 ⟨rfl, rfl⟩
  have d1 : (0 : Int) ≤ (N : Int) := by omega
  go_wp2_with fail
  go_ret2
  exact ⟨rfl, rfl⟩
theorem rdcount_no (o : Nat) (w : World) (h : o < 1 ∨ 15 < o) (h2 : o ≤ 255) :
    Calls Tryd.prog 12 #[.int .u8 o] w fun e w' => e = .returned (.tuple #[.int .i64 0, .int .i64 1]) ∧ w' = w := by
  go_enter Tryd.func12, Tryd.ntmps12
  go_wp2_with fail
  refine (rcount_no o _ h h2).mono ?_
  rintro e w1 ⟨rfl, rfl⟩
  go_wp2_with fail
  go_ret2
  exact ⟨rfl, rfl⟩
set_option maxHeartbeats 1000000 in
set_option maxRecDepth 100000 in
theorem rform_ok (x : E8) (tv : Value) (w : World) (hx : x.ok) (R : Tr w tv x.ts) (b : Bool) (hb : b = true ↔ x.form) :
    Calls Tryd.prog 15 #[.agg (x.cells tv).toArray] w fun e w' => e = .returned (.bool b) ∧ Below w.heap.size w w' := by
  have V := va_new w (x.cells tv) 26
  have y0 := V.cell 0 (x.c0 tv)
  have y10 := V.cell 10 (E8.ctv hx tv)
  have HV := (show Hid _ from V)
  obtain ⟨tn, htn⟩ : ∃ tn, tn = x.ts.length := ⟨_, rfl⟩
  have HTN := (show Hid _ from htn)
  obtain ⟨ta, tc, rfl, ht1, ht2⟩ : ∃ a c, tv = .slice a tn c ∧ tn ≤ c ∧ c ≤ 9223372036854775807 := by obtain ⟨_, a, c, e, h1, h2, _⟩ := R; exact ⟨a, c, by rw [htn]; exact e, by rw [htn]; exact h1, h2⟩
  have HB := (show Hid _ from (Below.refl w.heap.size w).alloc (Nat.le_refl _) (.cells (x.cells (.slice ta tn tc)).toArray 26))
  have HE := (show Hid _ from hb)
  have ox := hx.op
  have HC : Hid (∀ i, i < 8 → (w.alloc (.cells (x.cells (.slice ta tn tc)).toArray 26)).cell? ⟨w.heap.size, 2 + i, none⟩ = some (.int .i64 (x.ns.getD i 0))) := fun i h2 => HV.out.cell (2 + i) (E8.cn hx _ i h2)
  have HNB : Hid (∀ i, -9223372036854775808 ≤ x.ns.getD i 0 ∧ x.ns.getD i 0 ≤ 9223372036854775807) := fun i => E8.nbd hx i
  clear V R htn hb HV hx
  go_enter Tryd.func15, Tryd.ntmps15
  go_wp2_with fail
  generalize w.alloc (.cells (x.cells (.slice ta tn tc)).toArray 26) = w1 at *
  by_cases hop : x.op < 1 ∨ 15 < x.op
  · obtain rfl : b = false := Bool.eq_false_iff.2 (fun e => by have := (HE.out.1 e).lo; have := (HE.out.1 e).hi; omega)
    refine (rcount_no x.op _ hop ox).mono ?_
    rintro e w2 ⟨rfl, rfl⟩
    go_wp2_with fail
    go_ret
    exact ⟨rfl, HB.out⟩
  have o1 : 1 ≤ x.op := by omega
  have o2 : x.op ≤ 15 := by omega
  refine (rcount_yes x.op _ o1 o2).mono ?_
  rintro e w2 ⟨rfl, rfl⟩
  have h8 := ct_le x.op
  obtain ⟨N, hN⟩ : ∃ N, N = ct.getD x.op 0 := ⟨_, rfl⟩
  have HN := (show Hid _ from hN)
  rw [← hN] at h8 ⊢
  have dN : ((N : Int) < 0) = False := by simp
  clear hN
  by_cases hbig : 8 < tn
  · obtain rfl : b = false := Bool.eq_false_iff.2 (fun e => by
      have h1 := (HE.out.1 e).tiers
      have h2 := HTN.out
      unfold most at h1
      split at h1 <;> omega)
    have d1 : (8 : Int) < (tn : Int) := by omega
    go_wp2_with fail
    go_ret
    exact ⟨rfl, HB.out⟩
  have d1 : ((8 : Int) < (tn : Int)) = False := by simp; omega
  by_cases hbad : 0 < tn ∧ x.op ≠ 1
  · obtain rfl : b = false := Bool.eq_false_iff.2 (fun e => by
      have h1 := (HE.out.1 e).tiers
      have h2 := HTN.out
      unfold most at h1
      rw [if_neg hbad.2] at h1
      omega)
    have d2 : (0 : Int) < (tn : Int) := by omega
    have d3 : ((x.op : Int) == 1) = false := by
      have : ¬ ((x.op : Int) = 1) := by omega
      simpa using this
    have d4 : ((x.op : Int) != 1) = true := by simp [bne, d3]
    clear hbad
    go_wp2_with fail
    go_ret
    exact ⟨rfl, HB.out⟩
  have htier : Hid (x.ts.length ≤ most x.op) := by
    show _ ≤ _
    rw [← HTN.out]
    unfold most
    split <;> omega
  have hz : Hid (b = true ↔ ∀ i, N ≤ i → i < 8 → x.ns.getD i 0 = 0) := by
    show _ ↔ _
    rw [HE.out, HN.out]
    exact ⟨fun h => h.zero, fun h => ⟨o1, o2, htier.out, h⟩⟩
  by_cases ht0 : tn = 0
  · subst ht0
    go_wp2_with fail
    clear y0 y10 hbad
    go_loop [4] (fun i => ∃ k : Nat, N ≤ k ∧ k ≤ 8 ∧ i = .int .i64 k ∧ Hid (∀ j, N ≤ j → j < k → x.ns.getD j 0 = 0)) (fun i => 8 - (intOf i).toNat)
    case atStart => exact ⟨N, by omega, by omega, rfl, fun j h1 h2 => by omega⟩
    case round =>
      obtain ⟨k, hNk, hk, rfl, hall⟩ := hrel
      by_cases hk8 : k = 8
      · subst hk8
        obtain rfl : b = true := hz.out.2 hall.out
        rw [show ((8 : Nat) : Int) = 8 from rfl]
        go_wp2_with fail
        go_ret
        exact ⟨rfl, HB.out⟩
      have hk' : k < 8 := by omega
      have c1 := HC.out k hk'
      have nb := HNB.out k
      obtain ⟨v, hv⟩ : ∃ v, v = x.ns.getD k 0 := ⟨_, rfl⟩
      have HVV := (show Hid _ from hv)
      rw [← hv] at c1 nb
      clear hv
      have e1 : (k : Int) < 8 := by omega
      have e2 : (0 : Int) ≤ (k : Int) := by omega
      by_cases hv0 : v = 0
      · subst hv0
        go_wp2_with fail
        refine ⟨⟨k + 1, by omega, by omega, by go_num, fun j h1 h2 => ?_⟩, by simp [intOf]; omega⟩
        by_cases e : j = k
        · subst e; exact HVV.out.symm
        · exact hall.out j h1 (by omega)
      · have q1 : (v == 0) = false := by simpa using hv0
        have q2 : (v != 0) = true := by simp [bne, q1]
        obtain rfl : b = false := Bool.eq_false_iff.2 (fun e => hv0 (by rw [HVV.out]; exact hz.out.1 e k hNk hk'))
        go_wp2_with fail
        go_ret
        exact ⟨rfl, HB.out⟩
  · have d2 : (0 : Int) < (tn : Int) := by omega
    obtain hop1 : x.op = 1 := by
      rcases Nat.eq_or_lt_of_le o1 with e | e
      · exact e.symm
      · exact absurd ⟨by omega, by omega⟩ hbad
    rw [hop1] at y0
    rw [show (((1 : Nat)) : Int) = 1 from rfl] at y0
    go_wp2_with fail
    clear y0 y10 hbad
    go_loop [4] (fun i => ∃ k : Nat, N ≤ k ∧ k ≤ 8 ∧ i = .int .i64 k ∧ Hid (∀ j, N ≤ j → j < k → x.ns.getD j 0 = 0)) (fun i => 8 - (intOf i).toNat)
    case atStart => exact ⟨N, by omega, by omega, rfl, fun j h1 h2 => by omega⟩
    case round =>
      obtain ⟨k, hNk, hk, rfl, hall⟩ := hrel
      by_cases hk8 : k = 8
      · subst hk8
        obtain rfl : b = true := hz.out.2 hall.out
        rw [show ((8 : Nat) : Int) = 8 from rfl]
        go_wp2_with fail
        go_ret
        exact ⟨rfl, HB.out⟩
      have hk' : k < 8 := by omega
      have c1 := HC.out k hk'
      have nb := HNB.out k
      obtain ⟨v, hv⟩ : ∃ v, v = x.ns.getD k 0 := ⟨_, rfl⟩
      have HVV := (show Hid _ from hv)
      rw [← hv] at c1 nb
      clear hv
      have e1 : (k : Int) < 8 := by omega
      have e2 : (0 : Int) ≤ (k : Int) := by omega
      by_cases hv0 : v = 0
      · subst hv0
        go_wp2_with fail
        refine ⟨⟨k + 1, by omega, by omega, by go_num, fun j h1 h2 => ?_⟩, by simp [intOf]; omega⟩
        by_cases e : j = k
        · subst e; exact HVV.out.symm
        · exact hall.out j h1 (by omega)
      · have q1 : (v == 0) = false := by simpa using hv0
        have q2 : (v != 0) = true := by simp [bne, q1]
        obtain rfl : b = false := Bool.eq_false_iff.2 (fun e => hv0 (by rw [HVV.out]; exact hz.out.1 e k hNk hk'))
        go_wp2_with fail
        go_ret
        exact ⟨rfl, HB.out⟩
end Go.Proofs.YtcognhhbpapibaaDoor
