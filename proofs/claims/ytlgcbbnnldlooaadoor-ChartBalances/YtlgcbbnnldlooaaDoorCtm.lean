/- chart: the law's line, awake; two lists of lines that are alike. -/
import Derived.Test.YtlgcbbnnldlooaaDoorCtl
namespace Go.Proofs.YtlgcbbnnldlooaaDoor
open Go.RowKit Go.Maps
set_option linter.unusedVariables false

theorem sl_va {α : Type} {K : Kd α} {w : World} {p : Nat} {xs : List α} {T : TypeId} (h : VA w p (K.cells xs) T) (hl : xs.length ≤ 9223372036854775807) : Sl K w (.slice (some ⟨p, 0, none⟩) xs.length xs.length) xs := by
  refine ⟨some ⟨p, 0, none⟩, xs.length, rfl, Nat.le_refl _, hl, fun _ => ⟨p, 0, rfl, h.lt, fun i x hi j u hj => ?_⟩⟩
  rw [Nat.zero_add]
  refine h.cell _ ?_
  rw [K.cells_get xs i x hi j (by rw [← K.len x]; exact (List.getElem?_eq_some_iff.1 hj).1)]
  exact hj
theorem infoL5 : (Tryd.prog.info? 39).map (·.size) = some 5 := by kernel_rfl
theorem ln_one (x : Ln) : ∀ v ∈ x.enc, v.oneCell' = true := LN.one x
set_option maxHeartbeats 1000000 in
set_option maxRecDepth 100000 in
theorem line_p5 (c u : Int) (w : World) : Calls Tryd.prog 22 #[.int .i64 c, .int .i64 u, .int .i64 5] w fun e w' => e = .returned (.agg #[.int .i64 c, .int .i64 u, .int .i64 0, .int .u64 5, .int .i64 0]) ∧ Below w.heap.size w w' := by
  go_enter Tryd.func22, Tryd.ntmps22
  go_wp2_with fail
  refine bodyPost_ret (v := .agg #[.int .i64 c, .int .i64 u, .int .i64 0, .int .u64 5, .int .i64 0]) (by simp [results, Tryd.results22, go_sem]) rfl ⟨rfl, ?_⟩
  repeat (first | exact Below.refl _ _ | refine Below.drew ?_ | refine below_drewN ?_ _ | refine bel_alloc ?_ _ | refine bel_ext ?_ _ | (refine Below.setCell ?_ ?_ _; rotate_left; (simp <;> omega)))
set_option maxHeartbeats 1000000 in
set_option maxRecDepth 100000 in
theorem line_m5 (c u : Int) (w : World) : Calls Tryd.prog 22 #[.int .i64 c, .int .i64 u, .int .i64 (-5)] w fun e w' => e = .returned (.agg #[.int .i64 c, .int .i64 u, .int .i64 (-1), .int .u64 18446744073709551611, .int .i64 0]) ∧ Below w.heap.size w w' := by
  have hw : IntKind.u64.wrap (-5) = 18446744073709551611 := by decide
  go_enter Tryd.func22, Tryd.ntmps22
  go_wp2_with fail
  refine bodyPost_ret (v := .agg #[.int .i64 c, .int .i64 u, .int .i64 (-1), .int .u64 18446744073709551611, .int .i64 0]) (by simp [results, Tryd.results22, go_sem]) rfl ⟨rfl, ?_⟩
  repeat (first | exact Below.refl _ _ | refine Below.drew ?_ | refine below_drewN ?_ _ | refine bel_alloc ?_ _ | refine bel_ext ?_ _ | (refine Below.setCell ?_ ?_ _; rotate_left; (simp <;> omega)))
def als1 : List Ln := [⟨1, 0, 0, 5, 0⟩, ⟨2, 0, -1, 18446744073709551611, 0⟩]
def als2 : List Ln := [⟨1, 0, 0, 5, 0⟩, ⟨2, 1, -1, 18446744073709551611, 0⟩]
theorem als1_wf : ∀ x ∈ als1, x.wf := by
  intro x hx
  simp [als1] at hx
  rcases hx with rfl | rfl <;> exact ⟨by decide, by decide, by decide, by decide, by decide⟩
theorem als2_wf : ∀ x ∈ als2, x.wf := by
  intro x hx
  simp [als2] at hx
  rcases hx with rfl | rfl <;> exact ⟨by decide, by decide, by decide, by decide, by decide⟩
theorem als_p1 : perr (fun _ _ => 0) als1 = 0 := by decide +kernel
theorem als_p2 : perr (pst (fun _ _ => 0) als1) als2 = 15 := by decide +kernel
theorem als_b : pst (fun _ _ => 0) als1 1 0 = 5000000000000 := by decide +kernel
theorem als_t : (trl (pst (fun _ _ => 0) als1) 32).length = 2 := by decide +kernel
set_option maxHeartbeats 2000000 in
set_option maxRecDepth 100000 in
theorem cawake_ok (w : World) (Lm : Lim w) : Calls Tryd.prog 9 #[] w fun e w' => e = .returned (.bool true) ∧ Below w.heap.size w w' := by
  have HLm := (show Hid _ from Lm)
  clear Lm
  go_enter Tryd.func9, Tryd.ntmps9
  go_wp2_with fail
  refine (cnew_ok _).mono ?_
  rintro e w1 ⟨⟨p, m, rfl, hp, hm, L1⟩, b1⟩
  have HPM : Hid (w.heap.size ≤ p ∧ w.heap.size ≤ m) := ⟨hp, hm⟩
  have HL1 := (show Hid _ from L1)
  have HB1 := (show Hid _ from b1)
  clear hp hm L1 b1
  go_wp2_with fail
  refine (line_p5 _ _ _).mono ?_
  rintro e w2 ⟨rfl, b2⟩
  have HL2 := (show Hid _ from HL1.out.step b2)
  have HB2 := (show Hid _ from HB1.out.trans (b2.mono HB1.out.size))
  clear b2 HL1 HB1
  go_wp2_with fail
  refine (line_m5 _ _ _).mono ?_
  rintro e w3 ⟨rfl, b3⟩
  have HL3 := (show Hid _ from HL2.out.step b3)
  have HB3 := (show Hid _ from HB2.out.trans (b3.mono HB2.out.size))
  clear b3 HL2 HB2
  have BA := (Below.refl w3.heap.size w3).alloc (Nat.le_refl _) (.cells (LN.cells als1).toArray 39)
  have HBA := (show Hid _ from BA)
  have HV3 := (show Hid _ from sl_va (va_new w3 (LN.cells als1) 39) (by decide))
  clear BA
  go_wp2_with fail
  refine (post_ok p m (fun _ _ => 0) 0 _ als1 _ (HL3.out.step HBA.out) HV3.out als1_wf ((HLm.out.step HB3.out).step HBA.out) (by decide)).mono ?_
  rintro e w4 ⟨rfl, L4, u4⟩
  rw [als_p1]
  rw [show pcnt (fun _ _ => 0) als1 0 = 1 by unfold pcnt; rw [als_p1]; rfl] at L4
  have HB4 := (show Hid _ from (HB3.out.trans (HBA.out.mono HB3.out.size)).trans (u4.below (by have := HB3.out.size; simp; omega) (fun i hi => by have := HPM.out; omega)))
  have P2 := als_p2
  have VB := als_b
  have TL := als_t
  generalize pst (fun _ _ => 0) als1 = b at *
  have HL4 := (show Hid _ from L4)
  have HP2 := (show Hid _ from P2)
  have HVB := (show Hid _ from VB)
  have HTL := (show Hid _ from TL)
  clear L4 u4 HL3 HB3 HBA HV3 P2 VB TL
  go_wp2_with fail
  refine (line_p5 _ _ _).mono ?_
  rintro e w5 ⟨rfl, b5⟩
  have HL5 := (show Hid _ from HL4.out.step b5)
  have HB5 := (show Hid _ from HB4.out.trans (b5.mono HB4.out.size))
  clear b5 HL4 HB4
  go_wp2_with fail
  refine (line_m5 _ _ _).mono ?_
  rintro e w6 ⟨rfl, b6⟩
  have HL6 := (show Hid _ from HL5.out.step b6)
  have HB6 := (show Hid _ from HB5.out.trans (b6.mono HB5.out.size))
  clear b6 HL5 HB5
  have BA := (Below.refl w6.heap.size w6).alloc (Nat.le_refl _) (.cells (LN.cells als2).toArray 39)
  have HBA := (show Hid _ from BA)
  have HV6 := (show Hid _ from sl_va (va_new w6 (LN.cells als2) 39) (by decide))
  clear BA
  go_wp2_with fail
  refine (post_ok p m b 1 _ als2 _ (HL6.out.step HBA.out) HV6.out als2_wf ((HLm.out.step HB6.out).step HBA.out) (by decide)).mono ?_
  rintro e w7 ⟨rfl, L7, u7⟩
  rw [HP2.out]
  rw [pst_no (by rw [HP2.out]; decide), pcnt_no (by rw [HP2.out]; decide)] at L7
  have HB7 := (show Hid _ from (HB6.out.trans (HBA.out.mono HB6.out.size)).trans (u7.below (by have := HB6.out.size; simp; omega) (fun i hi => by have := HPM.out; omega)))
  have HL7 := (show Hid _ from L7)
  clear L7 u7 HL6 HB6 HBA HV6
  go_wp2_with fail
  refine (balance_ok p m b 1 _ HL7.out 1 0 (by unfold Va; decide)).mono ?_
  rintro e w8 ⟨rfl, b8⟩
  have HL8 := (show Hid _ from HL7.out.step b8)
  have HB8 := (show Hid _ from HB7.out.trans (b8.mono HB7.out.size))
  clear b8 HL7 HB7
  rw [show dv (b 1 0) 12 = .agg #[.int .i64 0, .int .u64 5000000000000, .int .i64 12] by unfold dv; rw [HVB.out, show dhi 5000000000000 = 0 by decide, show dlo 5000000000000 = 5000000000000 by decide]]
  have BA := (Below.refl w8.heap.size w8).alloc (Nat.le_refl _) (.cells #[.int .i64 0, .int .u64 5000000000000, .int .i64 12] 37)
  have HBA := (show Hid _ from BA)
  clear BA
  go_wp2_with fail
  refine (entries_ok p m b 1 _ (HL8.out.step HBA.out)).mono ?_
  rintro e w9 ⟨rfl, hq⟩
  obtain rfl := hq.symm
  go_wp2_with fail
  refine (trial_ok p m b 1 _ (HL8.out.step HBA.out)).mono ?_
  rintro e w10 ⟨⟨v, rfl, o10⟩, b10⟩
  obtain ⟨va, vc, rfl, l1, l2⟩ := o10.form
  rw [HTL.out] at l1 ⊢
  have HB10 := (show Hid _ from (HB8.out.trans (HBA.out.mono HB8.out.size)).trans (b10.mono (by have := HB8.out.size; simp; omega)))
  clear o10 b10
  go_wp2_with fail
  go_ret
  exact ⟨rfl, HB10.out⟩
set_option maxHeartbeats 2000000 in
set_option maxRecDepth 100000 in
theorem same_yes (u v : Value) (ls : List Ln) (w : World) (h : Sl LN w u ls) (k : Sl LN w v ls) : Calls Tryd.prog 13 #[u, v] w fun e w' => e = .returned (.bool true) ∧ Below w.heap.size w w' := by
  obtain ⟨n, hn⟩ : ∃ n, n = ls.length := ⟨_, rfl⟩
  have H := (show Hid _ from h)
  have K := (show Hid _ from k)
  obtain ⟨ta, tc, rfl, g1, g2⟩ : ∃ a c, u = .slice a n c ∧ n ≤ c ∧ c ≤ 9223372036854775807 := by obtain ⟨a, c, e, h1, h2, _⟩ := h; exact ⟨a, c, by rw [hn]; exact e, by rw [hn]; exact h1, h2⟩
  obtain ⟨sa, sc, rfl, g3, g4⟩ : ∃ a c, v = .slice a n c ∧ n ≤ c ∧ c ≤ 9223372036854775807 := by obtain ⟨a, c, e, h1, h2, _⟩ := k; exact ⟨a, c, by rw [hn]; exact e, by rw [hn]; exact h1, h2⟩
  have HN := (show Hid _ from hn)
  clear h k hn
  go_enter Tryd.func13, Tryd.ntmps13
  go_wp2_with fail
  go_loopw [13] (fun i wr => ∃ k : Nat, k ≤ n ∧ i = .int .i64 (k : Int) ∧ Hid (Below w.heap.size w wr)) (fun i _ => n - (intOf i).toNat)
  case atStart => exact ⟨0, by omega, rfl, Below.refl _ _⟩
  case round =>
    obtain ⟨k, hk, rfl, HB⟩ := hrel
    by_cases hkn : k = n
    · subst hkn
      go_wp2_with fail
      go_ret
      exact ⟨rfl, HB.out⟩
    have hk' : k < n := by omega
    obtain ⟨x, hx⟩ : ∃ x, ls[k]? = some x := ⟨ls[k]'(by have := HN.out; omega), by simp⟩
    obtain ⟨b, off, e, hb, hc⟩ := (H.out.step HB.out).at k x hx
    cases e
    obtain ⟨b', off', e, hb', hc'⟩ := (K.out.step HB.out).at k x hx
    cases e
    have d1 : (0 : Int) ≤ (k : Int) := by omega
    have d2 : (k : Int) < (n : Int) := by omega
    clear hx
    obtain ⟨x0, x1, x2, x3, x4⟩ := x
    have HC : Hid (∀ j u, [Value.int .i64 x0, .int .i64 x1, .int .i64 x2, .int .u64 x3, .int .i64 x4][j]? = some u → wr.cell? ⟨b, off + k * 5 + j, none⟩ = some u) := hc
    have HC' : Hid (∀ j u, [Value.int .i64 x0, .int .i64 x1, .int .i64 x2, .int .u64 x3, .int .i64 x4][j]? = some u → wr.cell? ⟨b', off' + k * 5 + j, none⟩ = some u) := hc'
    have HBB : Hid (b < wr.heap.size ∧ b' < wr.heap.size) := ⟨hb, hb'⟩
    clear hc hc' hb hb'
    go_upto_region 6 with fail
    refine wp_region_noPanic ?_
    refine wp_region_held_drew (S := fun w' => Below wr.heap.size wr w') (by kernel_rfl) ((Below.refl wr.heap.size wr).drew) (fun hHeld => ?_)
    refine takeD 0 16 (.slice (some ⟨b, off, none⟩) n tc) (by exact rfl) rfl (by kernel_rfl) (by kernel_rfl) (by kernel_rfl) (fun _ _ _ h => h) (Or.inl ⟨by rfl, ?_⟩) (by assumption) ?_
    · intro wq hS
      go_simp
    try simp only [Act.put, List.setIfInBounds_toArray, List.set_cons_zero, List.set_cons_succ]
    refine takeD 1 17 (.int .i64 (k : Int)) (by exact rfl) rfl (by kernel_rfl) (by kernel_rfl) (by kernel_rfl) (fun _ _ _ h => h) (Or.inl ⟨by rfl, ?_⟩) (by assumption) ?_
    · intro wq hS
      go_simp
    try simp only [Act.put, List.setIfInBounds_toArray, List.set_cons_zero, List.set_cons_succ]
    refine takeD 2 18 (.pointer (some ⟨b, off + k * 5, none⟩)) (by exact rfl) rfl (by kernel_rfl) (by kernel_rfl) (by kernel_rfl) (fun _ _ _ h => h) (Or.inl ⟨by rfl, ?_⟩) (by assumption) ?_
    · intro wq hS
      go_simp
    try simp only [Act.put, List.setIfInBounds_toArray, List.set_cons_zero, List.set_cons_succ]
    refine takeD 3 19 (.agg #[.int .i64 x0, .int .i64 x1, .int .i64 x2, .int .u64 x3, .int .i64 x4]) (by exact rfl) rfl (by kernel_rfl) (by kernel_rfl) (by kernel_rfl) (fun _ _ _ h => h) (Or.inl ⟨by rfl, ?_⟩) (by assumption) ?_
    · intro wq hS
      have e0 := (hS.cell (p := ⟨b, off + k * 5, none⟩) HBB.out.1).trans (HC.out 0 _ rfl)
      have e1 := (hS.cell (p := ⟨b, off + k * 5 + 1, none⟩) HBB.out.1).trans (HC.out 1 _ rfl)
      have e2 := (hS.cell (p := ⟨b, off + k * 5 + 2, none⟩) HBB.out.1).trans (HC.out 2 _ rfl)
      have e3 := (hS.cell (p := ⟨b, off + k * 5 + 3, none⟩) HBB.out.1).trans (HC.out 3 _ rfl)
      have e4 := (hS.cell (p := ⟨b, off + k * 5 + 4, none⟩) HBB.out.1).trans (HC.out 4 _ rfl)
      go_simp
    try simp only [Act.put, List.setIfInBounds_toArray, List.set_cons_zero, List.set_cons_succ]
    refine takeD 4 20 (.slice (some ⟨b', off', none⟩) n sc) (by exact rfl) rfl (by kernel_rfl) (by kernel_rfl) (by kernel_rfl) (fun _ _ _ h => h) (Or.inl ⟨by rfl, ?_⟩) (by assumption) ?_
    · intro wq hS
      go_simp
    try simp only [Act.put, List.setIfInBounds_toArray, List.set_cons_zero, List.set_cons_succ]
    refine takeD 5 21 (.int .i64 (k : Int)) (by exact rfl) rfl (by kernel_rfl) (by kernel_rfl) (by kernel_rfl) (fun _ _ _ h => h) (Or.inl ⟨by rfl, ?_⟩) (by assumption) ?_
    · intro wq hS
      go_simp
    try simp only [Act.put, List.setIfInBounds_toArray, List.set_cons_zero, List.set_cons_succ]
    refine takeD 6 22 (.pointer (some ⟨b', off' + k * 5, none⟩)) (by exact rfl) rfl (by kernel_rfl) (by kernel_rfl) (by kernel_rfl) (fun _ _ _ h => h) (Or.inl ⟨by rfl, ?_⟩) (by assumption) ?_
    · intro wq hS
      go_simp
    try simp only [Act.put, List.setIfInBounds_toArray, List.set_cons_zero, List.set_cons_succ]
    refine takeD 7 23 (.agg #[.int .i64 x0, .int .i64 x1, .int .i64 x2, .int .u64 x3, .int .i64 x4]) (by exact rfl) rfl (by kernel_rfl) (by kernel_rfl) (by kernel_rfl) (fun _ _ _ h => h) (Or.inl ⟨by rfl, ?_⟩) (by assumption) ?_
    · intro wq hS
      have e0 := (hS.cell (p := ⟨b', off' + k * 5, none⟩) HBB.out.2).trans (HC'.out 0 _ rfl)
      have e1 := (hS.cell (p := ⟨b', off' + k * 5 + 1, none⟩) HBB.out.2).trans (HC'.out 1 _ rfl)
      have e2 := (hS.cell (p := ⟨b', off' + k * 5 + 2, none⟩) HBB.out.2).trans (HC'.out 2 _ rfl)
      have e3 := (hS.cell (p := ⟨b', off' + k * 5 + 3, none⟩) HBB.out.2).trans (HC'.out 3 _ rfl)
      have e4 := (hS.cell (p := ⟨b', off' + k * 5 + 4, none⟩) HBB.out.2).trans (HC'.out 4 _ rfl)
      go_simp
    try simp only [Act.put, List.setIfInBounds_toArray, List.set_cons_zero, List.set_cons_succ]
    refine takeD 8 24 (.bool false) (by exact rfl) rfl (by kernel_rfl) (by kernel_rfl) (by kernel_rfl) (fun _ _ _ h => h) (Or.inl ⟨by rfl, ?_⟩) (by assumption) ?_
    · intro wq hS
      go_simp
    try simp only [Act.put, List.setIfInBounds_toArray, List.set_cons_zero, List.set_cons_succ]
    clear hHeld
    refine wpAnyH_done (by kernel_rfl) ?_ _
    refine NoPanic.normal ?_
    go_wp2_with fail
    exact ⟨⟨k + 1, by omega, by go_num, HB.out.drew⟩, by simp [intOf]; omega⟩
end Go.Proofs.YtlgcbbnnldlooaaDoor
