/- event: Same of any two events: the program's and the document's. -/
import Derived.Test.YtcognhhbpapibaaDoorFa
namespace Go.Proofs.YtcognhhbpapibaaDoor
open Go.RowKit
set_option linter.unusedVariables false

theorem ns_eq {x : E8} (h : x.ok) : x.ns = [x.ns.getD 0 0, x.ns.getD 1 0, x.ns.getD 2 0, x.ns.getD 3 0, x.ns.getD 4 0, x.ns.getD 5 0, x.ns.getD 6 0, x.ns.getD 7 0] := by
  have hl := h.len
  match hx : x.ns, hl with
  | [a, b, c, d, e, f, g, i], _ => rfl
set_option maxHeartbeats 1000000 in
set_option maxRecDepth 100000 in
theorem esame_any (x y : E8) (tv tu : Value) (w : World) (hx : x.ok) (hy : y.ok) (h : Tr w tv x.ts) (h2 : Tr w tu y.ts) (b : Bool) (hb : b = true ↔ x = y) :
    Calls Tryd.prog 21 #[.agg (x.cells tv).toArray, .agg (y.cells tu).toArray] w fun e w' => e = .returned (.bool b) ∧ Below w.heap.size w w' := by
  have A := (va_new w (x.cells tv) 26).alloc (.cells (y.cells tu).toArray 26)
  have B := va_new (w.alloc (.cells (x.cells tv).toArray 26)) (y.cells tu) 26
  rw [World.size_alloc] at B
  have D := ((Below.refl w.heap.size w).alloc (Nat.le_refl _) (.cells (x.cells tv).toArray 26)).alloc (by simp) (.cells (y.cells tu).toArray 26)
  have H1 := (show Hid _ from h.step D)
  have H2 := (show Hid _ from h2.step D)
  have HD := (show Hid _ from D)
  have HE := (show Hid _ from hb)
  have p0 := A.cell 0 (E8.c0 _ _)
  have q0 := B.cell 0 (E8.c0 _ _)
  have p1 := A.cell 1 (E8.c1 _ _)
  have q1 := B.cell 1 (E8.c1 _ _)
  have p10 := A.cell 10 (E8.ctv hx _)
  have q10 := B.cell 10 (E8.ctv hy _)
  obtain ⟨tn, htn⟩ : ∃ tn, tn = x.ts.length := ⟨_, rfl⟩
  obtain ⟨un, hun⟩ : ∃ un, un = y.ts.length := ⟨_, rfl⟩
  obtain ⟨ta, tc, rfl, g1, g2⟩ : ∃ a c, tv = .slice a tn c ∧ tn ≤ c ∧ c ≤ 9223372036854775807 := by obtain ⟨_, a, c, e, h1, h2, _⟩ := h; exact ⟨a, c, by rw [htn]; exact e, by rw [htn]; exact h1, h2⟩
  obtain ⟨ua, uc, rfl, g3, g4⟩ : ∃ a c, tu = .slice a un c ∧ un ≤ c ∧ c ≤ 9223372036854775807 := by obtain ⟨_, a, c, e, h1, h2, _⟩ := h2; exact ⟨a, c, by rw [hun]; exact e, by rw [hun]; exact h1, h2⟩
  have HTN := (show Hid _ from htn)
  have HUN := (show Hid _ from hun)
  have a0 := A.cell 2 (E8.cn hx _ 0 (by omega))
  have b0 := B.cell 2 (E8.cn hy _ 0 (by omega))
  have a1 := A.cell 3 (E8.cn hx _ 1 (by omega))
  have b1 := B.cell 3 (E8.cn hy _ 1 (by omega))
  have a2 := A.cell 4 (E8.cn hx _ 2 (by omega))
  have b2 := B.cell 4 (E8.cn hy _ 2 (by omega))
  have a3 := A.cell 5 (E8.cn hx _ 3 (by omega))
  have b3 := B.cell 5 (E8.cn hy _ 3 (by omega))
  have a4 := A.cell 6 (E8.cn hx _ 4 (by omega))
  have b4 := B.cell 6 (E8.cn hy _ 4 (by omega))
  have a5 := A.cell 7 (E8.cn hx _ 5 (by omega))
  have b5 := B.cell 7 (E8.cn hy _ 5 (by omega))
  have a6 := A.cell 8 (E8.cn hx _ 6 (by omega))
  have b6 := B.cell 8 (E8.cn hy _ 6 (by omega))
  have a7 := A.cell 9 (E8.cn hx _ 7 (by omega))
  have b7 := B.cell 9 (E8.cn hy _ 7 (by omega))
  have hnx := ns_eq hx
  have hny := ns_eq hy
  generalize x.ns.getD 0 0 = n0 at *
  generalize y.ns.getD 0 0 = m0 at *
  generalize x.ns.getD 1 0 = n1 at *
  generalize y.ns.getD 1 0 = m1 at *
  generalize x.ns.getD 2 0 = n2 at *
  generalize y.ns.getD 2 0 = m2 at *
  generalize x.ns.getD 3 0 = n3 at *
  generalize y.ns.getD 3 0 = m3 at *
  generalize x.ns.getD 4 0 = n4 at *
  generalize y.ns.getD 4 0 = m4 at *
  generalize x.ns.getD 5 0 = n5 at *
  generalize y.ns.getD 5 0 = m5 at *
  generalize x.ns.getD 6 0 = n6 at *
  generalize y.ns.getD 6 0 = m6 at *
  generalize x.ns.getD 7 0 = n7 at *
  generalize y.ns.getD 7 0 = m7 at *
  have HNX := (show Hid _ from hnx)
  have HNY := (show Hid _ from hny)
  have ox := hx.op
  have oy := hy.op
  have kx := hx.key
  have ky := hy.key
  clear A B D h h2 htn hun hnx hny hb
  by_cases hop : x.op = y.op
  rotate_left
  · have hneq : x ≠ y := fun e => hop (by rw [e])
    obtain rfl : b = false := Bool.eq_false_iff.2 (fun e => hneq (HE.out.1 e))
    have d0 : ¬ ((x.op : Int) = (y.op : Int)) := by omega
    have d1 : ((x.op : Int) == (y.op : Int)) = false := by simpa using d0
    have d2 : ((x.op : Int) != (y.op : Int)) = true := by simp [bne, d1]
    go_enter Tryd.func21, Tryd.ntmps21
    go_wp2_with fail
    go_ret
    exact ⟨rfl, HD.out⟩
  have hopI : (x.op : Int) = (y.op : Int) := by rw [hop]
  rw [hopI] at p0
  by_cases hkey : x.key = y.key
  rotate_left
  · have hneq : x ≠ y := fun e => hkey (by rw [e])
    obtain rfl : b = false := Bool.eq_false_iff.2 (fun e => hneq (HE.out.1 e))
    have d0 : ¬ ((x.key : Int) = (y.key : Int)) := by omega
    have d1 : ((x.key : Int) == (y.key : Int)) = false := by simpa using d0
    have d2 : ((x.key : Int) != (y.key : Int)) = true := by simp [bne, d1]
    clear hopI
    go_enter Tryd.func21, Tryd.ntmps21
    go_wp2_with fail
    go_ret
    exact ⟨rfl, HD.out⟩
  have hkeyI : (x.key : Int) = (y.key : Int) := by rw [hkey]
  rw [hkeyI] at p1
  clear hopI hkeyI
  by_cases hns : [n0, n1, n2, n3, n4, n5, n6, n7] = [m0, m1, m2, m3, m4, m5, m6, m7]
  rotate_left
  · have hneq : x ≠ y := fun e => hns (by rw [← HNX.out, ← HNY.out, e])
    obtain rfl : b = false := Bool.eq_false_iff.2 (fun e => hneq (HE.out.1 e))
    have e8 : ∀ w, (Op.equalIn 10000 23 (.agg #[.int .i64 n0, .int .i64 n1, .int .i64 n2, .int .i64 n3, .int .i64 n4, .int .i64 n5, .int .i64 n6, .int .i64 n7]) (.agg #[.int .i64 m0, .int .i64 m1, .int .i64 m2, .int .i64 m3, .int .i64 m4, .int .i64 m5, .int .i64 m6, .int .i64 m7])).run Tryd.prog w = .ok false w := fun w => by rw [eq8b, decide_eq_false hns]
    clear hns
    go_enter Tryd.func21, Tryd.ntmps21
    go_wp2_with fail
    go_ret
    exact ⟨rfl, HD.out⟩
  have hnn : Hid (x.ns = y.ns) := by show _ = _; rw [HNX.out, HNY.out]; exact hns
  simp only [List.cons.injEq, and_true] at hns
  obtain ⟨rfl, rfl, rfl, rfl, rfl, rfl, rfl, rfl⟩ := hns
  have e8 := fun w => eq8 w n0 n1 n2 n3 n4 n5 n6 n7
  have HXY : Hid (x.ts = y.ts ↔ x = y) := by
    show _ ↔ _
    constructor
    · intro e
      have h3 := hnn.out
      obtain ⟨xo, xk, xn, xt⟩ := x
      obtain ⟨yo, yk, yn, yt⟩ := y
      simp only at hop hkey h3 e
      rw [hop, hkey, h3, e]
    · intro e; rw [e]
  obtain rfl : b = decide (x.ts = y.ts) := by
    by_cases e : x.ts = y.ts
    · rw [decide_eq_true e]; exact HE.out.2 (HXY.out.1 e)
    · rw [decide_eq_false e]; exact Bool.eq_false_iff.2 (fun hb => e (HXY.out.2 (HE.out.1 hb)))
  clear HE
  go_enter Tryd.func21, Tryd.ntmps21
  go_wp2_with (go_at_call 31; refine (equal_any _ _ x.ts y.ts _ H1.out H2.out).mono ?_; rintro e w1 ⟨rfl, b1⟩)
  go_ret
  exact ⟨rfl, HD.out.trans (b1.mono HD.out.size)⟩
set_option maxHeartbeats 1000000 in
set_option maxRecDepth 100000 in
theorem rsame_any (x y : E8) (tv tu : Value) (w : World) (hx : x.ok) (hy : y.ok) (h : Tr w tv x.ts) (h2 : Tr w tu y.ts) (b : Bool) (hb : b = true ↔ x = y) :
    Calls Tryd.prog 16 #[.agg (x.cells tv).toArray, .agg (y.cells tu).toArray] w fun e w' => e = .returned (.bool b) ∧ Below w.heap.size w w' := by
  have A := (va_new w (x.cells tv) 26).alloc (.cells (y.cells tu).toArray 26)
  have B := va_new (w.alloc (.cells (x.cells tv).toArray 26)) (y.cells tu) 26
  rw [World.size_alloc] at B
  have D := ((Below.refl w.heap.size w).alloc (Nat.le_refl _) (.cells (x.cells tv).toArray 26)).alloc (by simp) (.cells (y.cells tu).toArray 26)
  have H1 := (show Hid _ from h.step D)
  have H2 := (show Hid _ from h2.step D)
  have HD := (show Hid _ from D)
  have HE := (show Hid _ from hb)
  have p0 := A.cell 0 (E8.c0 _ _)
  have q0 := B.cell 0 (E8.c0 _ _)
  have p1 := A.cell 1 (E8.c1 _ _)
  have q1 := B.cell 1 (E8.c1 _ _)
  have p10 := A.cell 10 (E8.ctv hx _)
  have q10 := B.cell 10 (E8.ctv hy _)
  obtain ⟨tn, htn⟩ : ∃ tn, tn = x.ts.length := ⟨_, rfl⟩
  obtain ⟨un, hun⟩ : ∃ un, un = y.ts.length := ⟨_, rfl⟩
  obtain ⟨ta, tc, rfl, g1, g2⟩ : ∃ a c, tv = .slice a tn c ∧ tn ≤ c ∧ c ≤ 9223372036854775807 := by obtain ⟨_, a, c, e, h1, h2, _⟩ := h; exact ⟨a, c, by rw [htn]; exact e, by rw [htn]; exact h1, h2⟩
  obtain ⟨ua, uc, rfl, g3, g4⟩ : ∃ a c, tu = .slice a un c ∧ un ≤ c ∧ c ≤ 9223372036854775807 := by obtain ⟨_, a, c, e, h1, h2, _⟩ := h2; exact ⟨a, c, by rw [hun]; exact e, by rw [hun]; exact h1, h2⟩
  have HTN := (show Hid _ from htn)
  have HUN := (show Hid _ from hun)
  have a0 := A.cell 2 (E8.cn hx _ 0 (by omega))
  have b0 := B.cell 2 (E8.cn hy _ 0 (by omega))
  have a1 := A.cell 3 (E8.cn hx _ 1 (by omega))
  have b1 := B.cell 3 (E8.cn hy _ 1 (by omega))
  have a2 := A.cell 4 (E8.cn hx _ 2 (by omega))
  have b2 := B.cell 4 (E8.cn hy _ 2 (by omega))
  have a3 := A.cell 5 (E8.cn hx _ 3 (by omega))
  have b3 := B.cell 5 (E8.cn hy _ 3 (by omega))
  have a4 := A.cell 6 (E8.cn hx _ 4 (by omega))
  have b4 := B.cell 6 (E8.cn hy _ 4 (by omega))
  have a5 := A.cell 7 (E8.cn hx _ 5 (by omega))
  have b5 := B.cell 7 (E8.cn hy _ 5 (by omega))
  have a6 := A.cell 8 (E8.cn hx _ 6 (by omega))
  have b6 := B.cell 8 (E8.cn hy _ 6 (by omega))
  have a7 := A.cell 9 (E8.cn hx _ 7 (by omega))
  have b7 := B.cell 9 (E8.cn hy _ 7 (by omega))
  have hnx := ns_eq hx
  have hny := ns_eq hy
  generalize x.ns.getD 0 0 = n0 at *
  generalize y.ns.getD 0 0 = m0 at *
  generalize x.ns.getD 1 0 = n1 at *
  generalize y.ns.getD 1 0 = m1 at *
  generalize x.ns.getD 2 0 = n2 at *
  generalize y.ns.getD 2 0 = m2 at *
  generalize x.ns.getD 3 0 = n3 at *
  generalize y.ns.getD 3 0 = m3 at *
  generalize x.ns.getD 4 0 = n4 at *
  generalize y.ns.getD 4 0 = m4 at *
  generalize x.ns.getD 5 0 = n5 at *
  generalize y.ns.getD 5 0 = m5 at *
  generalize x.ns.getD 6 0 = n6 at *
  generalize y.ns.getD 6 0 = m6 at *
  generalize x.ns.getD 7 0 = n7 at *
  generalize y.ns.getD 7 0 = m7 at *
  have HNX := (show Hid _ from hnx)
  have HNY := (show Hid _ from hny)
  have ox := hx.op
  have oy := hy.op
  have kx := hx.key
  have ky := hy.key
  clear A B D h h2 htn hun hnx hny hb
  by_cases hop : x.op = y.op
  rotate_left
  · have hneq : x ≠ y := fun e => hop (by rw [e])
    obtain rfl : b = false := Bool.eq_false_iff.2 (fun e => hneq (HE.out.1 e))
    have d0 : ¬ ((x.op : Int) = (y.op : Int)) := by omega
    have d1 : ((x.op : Int) == (y.op : Int)) = false := by simpa using d0
    have d2 : ((x.op : Int) != (y.op : Int)) = true := by simp [bne, d1]
    go_enter Tryd.func16, Tryd.ntmps16
    go_wp2_with fail
    go_ret
    exact ⟨rfl, HD.out⟩
  have hopI : (x.op : Int) = (y.op : Int) := by rw [hop]
  rw [hopI] at p0
  by_cases hkey : x.key = y.key
  rotate_left
  · have hneq : x ≠ y := fun e => hkey (by rw [e])
    obtain rfl : b = false := Bool.eq_false_iff.2 (fun e => hneq (HE.out.1 e))
    have d0 : ¬ ((x.key : Int) = (y.key : Int)) := by omega
    have d1 : ((x.key : Int) == (y.key : Int)) = false := by simpa using d0
    have d2 : ((x.key : Int) != (y.key : Int)) = true := by simp [bne, d1]
    clear hopI
    go_enter Tryd.func16, Tryd.ntmps16
    go_wp2_with fail
    go_ret
    exact ⟨rfl, HD.out⟩
  have hkeyI : (x.key : Int) = (y.key : Int) := by rw [hkey]
  rw [hkeyI] at p1
  clear hopI hkeyI
  by_cases hns : [n0, n1, n2, n3, n4, n5, n6, n7] = [m0, m1, m2, m3, m4, m5, m6, m7]
  rotate_left
  · have hneq : x ≠ y := fun e => hns (by rw [← HNX.out, ← HNY.out, e])
    obtain rfl : b = false := Bool.eq_false_iff.2 (fun e => hneq (HE.out.1 e))
    have e8 : ∀ w, (Op.equalIn 10000 23 (.agg #[.int .i64 n0, .int .i64 n1, .int .i64 n2, .int .i64 n3, .int .i64 n4, .int .i64 n5, .int .i64 n6, .int .i64 n7]) (.agg #[.int .i64 m0, .int .i64 m1, .int .i64 m2, .int .i64 m3, .int .i64 m4, .int .i64 m5, .int .i64 m6, .int .i64 m7])).run Tryd.prog w = .ok false w := fun w => by rw [eq8b, decide_eq_false hns]
    clear hns
    go_enter Tryd.func16, Tryd.ntmps16
    go_wp2_with fail
    go_ret
    exact ⟨rfl, HD.out⟩
  have hnn : Hid (x.ns = y.ns) := by show _ = _; rw [HNX.out, HNY.out]; exact hns
  simp only [List.cons.injEq, and_true] at hns
  obtain ⟨rfl, rfl, rfl, rfl, rfl, rfl, rfl, rfl⟩ := hns
  have e8 := fun w => eq8 w n0 n1 n2 n3 n4 n5 n6 n7
  have HXY : Hid (x.ts = y.ts ↔ x = y) := by
    show _ ↔ _
    constructor
    · intro e
      have h3 := hnn.out
      obtain ⟨xo, xk, xn, xt⟩ := x
      obtain ⟨yo, yk, yn, yt⟩ := y
      simp only at hop hkey h3 e
      rw [hop, hkey, h3, e]
    · intro e; rw [e]
  by_cases hnm : tn = un
  rotate_left
  · have hneq : x ≠ y := fun e => hnm (by rw [HTN.out, HUN.out, e])
    obtain rfl : b = false := Bool.eq_false_iff.2 (fun e => hneq (HE.out.1 e))
    have d0 : ¬ ((tn : Int) = (un : Int)) := by omega
    have d1 : ((tn : Int) == (un : Int)) = false := by simpa using d0
    have d2 : ((tn : Int) != (un : Int)) = true := by simp [bne, d1]
    go_enter Tryd.func16, Tryd.ntmps16
    go_wp2_with fail
    go_ret
    exact ⟨rfl, HD.out⟩
  subst hnm
  go_enter Tryd.func16, Tryd.ntmps16
  go_wp2_with fail
  generalize (w.alloc (.cells (x.cells (.slice ta tn tc)).toArray 26)).alloc (.cells (y.cells (.slice ua tn uc)).toArray 26) = w1 at *
  go_loopw [37] (fun i wr => ∃ k : Nat, k ≤ tn ∧ i = .int .i64 k ∧ Below w1.heap.size w1 wr ∧ Hid (∀ j, j < k → x.ts.getD j (0, 0) = y.ts.getD j (0, 0))) (fun i _ => tn - (intOf i).toNat)
  case atStart => exact ⟨0, by omega, rfl, Below.refl _ _, fun j hj => by omega⟩
  case round =>
    obtain ⟨k, hk, rfl, hbel, hall⟩ := hrel
    have HB := (show Hid _ from hbel)
    clear hbel
    by_cases hkn : k = tn
    · subst hkn
      obtain rfl : b = true := HE.out.2 (HXY.out.1 (tr_ext HTN.out.symm HUN.out.symm hall.out))
      go_wp2_with fail
      go_ret
      exact ⟨rfl, HD.out.trans (HB.out.mono HD.out.size)⟩
    have hk' : k < tn := by omega
    obtain ⟨bl, off, rfl, hb, z1, z2⟩ := (H1.out.step HB.out).at k hk'
    obtain ⟨b', off', rfl, hb', z3, z4⟩ := (H2.out.step HB.out).at k hk'
    obtain ⟨⟨f, g⟩, ht⟩ : ∃ t, t = x.ts.getD k (0, 0) := ⟨_, rfl⟩
    obtain ⟨⟨f', g'⟩, hu⟩ : ∃ t, t = y.ts.getD k (0, 0) := ⟨_, rfl⟩
    have HT := (show Hid _ from ht)
    have HU := (show Hid _ from hu)
    rw [← ht] at z1 z2
    rw [← hu] at z3 z4
    rw [Nat.mul_comm 2 k] at z1 z2 z3 z4
    have p10' := (HB.out.cell (p := ⟨w.heap.size, 10, none⟩) (World.block_lt_of_cell? w1 _ p10)).trans p10
    have q10' := (HB.out.cell (p := ⟨w.heap.size + 1, 10, none⟩) (World.block_lt_of_cell? w1 _ q10)).trans q10
    clear ht hu
    have d1 : (0 : Int) ≤ (k : Int) := by omega
    have d2 : (k : Int) < (tn : Int) := by omega
    by_cases hf : f = f' ∧ g = g'
    · obtain ⟨rfl, rfl⟩ := hf
      go_wp2_with fail
      go_quiet (fail)
      go_wp2_with fail
      refine ⟨⟨k + 1, by omega, by go_num, bel_drewN HB.out _, fun j hj => ?_⟩, by simp [intOf]; omega⟩
      by_cases hjk : j = k
      · subst hjk; rw [← HT.out, ← HU.out]
      · exact hall.out j (by omega)
    · have hneq : x ≠ y := fun e => by
        have h1 := HT.out
        have h2 := HU.out
        rw [e, ← h2] at h1
        simp at h1
        exact hf h1
      have HF := (show Hid _ from hf)
      clear hf
      obtain rfl : b = false := Bool.eq_false_iff.2 (fun e => hneq (HE.out.1 e))
      by_cases hf1 : f = f'
      · have hg1 : ¬ g = g' := fun e => HF.out ⟨hf1, e⟩
        subst hf1
        go_wp2_with fail
        go_quiet (fail)
        go_wp2_with fail
        go_ret
        exact ⟨rfl, HD.out.trans ((bel_drewN HB.out _).mono HD.out.size)⟩
      · go_wp2_with fail
        go_quiet (fail)
        go_wp2_with fail
        go_ret
        exact ⟨rfl, HD.out.trans ((bel_drewN HB.out _).mono HD.out.size)⟩
end Go.Proofs.YtcognhhbpapibaaDoor
