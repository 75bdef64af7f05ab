/- money: the walk of MoneyNothingLost, not below nought. -/
import Derived.Test.YtbgglghapjfdeaaDoorSso
namespace Go.Proofs.YtbgglghapjfdeaaDoor
open Go.RowKit
set_option linter.unusedVariables false

set_option maxHeartbeats 8000000 in
set_option maxRecDepth 100000 in
theorem lost_pos (c0 m0 : Int) (v : Value) (us : List Nat) (w : World) (T : Cu w) (N : Cn w) (HU : U16s w v us) (m1 : -9223372036854775808 ≤ m0) (m2 : m0 ≤ 9223372036854775807) (c1 : -9223372036854775808 ≤ c0) (c2 : c0 ≤ 9223372036854775807) (hneg : ¬ Int.tmod m0 10000000000001 < 0) :
    Calls Tryd.prog 4 #[.agg (mcl c0 m0).toArray, v] w fun e w' => e = .returned (.bool true) ∧ Below w.heap.size w w' := by
  have HT := (show Hid _ from T.alloc (.cells (mcl c0 m0).toArray 23))
  have HNM := (show Hid _ from N.alloc (.cells (mcl c0 m0).toArray 23))
  have VM_0 := (show Hid _ from va_new w (mcl c0 m0) 23)
  have BB_0 := (show Hid _ from (Below.refl w.heap.size w).alloc (Nat.le_refl _) (.cells (mcl c0 m0).toArray 23))
  have HUW := (show Hid _ from HU)
  have HU_0 := (show Hid _ from HU.step ((Below.refl w.heap.size w).alloc (Nat.le_refl _) (.cells (mcl c0 m0).toArray 23)))
  clear T N
  obtain ⟨c, ec⟩ : ∃ c : Int, wrap64 ((IntKind.u64.wrap c0).tmod 4) = c := ⟨_, rfl⟩
  have c34 : 0 ≤ c ∧ c < 4 := by
    have h : 0 ≤ IntKind.u64.wrap c0 := by rw [IntKind.wrap_u64]; omega
    have h1 := Int.tmod_nonneg (b := 4) h
    have h2 := Int.tmod_lt_of_pos (IntKind.u64.wrap c0) (show (0 : Int) < 4 by decide)
    rw [← ec]; unfold wrap64; omega
  have c3 := c34.1
  have c4 := c34.2
  clear c34
  obtain ⟨m, em⟩ : ∃ m : Int, Int.tmod m0 10000000000001 = m := ⟨_, rfl⟩
  have hm0 : -10000000000000 ≤ m ∧ m ≤ 10000000000000 := by
    rw [← em]
    rcases Int.lt_or_le m0 0 with h | h
    · have h1 := Int.tmod_nonneg (b := 10000000000001) (show 0 ≤ -m0 by omega)
      have h2 := Int.tmod_lt_of_pos (-m0) (show (0 : Int) < 10000000000001 by decide)
      rw [Int.neg_tmod] at h1 h2
      omega
    · have := Int.tmod_nonneg (b := 10000000000001) h
      have := Int.tmod_lt_of_pos m0 (show (0 : Int) < 10000000000001 by decide)
      omega
  rw [em] at hneg
  have hmf : mform c m = true := by
    simp only [mform, Bool.and_eq_true]
    exact ⟨wi_yes c3 (by omega), wi_yes hm0.1 hm0.2⟩
  have HMF := (show Hid _ from hmf)
  have HEC := (show Hid _ from ec)
  have HEM := (show Hid _ from em)
  obtain ⟨hm1, hm2⟩ := hm0
  clear ec em hmf
  obtain ⟨sz, rfl⟩ : ∃ sz : Nat, m = (sz : Int) := ⟨m.natAbs, by omega⟩
  have hz1 : (sz : Int) ≤ 10000000000000 := by omega
  have HZ0 : Hid (((sz : Int) : Int).natAbs = sz) := by show _ = _; omega
  obtain ⟨va, vc, ev, hle, hvc, _⟩ := HU.form
  obtain ⟨n, hn⟩ : ∃ n, us.length = n := ⟨_, rfl⟩
  rw [hn] at ev hle
  subst ev
  have hn1 : (n : Int) ≤ 9223372036854775807 := by omega
  have hn2 : (n : Int) ≤ (vc : Int) := by omega
  have hn3 : (vc : Int) ≤ 9223372036854775807 := by omega
  have HN := (show Hid _ from hn)
  have HWF := (show Hid _ from HU.wf)
  clear HU hn hle hvc
  obtain ⟨k, ek⟩ : ∃ k, min n 64 = k := ⟨_, rfl⟩
  have HK := (show Hid _ from ek)
  have hk64 : (k : Int) ≤ 64 := by omega
  have hkn : (k : Int) ≤ (n : Int) := by omega
  go_enter Tryd.func4, Tryd.ntmps4
  go_upto_region 1 with fail
  change Code.wp _ _ _ _ (w.alloc (.cells (mcl c0 m0).toArray 23))
  generalize w.alloc (.cells (mcl c0 m0).toArray 23) = wa at *
  go_wp2_with fail
  refine (awake05 _ HT.out HNM.out).mono ?_
  rintro e w0 ⟨rfl, b0⟩
  have BB_1 := (show Hid _ from BB_0.out.trans (b0.mono BB_0.out.size))
  have HU_1 := (show Hid _ from HU_0.out.step b0)
  have VM_1 := (show Hid _ from VM_0.out.step b0)
  clear b0 HT HNM BB_0 HU_0 VM_0
  have x0 := VM_1.out.cell 0 (v := .int .i64 c0) rfl
  have f0 := VM_1.out.free 0
  have x1 := (VM_1.out.set 0 (.int .i64 c)).cell 1 (v := .int .i64 m0) rfl
  have f1 := (VM_1.out.set 0 (.int .i64 c)).free 1
  go_upto_region 4 with fail
  rw [HEC.out]
  go_upto_region 5 with fail
  rw [HEM.out]
  clear x0 f0 x1 f1
  have VM_2 : Hid (VA ((w0.setCell ⟨w.heap.size, 0, none⟩ (.int .i64 c)).setCell ⟨w.heap.size, 1, none⟩ (.int .i64 ((sz : Int)))) w.heap.size (mcl c ((sz : Int))) 23) := (VM_1.out.set 0 (.int .i64 c)).set 1 (.int .i64 ((sz : Int)))
  have BB_2 := (show Hid _ from (BB_1.out.setCell (p := ⟨w.heap.size, 0, none⟩) (Nat.le_refl _) (.int .i64 c)).setCell (p := ⟨w.heap.size, 1, none⟩) (Nat.le_refl _) (.int .i64 ((sz : Int))))
  have HU_2 := (show Hid _ from HUW.out.step BB_2.out)
  clear VM_1 BB_1 HU_1
  generalize (w0.setCell ⟨w.heap.size, 0, none⟩ (.int .i64 c)).setCell ⟨w.heap.size, 1, none⟩ (.int .i64 ((sz : Int))) = w2 at *
  go_cut [1] (fun s1 wx => s1 = .slice va k vc ∧ wx = w2)
  case first =>
    by_cases h64 : (64 : Int) < (n : Int)
    · have hq : ((64 : Int) < (n : Int)) = True := by simp; omega
      have h64c : (64 : Int) ≤ (vc : Int) := by omega
      go_wp2_with fail
      go_meet
      have := HK.out
      obtain rfl : k = 64 := by omega
      exact ⟨rfl, rfl⟩
    · have hq : ((64 : Int) < (n : Int)) = False := by simp; omega
      go_wp2_with fail
      go_meet
      have := HK.out
      obtain rfl : k = n := by omega
      exact ⟨rfl, rfl⟩
  case rest =>
    obtain ⟨rfl, hwx⟩ := hcut
    obtain rfl := hwx.symm
    have HU_3 : Hid (U16s w2 (.slice va k vc) (us.take k)) := HU_2.out.cut k (by omega)
    have HWB : Hid (∀ i, i < k → us.getD i 0 < 65536) := fun i hi => HWF.out _ (by simp [show i < us.length by have := HN.out; omega])
    have HKL : Hid (k ≤ us.length) := by show k ≤ us.length; have := HN.out; omega
    clear HU_2 HUW HWF
    obtain ⟨B, hB⟩ : ∃ B, w2.heap.size = B := ⟨_, rfl⟩
    have HB := (show Hid _ from hB)
    clear hB
    obtain ⟨t, ht⟩ : ∃ t, sm (fun i => us.getD i 0) k = t := ⟨_, rfl⟩
    have HTE := (show Hid _ from ht)
    have ht1 : (t : Int) ≤ 4194304 := by
      have h := sm_bound (f := fun i => us.getD i 0) (n := k) (t := 65535) (fun i hi => by have := HWB.out i hi; omega)
      omega
    clear ht
    go_wp2_with fail
    go_loopw [5, 6, 8, 41] (fun s5 s6 s8 s41 wr => ∃ (i s : Nat) (v1 : Value), i ≤ k ∧ s41 = .int .i64 (i : Int) ∧ v1 = s5 ∧ s6 = .int .i64 (s : Int) ∧ (s : Int) ≤ 4194304 ∧ Hid (s = sm (fun i => us.getD i 0) i) ∧ Hid (OwnI wr B v1 (zsl us 1 i)) ∧ Hid (Below B w2 wr)) (fun _ _ _ s41 _ => k - (intOf s41).toNat)
    case atStart => exact ⟨0, 0, _, by omega, by go_num, rfl, by go_num, by omega, rfl, ownI_nil _ _, Below.refl _ _⟩
    case round =>
      obtain ⟨i, s, v1, hi, rfl, rfl, rfl, hs1, HS, HO1, BB⟩ := hrel
      by_cases hin : (k : Int) ≤ (i : Int)
      · obtain rfl : i = k := by omega
        have hst : s = t := by rw [HS.out, HTE.out]
        subst hst
        have HI1 := (show Hid _ from HO1.out.is)
        obtain ⟨a1, c1', ev1, _, _⟩ := HO1.out.form
        rw [zsl_len us 1 i HKL.out] at ev1
        subst ev1
        have BB_3 := (show Hid _ from BB_2.out.trans (BB.out.mono (by have := BB_2.out.size; have := HB.out; omega)))
        have VM_3 : Hid (VA wr w.heap.size (mcl c ((sz : Int))) 23) := VM_2.out.step (by rw [HB.out]; exact BB.out)
        clear HO1 BB BB_2 VM_2 HU_3 hin
        have y0 := VM_3.out.cell 0 (v := .int .i64 c) rfl
        have y1 := VM_3.out.cell 1 (v := .int .i64 ((sz : Int))) rfl
        go_wp2_with fail
        clear y0 y1
        refine (split_any c ((sz : Int)) (zsl us 1 i) i (zsl_len _ _ _ HKL.out) _ _ HI1.out (fun i => us.getD i 0) (fun j hj => by rw [zsl_get us 1 i j HKL.out hj, Nat.one_mul]) (fun j hj => by have := HWB.out j hj; omega) (by omega) HMF.out).mono ?_
        rintro e w5 ⟨⟨u4, x4, rfl, s4⟩, b4⟩
        have HS4 := (show Hid _ from s4)
        have HI_5 := (show Hid _ from HI1.out.step b4)
        have VM_5 := (show Hid _ from VM_3.out.step b4)
        have BB_5 := (show Hid _ from BB_3.out.trans (b4.mono BB_3.out.size))
        clear s4 b4 HI1 VM_3 BB_3
        rcases HS4.out.ways with ⟨k0, rfl, rfl⟩ | ⟨k0, t0, rfl, rfl⟩ | ⟨k0, t0, rfl, M, g, hM, rfl, p4, q4, V4⟩
        · have hz : ((s : Int) == 0) = true := by have := HTE.out; rw [k0, sm_zero] at this; simp; omega
          have hz2 : ((i : Int) == 0) = true := by simp; omega
          clear k0 HS4
          go_wp2_with fail
          exact bodyPost_ret (v := .bool true) (by simp [results, Tryd.results4, go_sem]) rfl ⟨rfl, BB_5.out⟩
        · have hz : ((s : Int) == 0) = true := by have := HTE.out; rw [t0] at this; simp; omega
          clear k0 t0 HS4
          go_wp2_with fail
          exact bodyPost_ret (v := .bool true) (by simp [results, Tryd.results4, go_sem]) rfl ⟨rfl, BB_5.out⟩
        · have hz : ((s : Int) == 0) = false := by have := HTE.out; simp; omega
          rw [HTE.out] at t0
          have hz0 := HZ0.out
          have HLE : Hid (∀ j, j < i → got sz s (fun i => us.getD i 0) g i j ≤ sz) := fun j hj => by
            have h := got_le (sz := ((sz : Int) : Int).natAbs) (W := fun i => us.getD i 0) (by rw [HTE.out]; exact t0) p4 q4 j hj
            rw [HTE.out, hz0] at h; exact h
          have HSUM : Hid (sm (got sz s (fun i => us.getD i 0) g i) i = sz) := by
            have h := got_sum (sz := ((sz : Int) : Int).natAbs) (W := fun i => us.getD i 0) (by rw [HTE.out]; exact t0) p4 q4
            rw [HTE.out, hz0] at h; exact h
          have HZR : Hid (∀ j, us.getD j 0 = 0 → got sz s (fun i => us.getD i 0) g i j = 0) := fun j hj => by
            have h := no_rest (sz := ((sz : Int) : Int).natAbs) (W := fun i => us.getD i 0) (by rw [HTE.out]; exact t0) p4 q4 j (by simp only [pr]; rw [hj]; simp)
            rw [HTE.out, hz0] at h
            simp only [got, pu]; rw [h, hj]; simp
          have HAH : Hid (∀ j l, j < l → l < i → us.getD j 0 = us.getD l 0 → got sz s (fun i => us.getD i 0) g i l ≤ got sz s (fun i => us.getD i 0) g i j ∧ got sz s (fun i => us.getD i 0) g i j ≤ got sz s (fun i => us.getD i 0) g i l + 1) := fun j l h1 h2 h3 => by
            have hl := left_lt (sz := ((sz : Int) : Int).natAbs) (W := fun i => us.getD i 0) (n := i) (by rw [HTE.out]; exact t0)
            have q5 := q4
            rw [HTE.out, hz0] at q5 hl
            exact got_ahead p4 q5 (by omega) h1 h2 h3
          have HONE : Hid (∀ j, got sz s (fun i => us.getD i 0) g i j = sz * us.getD j 0 / s ∨ got sz s (fun i => us.getD i 0) g i j = sz * us.getD j 0 / s + 1) := fun j => by
            simp only [got, pu]
            cases hit g (plf sz s (fun i => us.getD i 0) i) j <;> simp
          have V5 : VA w5 M (mo (fun _ => c) (fun j => (got sz s (fun i => us.getD i 0) g i j : Int)) i) 23 := by
            rw [mo_congr (A' := fun _ => c) (B' := fun j => (got sz s (fun i => us.getD i 0) g i j : Int)) (fun _ _ => rfl) (fun j hj => by have h := gots_pos (W := fun i => us.getD i 0) (by omega) (by rw [HTE.out]; exact t0) p4 q4 hj; rw [HTE.out, hz0] at h; rw [HTE.out]; exact h)] at V4
            exact V4
          have HI0 : Hid (0 < i) := k0
          have HS0 : Hid (0 < s) := t0
          obtain ⟨G, hG⟩ : ∃ G, got sz s (fun i => us.getD i 0) g i = G := ⟨_, rfl⟩
          simp only [hG] at HLE HSUM HZR HAH HONE V5
          have VX := (show Hid _ from V5)
          clear hG hz0 V4 V5 p4 q4 k0 t0 hM HS4
          obtain ⟨a2, c2', ea, _, _, h3⟩ := HI_5.out.form
          rw [zsl_len us 1 i HKL.out] at ea h3
          obtain ⟨b, off, eb, hb0, hx⟩ := h3 HI0.out
          subst eb
          injection ea with ea1 ea2 ea3
          subst ea1
          subst ea3
          have HCW : Hid (∀ j, j < i → w5.cell? ⟨b, off + j, none⟩ = some (.int .i64 ((us.getD j 0 : Nat) : Int))) := fun j hj => by
            rw [hx j hj, zsl_get us 1 i j HKL.out hj, Nat.one_mul]
          have HB0 := (show Hid _ from hb0)
          clear hx h3 hb0 HI_5 ea2
          have y1 := VM_5.out.cell 1 (v := .int .i64 ((sz : Int))) rfl
          go_wp2_with fail
          clear y1
          go_loopw [11, 13, 14, 15, 16, 17, 18, 19, 20, 21, 96] (fun s11 s13 s14 s15 s16 s17 s18 s19 s20 s21 s96 wr => ∃ (l A : Nat), l ≤ i ∧ s96 = .int .i64 (l : Int) ∧ s11 = .int .i64 ((A : Int)) ∧ (A : Int) ≤ 10000000000000 ∧ Hid (A = sm G l) ∧ Hid (Below w5.heap.size w5 wr)) (fun _ _ _ _ _ _ _ _ _ _ s96 _ => i - (intOf s96).toNat)
          case atStart => exact ⟨0, 0, by omega, by go_num, by go_num, by omega, rfl, Below.refl _ _⟩
          case round =>
            obtain ⟨l, A, hl, rfl, rfl, hA1, HA, BB2⟩ := hrel
            have VM_6 := (show Hid _ from VM_5.out.step BB2.out)
            have VX_6 := (show Hid _ from VX.out.step BB2.out)
            have y0 := VM_6.out.cell 0 (v := .int .i64 c) rfl
            have y1 := VM_6.out.cell 1 (v := .int .i64 ((sz : Int))) rfl
            have yl := VM_6.out.lt
            by_cases hli : (i : Int) ≤ (l : Int)
            · have hAs : A = sz := by rw [HA.out, show l = i by omega, HSUM.out]
              subst hAs
              go_wp2_with fail
              exact bodyPost_ret (v := .bool true) (by simp [results, Tryd.results4, go_sem]) rfl ⟨rfl, BB_5.out.trans (BB2.out.mono BB_5.out.size)⟩
            · have hl1 : (l : Int) < (i : Int) := by omega
              have hl2 : l < i := by omega
              have HL2 := (show Hid _ from hl2)
              obtain ⟨p, hp⟩ : ∃ p, G l = p := ⟨_, rfl⟩
              have HPE := (show Hid _ from hp)
              have hp1 : (p : Int) ≤ (sz : Int) := by have := HLE.out l hl2; omega
              have HA2 : Hid (A + p = sm G (l + 1)) := by show _ = _; rw [sm_succ, hp, HA.out]
              have hA2 : (A : Int) + (p : Int) ≤ 10000000000000 := by
                have h := sm_mono G (m := l + 1) (n := i) (by omega)
                have h2 := HA2.out
                have h3 := HSUM.out
                omega
              have s0 := VX_6.out.cell (l * 2) (mo_a _ _ hl2)
              have s1 := VX_6.out.cell (l * 2 + 1) (mo_b _ _ hl2)
              simp only [hp] at s0 s1
              have sl := VX_6.out.lt
              clear hp
              go_upto_region 30 with fail
              clear s0 s1 sl y0 y1 yl
              have VXX_7 := (show Hid _ from va_new wr [.int .i64 c, .int .i64 ((p : Int))] 23)
              have HPX : Hid (wr.heap.size = wr.heap.size) := rfl
              have BB_7 := (show Hid _ from BB2.out.alloc BB2.out.size (.cells #[.int .i64 c, .int .i64 ((p : Int))] 23))
              clear BB2 VM_6 VX_6
              change Code.wp _ _ _ _ (wr.alloc (.cells ([.int .i64 c, .int .i64 ((p : Int))] : List Value).toArray 23))
              generalize wr.alloc (.cells ([.int .i64 c, .int .i64 ((p : Int))] : List Value).toArray 23) = w7 at *
              generalize wr.heap.size = px at *
              obtain ⟨x, hx⟩ : ∃ x, us.getD l 0 = x := ⟨_, rfl⟩
              have HXE := (show Hid _ from hx)
              have hx1 : (x : Int) ≤ 65535 := by have := HWB.out l hl2; omega
              clear hx HPX
              have HCL : Hid (w7.cell? ⟨b, off + l, none⟩ = some (.int .i64 (x : Int))) := by
                have h := (BB_7.out.cell (p := ⟨b, off + l, none⟩) HB0.out).trans (HCW.out l hl2)
                rw [HXE.out] at h; exact h
              have HBL : Hid (b < w7.heap.size) := Nat.lt_of_lt_of_le HB0.out BB_7.out.size
              refine wp_region_noPanic ?_
              refine wp_region_held_drew (S := fun w' => Below w7.heap.size w7 w') (by kernel_rfl) (Below.refl _ _).drew (fun hHeld => ?_)
              refine takeD 0 113 (.int .i64 (sz : Int)) (by exact rfl) rfl (by kernel_rfl) (by kernel_rfl) (by kernel_rfl) (fun _ _ _ h => h) (Or.inl ⟨by rfl, ?_⟩) (by assumption) ?_
              · intro wq hS
                go_simp
              try simp only [Act.put, List.setIfInBounds_toArray, List.set_cons_zero, List.set_cons_succ]
              refine takeD 1 114 (.int .u64 (sz : Int)) (by exact rfl) rfl (by kernel_rfl) (by kernel_rfl) (by kernel_rfl) (fun _ _ _ h => h) (Or.inl ⟨by rfl, ?_⟩) (by assumption) ?_
              · intro wq hS
                go_simp
                rw [IntKind.wrap_u64]; omega
              try simp only [Act.put, List.setIfInBounds_toArray, List.set_cons_zero, List.set_cons_succ]
              refine takeD 3 116 (.slice (some ⟨b, off, none⟩) i c1') (by exact rfl) rfl (by kernel_rfl) (by kernel_rfl) (by kernel_rfl) (fun _ _ _ h => h) (Or.inl ⟨by rfl, ?_⟩) (by assumption) ?_
              · intro wq hS
                go_simp
              try simp only [Act.put, List.setIfInBounds_toArray, List.set_cons_zero, List.set_cons_succ]
              refine takeD 4 117 (.int .i64 (l : Int)) (by exact rfl) rfl (by kernel_rfl) (by kernel_rfl) (by kernel_rfl) (fun _ _ _ h => h) (Or.inl ⟨by rfl, ?_⟩) (by assumption) ?_
              · intro wq hS
                go_simp
              try simp only [Act.put, List.setIfInBounds_toArray, List.set_cons_zero, List.set_cons_succ]
              refine takeD 5 118 (.pointer (some ⟨b, off + l, none⟩)) (by exact rfl) rfl (by kernel_rfl) (by kernel_rfl) (by kernel_rfl) (fun _ _ _ h => h) (Or.inl ⟨by rfl, ?_⟩) (by assumption) ?_
              · intro wq hS
                go_simp
              try simp only [Act.put, List.setIfInBounds_toArray, List.set_cons_zero, List.set_cons_succ]
              refine takeD 6 119 (.int .i64 (x : Int)) (by exact rfl) rfl (by kernel_rfl) (by kernel_rfl) (by kernel_rfl) (fun _ _ _ h => h) (Or.inl ⟨by rfl, ?_⟩) (by assumption) ?_
              · intro wq hS
                have h0 := (hS.cell (p := ⟨b, off + l, none⟩) HBL.out).trans HCL.out
                go_simp
              try simp only [Act.put, List.setIfInBounds_toArray, List.set_cons_zero, List.set_cons_succ]
              refine takeD 7 120 (.int .u64 (x : Int)) (by exact rfl) rfl (by kernel_rfl) (by kernel_rfl) (by kernel_rfl) (fun _ _ _ h => h) (Or.inl ⟨by rfl, ?_⟩) (by assumption) ?_
              · intro wq hS
                go_simp
                rw [IntKind.wrap_u64]; omega
              try simp only [Act.put, List.setIfInBounds_toArray, List.set_cons_zero, List.set_cons_succ]
              refine takeD 10 123 (.int .i64 (s : Int)) (by exact rfl) rfl (by kernel_rfl) (by kernel_rfl) (by kernel_rfl) (fun _ _ _ h => h) (Or.inl ⟨by rfl, ?_⟩) (by assumption) ?_
              · intro wq hS
                go_simp
              try simp only [Act.put, List.setIfInBounds_toArray, List.set_cons_zero, List.set_cons_succ]
              refine takeD 11 124 (.int .u64 (s : Int)) (by exact rfl) rfl (by kernel_rfl) (by kernel_rfl) (by kernel_rfl) (fun _ _ _ h => h) (Or.inl ⟨by rfl, ?_⟩) (by assumption) ?_
              · intro wq hS
                go_simp
                rw [IntKind.wrap_u64]; omega
              try simp only [Act.put, List.setIfInBounds_toArray, List.set_cons_zero, List.set_cons_succ]
              refine wpAnyH_ready (rs := [2]) (by kernel_rfl) (by simp) ?_
              refine AllReadyH.cons (by exact rfl) (fun K hK => ?_) AllReadyH.nil
              go_simp
              refine (word_ok (sz : Int) _ (by omega) (by omega)).mono ?_
              rintro e w8 ⟨⟨u1, rfl, n1⟩, b8⟩
              have N1 := (show Hid _ from n1)
              have hH := hHeld.trans (b8.mono hHeld.size)
              clear b8 hHeld
              go_wp2_with fail
              refine hK.out _ _ hH (fun hHeld => ?_)
              clear hH
              try simp only [Act.put, List.setIfInBounds_toArray, List.set_cons_zero, List.set_cons_succ]
              clear hK K
              refine wpAnyH_ready (rs := [8]) (by kernel_rfl) (by simp) ?_
              refine AllReadyH.cons (by exact rfl) (fun K hK => ?_) AllReadyH.nil
              go_simp
              refine (word_ok (x : Int) _ (by omega) (by omega)).mono ?_
              rintro e w9 ⟨⟨u2, rfl, n2⟩, b9⟩
              have N1 := (show Hid _ from N1.out.step b9)
              have N2 := (show Hid _ from n2)
              have hH := hHeld.trans (b9.mono hHeld.size)
              clear b9 hHeld
              go_wp2_with fail
              refine hK.out _ _ hH (fun hHeld => ?_)
              clear hH
              try simp only [Act.put, List.setIfInBounds_toArray, List.set_cons_zero, List.set_cons_succ]
              clear hK K
              have N1 : Hid (Nm w9 u1 sz) := by have h := N1.out; rw [Int.toNat_natCast] at h; exact h
              have N2 : Hid (Nm w9 u2 x) := by have h := N2.out; rw [Int.toNat_natCast] at h; exact h
              refine wpAnyH_ready (rs := [9]) (by kernel_rfl) (by simp) ?_
              refine AllReadyH.cons (by exact rfl) (fun K hK => ?_) AllReadyH.nil
              go_simp
              refine (times_ok u1 u2 sz x _ N1.out N2.out (md_small (by omega)) (md_small (by omega))).mono ?_
              rintro e w10 ⟨⟨u3, rfl, n3⟩, b10⟩
              have N1 := (show Hid _ from N1.out.step b10)
              have N2 := (show Hid _ from N2.out.step b10)
              have N3 := (show Hid _ from n3)
              have hH := hHeld.trans (b10.mono hHeld.size)
              clear b10 hHeld
              go_wp2_with fail
              refine hK.out _ _ hH (fun hHeld => ?_)
              clear hH
              try simp only [Act.put, List.setIfInBounds_toArray, List.set_cons_zero, List.set_cons_succ]
              clear hK K
              refine wpAnyH_ready (rs := [12]) (by kernel_rfl) (by simp) ?_
              refine AllReadyH.cons (by exact rfl) (fun K hK => ?_) AllReadyH.nil
              go_simp
              refine (word_ok (s : Int) _ (by omega) (by omega)).mono ?_
              rintro e w11 ⟨⟨u4q, rfl, n4⟩, b11⟩
              have N1 := (show Hid _ from N1.out.step b11)
              have N2 := (show Hid _ from N2.out.step b11)
              have N3 := (show Hid _ from N3.out.step b11)
              have N4 := (show Hid _ from n4)
              have hH := hHeld.trans (b11.mono hHeld.size)
              clear b11 hHeld
              go_wp2_with fail
              refine hK.out _ _ hH (fun hHeld => ?_)
              clear hH
              try simp only [Act.put, List.setIfInBounds_toArray, List.set_cons_zero, List.set_cons_succ]
              clear hK K
              have N4 : Hid (Nm w11 u4q s) := by have h := N4.out; rw [Int.toNat_natCast] at h; exact h
              refine wpAnyH_ready (rs := [13]) (by kernel_rfl) (by simp) ?_
              refine AllReadyH.cons (by exact rfl) (fun K hK => ?_) AllReadyH.nil
              go_simp
              refine (lquo_ok u3 u4q (sz * x) s _ N3.out N4.out (md_small (md_mul sz x (by omega) (by omega))) (md_small (by omega)) HS0.out).mono ?_
              rintro e w12 ⟨⟨uq, ur, rfl, nq, nr⟩, b12⟩
              have N1 := (show Hid _ from N1.out.step b12)
              have N2 := (show Hid _ from N2.out.step b12)
              have N3 := (show Hid _ from N3.out.step b12)
              have N4 := (show Hid _ from N4.out.step b12)
              have NQ := (show Hid _ from nq)
              have hH := hHeld.trans (b12.mono hHeld.size)
              clear b12 hHeld
              go_wp2_with fail
              refine hK.out _ _ hH (fun hHeld => ?_)
              clear hH
              try simp only [Act.put, List.setIfInBounds_toArray, List.set_cons_zero, List.set_cons_succ]
              clear hK K
              refine takeD 14 112 (.tuple #[uq, ur]) (by exact rfl) rfl (by kernel_rfl) (by kernel_rfl) (by kernel_rfl) (fun _ _ _ h => h) (Or.inl ⟨by rfl, ?_⟩) (by assumption) ?_
              · intro wq hS
                go_simp
              try simp only [Act.put, List.setIfInBounds_toArray, List.set_cons_zero, List.set_cons_succ]
              refine takeD 15 127 (uq) (by exact rfl) rfl (by kernel_rfl) (by kernel_rfl) (by kernel_rfl) (fun _ _ _ h => h) (Or.inl ⟨by rfl, ?_⟩) (by assumption) ?_
              · intro wq hS
                go_simp
              try simp only [Act.put, List.setIfInBounds_toArray, List.set_cons_zero, List.set_cons_succ]
              refine takeD 16 128 (ur) (by exact rfl) rfl (by kernel_rfl) (by kernel_rfl) (by kernel_rfl) (fun _ _ _ h => h) (Or.inl ⟨by rfl, ?_⟩) (by assumption) ?_
              · intro wq hS
                go_simp
              try simp only [Act.put, List.setIfInBounds_toArray, List.set_cons_zero, List.set_cons_succ]
              refine takeD 17 16 (uq) (by exact rfl) rfl (by kernel_rfl) (by kernel_rfl) (by kernel_rfl) (fun _ _ _ h => h) (Or.inl ⟨by rfl, ?_⟩) (by assumption) ?_
              · intro wq hS
                go_simp
              try simp only [Act.put, List.setIfInBounds_toArray, List.set_cons_zero, List.set_cons_succ]
              refine takeD 18 17 (ur) (by exact rfl) rfl (by kernel_rfl) (by kernel_rfl) (by kernel_rfl) (fun _ _ _ h => h) (Or.inl ⟨by rfl, ?_⟩) (by assumption) ?_
              · intro wq hS
                go_simp
              try simp only [Act.put, List.setIfInBounds_toArray, List.set_cons_zero, List.set_cons_succ]
              refine wpAnyH_done (by kernel_rfl) ?_ _
              refine NoPanic.normal ?_
              have BB_8 := (show Hid _ from BB_7.out.trans (hHeld.mono BB_7.out.size))
              have VXX_8 := (show Hid _ from VXX_7.out.step hHeld)
              clear hHeld HCL HBL VXX_7 BB_7 N1 N2 N3 N4
              obtain ⟨q, hq⟩ : ∃ q, sz * x / s = q := ⟨_, rfl⟩
              rw [hq] at NQ
              have HONE' : Hid (p = q ∨ p = q + 1) := by
                have h := HONE.out l
                rw [HXE.out, HPE.out, hq] at h; exact h
              have HZR' : Hid (x = 0 → p = 0) := fun h => by
                have h2 := HZR.out l (by rw [HXE.out]; exact h)
                rwa [HPE.out] at h2
              have hq1 : (q : Int) ≤ 10000000000000 := by have := HONE'.out; omega
              clear hq
              go_wp2_with fail
              refine (fits_yes uq q _ NQ.out (by omega)).mono ?_
              rintro e wx ⟨rfl, hqq⟩
              obtain rfl := hqq.symm
              have VM_8 := (show Hid _ from VM_5.out.step BB_8.out)
              have VX_8 := (show Hid _ from VX.out.step BB_8.out)
              have cl := (BB_8.out.cell (p := ⟨b, off + l, none⟩) HB0.out).trans (HCW.out l hl2)
              rw [HXE.out] at cl
              have y0 := VM_8.out.cell 0 (v := .int .i64 c) rfl
              have y1 := VM_8.out.cell 1 (v := .int .i64 ((sz : Int))) rfl
              have z0 := VXX_8.out.cell 0 (v := .int .i64 c) rfl
              clear NQ
              go_upto_region 32 with fail
              go_cut [162] (fun s162 wx => s162 = .bool false ∧ wx = w12)
              case first =>
                by_cases hx0 : x = 0
                · have e1 : ((p : Int) != (q : Int)) = false := by have h1 := HZR'.out hx0; have h2 := HONE'.out; simp; omega
                  have e2 : ((x : Int) == 0) = true := by simp; omega
                  have e3 : ((p : Int) != 0) = false := by have h1 := HZR'.out hx0; simp; omega
                  clear hx0
                  go_wp2_with fail
                  go_meet
                  exact ⟨rfl, rfl⟩
                · have e2 : ((x : Int) == 0) = false := by simp; omega
                  clear hx0
                  rcases HONE'.out with h | h
                  · have e1 : ((p : Int) != (q : Int)) = false := by simp; omega
                    clear h
                    go_wp2_with fail
                    go_meet
                    exact ⟨rfl, rfl⟩
                  · have e1 : ((p : Int) != (q : Int)) = true := by simp; omega
                    have e3 : ((p : Int) != (q : Int) + 1) = false := by simp; omega
                    clear h
                    go_wp2_with fail
                    go_meet
                    exact ⟨rfl, rfl⟩
              case rest =>
                obtain ⟨rfl, hwx⟩ := hcut
                obtain rfl := hwx.symm
                clear y0 y1 z0 cl VM_8 VX_8 HONE' HZR'
                go_wp2_with fail
                go_loopw [20, 21, 164] (fun s20 s21 s164 wr => ∃ j : Nat, j ≤ l ∧ s164 = .int .i64 (j : Int) ∧ Hid (Below w5.heap.size w5 wr)) (fun _ _ s164 _ => l - (intOf s164).toNat)
                case atStart => exact ⟨0, by omega, by go_num, BB_8.out⟩
                case round =>
                  obtain ⟨j, hj, rfl, BB3⟩ := hrel
                  by_cases hjl : (l : Int) ≤ (j : Int)
                  · go_wp2_with fail
                    refine ⟨⟨l + 1, A + p, by omega, by go_num, by go_num, by omega, HA2.out, BB3.out⟩, by simp [intOf]; omega⟩
                  · have hj1 : (j : Int) < (i : Int) := by omega
                    have hj2 : j < l := by omega
                    obtain ⟨r, hr⟩ : ∃ r, G j = r := ⟨_, rfl⟩
                    obtain ⟨y, hy⟩ : ∃ y, us.getD j 0 = y := ⟨_, rfl⟩
                    have HXY : Hid (y = x → p ≤ r ∧ r ≤ p + 1) := fun e => by
                      have h := HAH.out j l hj2 HL2.out (by rw [hy, HXE.out]; exact e)
                      rw [hr, HPE.out] at h; exact h
                    have hr1 : (r : Int) ≤ (sz : Int) := by have := HLE.out j (by have := HL2.out; omega); omega
                    have VM_9 := (show Hid _ from VM_5.out.step BB3.out)
                    have VX_9 := (show Hid _ from VX.out.step BB3.out)
                    have s1 := VX_9.out.cell (j * 2 + 1) (mo_b _ _ (by have := HL2.out; omega))
                    simp only [hr] at s1
                    have y1 := VM_9.out.cell 1 (v := .int .i64 ((sz : Int))) rfl
                    have HC1 : Hid (∀ w', Below w5.heap.size w5 w' → w'.cell? ⟨b, off + j, none⟩ = some (.int .i64 (y : Int))) := fun w' k => by
                      rw [(k.cell (p := ⟨b, off + j, none⟩) HB0.out).trans (HCW.out j (by have := HL2.out; omega)), hy]
                    have HC2 : Hid (∀ w', Below w5.heap.size w5 w' → w'.cell? ⟨b, off + l, none⟩ = some (.int .i64 (x : Int))) := fun w' k => by
                      rw [(k.cell (p := ⟨b, off + l, none⟩) HB0.out).trans (HCW.out l HL2.out), HXE.out]
                    clear hr hy
                    go_upto_region 40 with fail
                    clear s1 y1 VM_9 VX_9
                    refine wp_region_noPanic ?_
                    refine wp_region_held_drew (S := fun w' => Below w5.heap.size w5 w') (by kernel_rfl) BB3.out.drew (fun hHeld => ?_)
                    by_cases hyx : y = x
                    · have hg := HXY.out hyx
                      have e0 : ((y : Int) == (x : Int)) = true := by simp; omega
                      have e1 : ¬ (r : Int) < (p : Int) := by omega
                      have e2 : ¬ (p : Int) + 1 < (r : Int) := by omega
                      refine takeD 0 177 (.slice (some ⟨b, off, none⟩) i c1') (by exact rfl) rfl (by kernel_rfl) (by kernel_rfl) (by kernel_rfl) (fun _ _ _ h => h) (Or.inl ⟨by rfl, ?_⟩) (by assumption) ?_
                      · intro wq hS
                        go_simp
                      try simp only [Act.put, List.setIfInBounds_toArray, List.set_cons_zero, List.set_cons_succ]
                      refine takeD 1 178 (.int .i64 (j : Int)) (by exact rfl) rfl (by kernel_rfl) (by kernel_rfl) (by kernel_rfl) (fun _ _ _ h => h) (Or.inl ⟨by rfl, ?_⟩) (by assumption) ?_
                      · intro wq hS
                        go_simp
                      try simp only [Act.put, List.setIfInBounds_toArray, List.set_cons_zero, List.set_cons_succ]
                      refine takeD 2 179 (.pointer (some ⟨b, off + j, none⟩)) (by exact rfl) rfl (by kernel_rfl) (by kernel_rfl) (by kernel_rfl) (fun _ _ _ h => h) (Or.inl ⟨by rfl, ?_⟩) (by assumption) ?_
                      · intro wq hS
                        go_simp
                      try simp only [Act.put, List.setIfInBounds_toArray, List.set_cons_zero, List.set_cons_succ]
                      refine takeD 3 180 (.int .i64 (y : Int)) (by exact rfl) rfl (by kernel_rfl) (by kernel_rfl) (by kernel_rfl) (fun _ _ _ h => h) (Or.inl ⟨by rfl, ?_⟩) (by assumption) ?_
                      · intro wq hS
                        have h0 := HC1.out wq hS
                        go_simp
                      try simp only [Act.put, List.setIfInBounds_toArray, List.set_cons_zero, List.set_cons_succ]
                      refine takeD 4 181 (.slice (some ⟨b, off, none⟩) i c1') (by exact rfl) rfl (by kernel_rfl) (by kernel_rfl) (by kernel_rfl) (fun _ _ _ h => h) (Or.inl ⟨by rfl, ?_⟩) (by assumption) ?_
                      · intro wq hS
                        go_simp
                      try simp only [Act.put, List.setIfInBounds_toArray, List.set_cons_zero, List.set_cons_succ]
                      refine takeD 5 182 (.int .i64 (l : Int)) (by exact rfl) rfl (by kernel_rfl) (by kernel_rfl) (by kernel_rfl) (fun _ _ _ h => h) (Or.inl ⟨by rfl, ?_⟩) (by assumption) ?_
                      · intro wq hS
                        go_simp
                      try simp only [Act.put, List.setIfInBounds_toArray, List.set_cons_zero, List.set_cons_succ]
                      refine takeD 6 183 (.pointer (some ⟨b, off + l, none⟩)) (by exact rfl) rfl (by kernel_rfl) (by kernel_rfl) (by kernel_rfl) (fun _ _ _ h => h) (Or.inl ⟨by rfl, ?_⟩) (by assumption) ?_
                      · intro wq hS
                        go_simp
                      try simp only [Act.put, List.setIfInBounds_toArray, List.set_cons_zero, List.set_cons_succ]
                      refine takeD 7 184 (.int .i64 (x : Int)) (by exact rfl) rfl (by kernel_rfl) (by kernel_rfl) (by kernel_rfl) (fun _ _ _ h => h) (Or.inl ⟨by rfl, ?_⟩) (by assumption) ?_
                      · intro wq hS
                        have h0 := HC2.out wq hS
                        go_simp
                      try simp only [Act.put, List.setIfInBounds_toArray, List.set_cons_zero, List.set_cons_succ]
                      refine takeD 8 185 (.bool true) (by exact rfl) rfl (by kernel_rfl) (by kernel_rfl) (by kernel_rfl) (fun _ _ _ h => h) (Or.inl ⟨by rfl, ?_⟩) (by assumption) ?_
                      · intro wq hS
                        go_simp
                      try simp only [Act.put, List.setIfInBounds_toArray, List.set_cons_zero, List.set_cons_succ]
                      refine takeD 9 186 (.bool true) (by exact rfl) rfl (by kernel_rfl) (by kernel_rfl) (by kernel_rfl) (fun _ _ _ h => h) (Or.inl ⟨by rfl, ?_⟩) (by assumption) ?_
                      · intro wq hS
                        go_simp
                      try simp only [Act.put, List.setIfInBounds_toArray, List.set_cons_zero, List.set_cons_succ]
                      refine takeD 10 187 (.int .i64 (r : Int)) (by exact rfl) rfl (by kernel_rfl) (by kernel_rfl) (by kernel_rfl) (fun _ _ _ h => h) (Or.inl ⟨by rfl, ?_⟩) (by assumption) ?_
                      · intro wq hS
                        go_simp
                      try simp only [Act.put, List.setIfInBounds_toArray, List.set_cons_zero, List.set_cons_succ]
                      refine takeD 11 188 (.int .i64 (p : Int)) (by exact rfl) rfl (by kernel_rfl) (by kernel_rfl) (by kernel_rfl) (fun _ _ _ h => h) (Or.inl ⟨by rfl, ?_⟩) (by assumption) ?_
                      · intro wq hS
                        go_simp
                      try simp only [Act.put, List.setIfInBounds_toArray, List.set_cons_zero, List.set_cons_succ]
                      refine takeD 12 189 (.bool false) (by exact rfl) rfl (by kernel_rfl) (by kernel_rfl) (by kernel_rfl) (fun _ _ _ h => h) (Or.inl ⟨by rfl, ?_⟩) (by assumption) ?_
                      · intro wq hS
                        go_simp
                      try simp only [Act.put, List.setIfInBounds_toArray, List.set_cons_zero, List.set_cons_succ]
                      refine takeD 13 190 (.bool false) (by exact rfl) rfl (by kernel_rfl) (by kernel_rfl) (by kernel_rfl) (fun _ _ _ h => h) (Or.inl ⟨by rfl, ?_⟩) (by assumption) ?_
                      · intro wq hS
                        go_simp
                      try simp only [Act.put, List.setIfInBounds_toArray, List.set_cons_zero, List.set_cons_succ]
                      refine takeD 14 191 (.int .i64 (r : Int)) (by exact rfl) rfl (by kernel_rfl) (by kernel_rfl) (by kernel_rfl) (fun _ _ _ h => h) (Or.inl ⟨by rfl, ?_⟩) (by assumption) ?_
                      · intro wq hS
                        go_simp
                      try simp only [Act.put, List.setIfInBounds_toArray, List.set_cons_zero, List.set_cons_succ]
                      refine takeD 15 192 (.int .i64 (p : Int)) (by exact rfl) rfl (by kernel_rfl) (by kernel_rfl) (by kernel_rfl) (fun _ _ _ h => h) (Or.inl ⟨by rfl, ?_⟩) (by assumption) ?_
                      · intro wq hS
                        go_simp
                      try simp only [Act.put, List.setIfInBounds_toArray, List.set_cons_zero, List.set_cons_succ]
                      refine takeD 16 193 (.int .i64 ((p : Int) + 1)) (by exact rfl) rfl (by kernel_rfl) (by kernel_rfl) (by kernel_rfl) (fun _ _ _ h => h) (Or.inl ⟨by rfl, ?_⟩) (by assumption) ?_
                      · intro wq hS
                        go_simp
                        rw [IntKind.wrap_i64]; omega
                      try simp only [Act.put, List.setIfInBounds_toArray, List.set_cons_zero, List.set_cons_succ]
                      refine takeD 17 194 (.bool false) (by exact rfl) rfl (by kernel_rfl) (by kernel_rfl) (by kernel_rfl) (fun _ _ _ h => h) (Or.inl ⟨by rfl, ?_⟩) (by assumption) ?_
                      · intro wq hS
                        go_simp
                      try simp only [Act.put, List.setIfInBounds_toArray, List.set_cons_zero, List.set_cons_succ]
                      refine takeD 18 195 (.bool false) (by exact rfl) rfl (by kernel_rfl) (by kernel_rfl) (by kernel_rfl) (fun _ _ _ h => h) (Or.inl ⟨by rfl, ?_⟩) (by assumption) ?_
                      · intro wq hS
                        go_simp
                      try simp only [Act.put, List.setIfInBounds_toArray, List.set_cons_zero, List.set_cons_succ]
                      refine takeD 19 196 (.bool false) (by exact rfl) rfl (by kernel_rfl) (by kernel_rfl) (by kernel_rfl) (fun _ _ _ h => h) (Or.inl ⟨by rfl, ?_⟩) (by assumption) ?_
                      · intro wq hS
                        go_simp
                      try simp only [Act.put, List.setIfInBounds_toArray, List.set_cons_zero, List.set_cons_succ]
                      refine wpAnyH_done (by kernel_rfl) ?_ _
                      refine NoPanic.normal ?_
                      have HH := (show Hid _ from hHeld)
                      clear hHeld BB3 hyx hg e0 e1 e2
                      go_wp2_with fail
                      exact ⟨⟨j + 1, by omega, by go_num, HH.out⟩, by simp [intOf]; omega⟩
                    · have e0 : ((y : Int) == (x : Int)) = false := by simp; omega
                      refine takeD 0 177 (.slice (some ⟨b, off, none⟩) i c1') (by exact rfl) rfl (by kernel_rfl) (by kernel_rfl) (by kernel_rfl) (fun _ _ _ h => h) (Or.inl ⟨by rfl, ?_⟩) (by assumption) ?_
                      · intro wq hS
                        go_simp
                      try simp only [Act.put, List.setIfInBounds_toArray, List.set_cons_zero, List.set_cons_succ]
                      refine takeD 1 178 (.int .i64 (j : Int)) (by exact rfl) rfl (by kernel_rfl) (by kernel_rfl) (by kernel_rfl) (fun _ _ _ h => h) (Or.inl ⟨by rfl, ?_⟩) (by assumption) ?_
                      · intro wq hS
                        go_simp
                      try simp only [Act.put, List.setIfInBounds_toArray, List.set_cons_zero, List.set_cons_succ]
                      refine takeD 2 179 (.pointer (some ⟨b, off + j, none⟩)) (by exact rfl) rfl (by kernel_rfl) (by kernel_rfl) (by kernel_rfl) (fun _ _ _ h => h) (Or.inl ⟨by rfl, ?_⟩) (by assumption) ?_
                      · intro wq hS
                        go_simp
                      try simp only [Act.put, List.setIfInBounds_toArray, List.set_cons_zero, List.set_cons_succ]
                      refine takeD 3 180 (.int .i64 (y : Int)) (by exact rfl) rfl (by kernel_rfl) (by kernel_rfl) (by kernel_rfl) (fun _ _ _ h => h) (Or.inl ⟨by rfl, ?_⟩) (by assumption) ?_
                      · intro wq hS
                        have h0 := HC1.out wq hS
                        go_simp
                      try simp only [Act.put, List.setIfInBounds_toArray, List.set_cons_zero, List.set_cons_succ]
                      refine takeD 4 181 (.slice (some ⟨b, off, none⟩) i c1') (by exact rfl) rfl (by kernel_rfl) (by kernel_rfl) (by kernel_rfl) (fun _ _ _ h => h) (Or.inl ⟨by rfl, ?_⟩) (by assumption) ?_
                      · intro wq hS
                        go_simp
                      try simp only [Act.put, List.setIfInBounds_toArray, List.set_cons_zero, List.set_cons_succ]
                      refine takeD 5 182 (.int .i64 (l : Int)) (by exact rfl) rfl (by kernel_rfl) (by kernel_rfl) (by kernel_rfl) (fun _ _ _ h => h) (Or.inl ⟨by rfl, ?_⟩) (by assumption) ?_
                      · intro wq hS
                        go_simp
                      try simp only [Act.put, List.setIfInBounds_toArray, List.set_cons_zero, List.set_cons_succ]
                      refine takeD 6 183 (.pointer (some ⟨b, off + l, none⟩)) (by exact rfl) rfl (by kernel_rfl) (by kernel_rfl) (by kernel_rfl) (fun _ _ _ h => h) (Or.inl ⟨by rfl, ?_⟩) (by assumption) ?_
                      · intro wq hS
                        go_simp
                      try simp only [Act.put, List.setIfInBounds_toArray, List.set_cons_zero, List.set_cons_succ]
                      refine takeD 7 184 (.int .i64 (x : Int)) (by exact rfl) rfl (by kernel_rfl) (by kernel_rfl) (by kernel_rfl) (fun _ _ _ h => h) (Or.inl ⟨by rfl, ?_⟩) (by assumption) ?_
                      · intro wq hS
                        have h0 := HC2.out wq hS
                        go_simp
                      try simp only [Act.put, List.setIfInBounds_toArray, List.set_cons_zero, List.set_cons_succ]
                      refine takeD 8 185 (.bool false) (by exact rfl) rfl (by kernel_rfl) (by kernel_rfl) (by kernel_rfl) (fun _ _ _ h => h) (Or.inl ⟨by rfl, ?_⟩) (by assumption) ?_
                      · intro wq hS
                        go_simp
                      try simp only [Act.put, List.setIfInBounds_toArray, List.set_cons_zero, List.set_cons_succ]
                      refine takeD 9 186 (.bool false) (by exact rfl) rfl (by kernel_rfl) (by kernel_rfl) (by kernel_rfl) (fun _ _ _ h => h) (Or.inl ⟨by rfl, ?_⟩) (by assumption) ?_
                      · intro wq hS
                        go_simp
                      try simp only [Act.put, List.setIfInBounds_toArray, List.set_cons_zero, List.set_cons_succ]
                      refine takeD 10 187 undef (by exact rfl) rfl (by kernel_rfl) (by kernel_rfl) (by kernel_rfl) (fun _ _ _ h => h) (Or.inr ⟨by rfl, rfl⟩) (by assumption) ?_
                      try simp only [Act.put, List.setIfInBounds_toArray, List.set_cons_zero, List.set_cons_succ]
                      refine takeD 11 188 undef (by exact rfl) rfl (by kernel_rfl) (by kernel_rfl) (by kernel_rfl) (fun _ _ _ h => h) (Or.inr ⟨by rfl, rfl⟩) (by assumption) ?_
                      try simp only [Act.put, List.setIfInBounds_toArray, List.set_cons_zero, List.set_cons_succ]
                      refine takeD 12 189 undef (by exact rfl) rfl (by kernel_rfl) (by kernel_rfl) (by kernel_rfl) (fun _ _ _ h => h) (Or.inr ⟨by rfl, rfl⟩) (by assumption) ?_
                      try simp only [Act.put, List.setIfInBounds_toArray, List.set_cons_zero, List.set_cons_succ]
                      refine takeD 13 190 undef (by exact rfl) rfl (by kernel_rfl) (by kernel_rfl) (by kernel_rfl) (fun _ _ _ h => h) (Or.inr ⟨by rfl, rfl⟩) (by assumption) ?_
                      try simp only [Act.put, List.setIfInBounds_toArray, List.set_cons_zero, List.set_cons_succ]
                      refine takeD 14 191 undef (by exact rfl) rfl (by kernel_rfl) (by kernel_rfl) (by kernel_rfl) (fun _ _ _ h => h) (Or.inr ⟨by rfl, rfl⟩) (by assumption) ?_
                      try simp only [Act.put, List.setIfInBounds_toArray, List.set_cons_zero, List.set_cons_succ]
                      refine takeD 15 192 undef (by exact rfl) rfl (by kernel_rfl) (by kernel_rfl) (by kernel_rfl) (fun _ _ _ h => h) (Or.inr ⟨by rfl, rfl⟩) (by assumption) ?_
                      try simp only [Act.put, List.setIfInBounds_toArray, List.set_cons_zero, List.set_cons_succ]
                      refine takeD 16 193 undef (by exact rfl) rfl (by kernel_rfl) (by kernel_rfl) (by kernel_rfl) (fun _ _ _ h => h) (Or.inr ⟨by rfl, rfl⟩) (by assumption) ?_
                      try simp only [Act.put, List.setIfInBounds_toArray, List.set_cons_zero, List.set_cons_succ]
                      refine takeD 17 194 undef (by exact rfl) rfl (by kernel_rfl) (by kernel_rfl) (by kernel_rfl) (fun _ _ _ h => h) (Or.inr ⟨by rfl, rfl⟩) (by assumption) ?_
                      try simp only [Act.put, List.setIfInBounds_toArray, List.set_cons_zero, List.set_cons_succ]
                      refine takeD 18 195 undef (by exact rfl) rfl (by kernel_rfl) (by kernel_rfl) (by kernel_rfl) (fun _ _ _ h => h) (Or.inr ⟨by rfl, rfl⟩) (by assumption) ?_
                      try simp only [Act.put, List.setIfInBounds_toArray, List.set_cons_zero, List.set_cons_succ]
                      refine takeD 19 196 (.bool false) (by exact rfl) rfl (by kernel_rfl) (by kernel_rfl) (by kernel_rfl) (fun _ _ _ h => h) (Or.inl ⟨by rfl, ?_⟩) (by assumption) ?_
                      · intro wq hS
                        go_simp
                      try simp only [Act.put, List.setIfInBounds_toArray, List.set_cons_zero, List.set_cons_succ]
                      refine wpAnyH_done (by kernel_rfl) ?_ _
                      refine NoPanic.normal ?_
                      have HH := (show Hid _ from hHeld)
                      clear hHeld BB3 hyx e0
                      go_wp2_with fail
                      exact ⟨⟨j + 1, by omega, by go_num, HH.out⟩, by simp [intOf]; omega⟩
      · have hi1 : (i : Int) < (k : Int) := by omega
        have hi2 : i < k := by omega
        obtain ⟨b, off, rfl, cw, hx⟩ := (HU_3.out.step (by rw [HB.out]; exact BB.out)).at i hi2
        rw [take_getD us k i hi2] at cw hx
        obtain ⟨x, ex⟩ : ∃ x, us.getD i 0 = x := ⟨_, rfl⟩
        rw [ex] at cw hx
        have hx1 : (x : Int) ≤ 65535 := by omega
        have HEX := (show Hid _ from ex)
        have HS2 : Hid (s + x = sm (fun i => us.getD i 0) (i + 1)) := by show _ = _; rw [sm_succ, HS.out, ex]
        have hs2 : (s : Int) + (x : Int) ≤ 4194304 := by
          have h := sm_mono (fun i => us.getD i 0) (m := i + 1) (n := k) (by omega)
          have h2 := HS2.out
          have h3 := HTE.out
          omega
        clear ex
        have HZ1 := (show Hid _ from zsl_next us 1 i (by have := HKL.out; omega))
        go_wp2_with (refine appI1 rfl _ _ rfl B (zsl us 1 i) _ _ (by rfl) (by rfl) HO1.out (by have := BB.out.size; have := HB.out; omega) (by rw [zsl_len _ _ _ (by have := HKL.out; omega)]; omega) ?_; intro v6 w6 o6 b6)
        have HO1' : Hid (OwnI w6 B v6 (zsl us 1 (i + 1))) := by
          rw [HZ1.out, HEX.out, Nat.one_mul]; exact o6
        have BB' := (show Hid _ from BB.out.trans b6)
        clear o6 b6 HO1 BB cw
        go_wp2_with fail
        exact ⟨⟨i + 1, s + x, v6, by omega, by go_num, rfl, by go_num, by omega, HS2.out, HO1'.out, BB'.out⟩, by simp [intOf]; omega⟩
end Go.Proofs.YtbgglghapjfdeaaDoor
