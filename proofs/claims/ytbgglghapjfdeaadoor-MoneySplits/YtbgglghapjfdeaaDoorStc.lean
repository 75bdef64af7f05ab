/- money: the document's Split, where it answers. -/
import Derived.Test.YtbgglghapjfdeaaDoorStb
import Derived.Deep.LoopGhost
namespace Go.Proofs.YtbgglghapjfdeaaDoor
open Go.RowKit
set_option linter.unusedVariables false

theorem fieldI (b : Bool) (a : Option Addr) (n c : Nat) (w : World) : (Instr.field 57 (.agg #[.bool b, .slice a n c]) 1).run Tryd.prog w = .ok (.slice a n c) w := by kernel_rfl
theorem mo_set_b (A B B' : Nat → Int) {n i : Nat} (h : i < n) (y : Int) (h2 : ∀ j, j < n → B' j = if j = i then y else B j) : (mo A B n).set (i * 2 + 1) (.int .i64 y) = mo A B' n := by
  refine List.ext_getElem? fun k => ?_
  by_cases hk : k < n * 2
  · simp only [mo, List.getElem?_set, List.getElem?_map, List.length_map, List.length_range]
    rw [List.getElem?_range hk]
    by_cases e1 : i * 2 + 1 = k
    · subst e1; rw [if_pos rfl, if_pos (by omega), Option.map_some, if_neg (by omega), h2 _ (by omega), if_pos (by omega)]
    · rw [if_neg e1, Option.map_some, Option.map_some]
      by_cases e3 : k % 2 = 0
      · rw [if_pos e3, if_pos e3]
      · rw [if_neg e3, if_neg e3, h2 _ (by omega), if_neg (by omega)]
  · rw [List.getElem?_eq_none (by rw [List.length_set, mo_len]; omega), List.getElem?_eq_none (by rw [mo_len]; omega)]
theorem md_big (a b : Nat) (h1 : a ≤ 10000000000000) (h2 : b ≤ 1000000000) : Md (a * b) := lt_pw (k := 128) (Nat.lt_of_le_of_lt (Nat.mul_le_mul h1 h2) (by decide)) 32 (by decide)
theorem bel_drop {w w' : World} (h : Below w.heap.size w w') : Below w.heap.size w w' := h
set_option maxHeartbeats 20000000 in
set_option maxRecDepth 100000 in
theorem dsp_yes (c m : Int) (zs : List Int) (v : Value) (w : World) (I : Is w v zs) (hb : ∀ i, i < zs.length → 0 ≤ zs.getD i 0 ∧ zs.getD i 0 ≤ 1000000000) (hl0 : 0 < zs.length) (hl : zs.length ≤ 64) (hm : mform c m = true) (W : Nat → Nat) (hW : ∀ i, i < zs.length → zs.getD i 0 = (W i : Int)) (ht : 0 < sm W zs.length) (g : Nat → Nat) (p : Pm (fun x => x) g 0 zs.length) (S : Srt (pr m.natAbs (sm W zs.length) W) g 0 zs.length) : Calls Tryd.prog 8 #[.agg (mcl c m).toArray, v] w fun e w' => (∃ M, e = .returned (.tuple #[.slice (some ⟨M, 0, none⟩) zs.length zs.length, .int .i64 0]) ∧ VA w' M (mo (fun _ => c) (gots m (sm W zs.length) W g zs.length) zs.length) 23) ∧ Below w.heap.size w w' := by
  have HB := (show Hid _ from hb)
  clear hb
  have HW := (show Hid _ from hW)
  clear hW
  have HP : Hid (Pm (fun x => x) g 0 zs.length) := p
  have HS : Hid (Srt (pr m.natAbs (sm W zs.length) W) g 0 zs.length) := S
  clear p S
  have hm1 : -10000000000000 ≤ m ∧ m ≤ 10000000000000 := by
    have hm' := hm
    simp only [mform, Bool.and_eq_true, wi, decide_eq_true_eq] at hm'; exact hm'.2
  obtain ⟨m1, m2⟩ := hm1
  obtain ⟨sz, hz⟩ : ∃ sz, m.natAbs = sz := ⟨_, rfl⟩
  have HZE := (show Hid _ from hz)
  have hz1 : (sz : Int) ≤ 10000000000000 := by omega
  clear hz
  have HI := (show Hid _ from I.step ((Below.refl _ _).alloc (Nat.le_refl _) (.cells (mcl c m).toArray 23)))
  have VM_0 := (show Hid _ from va_new w (mcl c m) 23)
  have BB_0 := (show Hid _ from (Below.refl w.heap.size w).alloc (Nat.le_refl _) (.cells (mcl c m).toArray 23))
  obtain ⟨va, vc, e0, _, hc, _⟩ := I.form
  clear I
  obtain ⟨n, hn⟩ : ∃ n, zs.length = n := ⟨_, rfl⟩
  have HN := (show Hid _ from hn)
  have hn1 : (n : Int) ≤ 9223372036854775807 := by omega
  rw [hn] at e0
  rw [hn]
  subst e0
  clear hc
  have hn2 : (n : Int) ≤ 64 := by omega
  have hn0 : 0 < n := by omega
  have hn3 : ((n : Int) == 0) = false := by simp; omega
  clear hl hl0
  have hn5 : decide ((64 : Int) < (n : Int)) = false := by simp; omega
  rw [hn] at ht HP HS
  have HT := (show Hid _ from ht)
  clear ht
  clear hn
  go_enter Tryd.func8, Tryd.ntmps8
  go_upto_region 1 with fail
  change Code.wp _ _ _ _ (w.alloc (.cells (mcl c m).toArray 23))
  generalize w.alloc (.cells (mcl c m).toArray 23) = wa at *
  go_wp2_with fail
  go_loop [7, 26] (fun s7 s26 => ∃ i : Nat, i ≤ n ∧ s26 = .int .i64 (i : Int)) (fun _ s26 => n - (intOf s26).toNat)
  case atStart => exact ⟨0, by omega, by go_num⟩
  case round =>
    obtain ⟨i, hi, rfl⟩ := hrel
    by_cases hin : (n : Int) ≤ (i : Int)
    · have y0 := VM_0.out.cell 0 (v := .int .i64 c) rfl
      have y1 := VM_0.out.cell 1 (v := .int .i64 m) rfl
      go_wp2_with fail
      clear y0 y1
      refine (rform_ok c m _).mono ?_
      rintro e w1 ⟨rfl, b1⟩
      have HI_1 := (show Hid _ from (HI.out.step b1))
      have VM_1 := (show Hid _ from VM_0.out.step b1)
      have BB_1 := (show Hid _ from BB_0.out.trans (b1.mono BB_0.out.size))
      clear b1 VM_0 BB_0 HI
      rw [hm]
      go_wp2_with fail
      refine (word_ok 0 _ (by omega) (by omega)).mono ?_
      rintro e w2 ⟨⟨u2, rfl, n2⟩, b2⟩
      have HW_2 : Hid (Wts w2 (.slice va n vc) n W) := by have h := (HI_1.out.step b2).wts HW.out; rw [HN.out] at h; exact h
      have VM_2 := (show Hid _ from VM_1.out.step b2)
      have BB_2 := (show Hid _ from BB_1.out.trans (b2.mono BB_1.out.size))
      have NN_2 : Hid (Nm w2 u2 0) := n2
      clear b2 n2 HI_1 VM_1 BB_1
      go_wp2_with fail
      go_loopw [8, 10, 51] (fun s8 s10 s51 wr => ∃ (i : Nat) (u : Value), i ≤ n ∧ s51 = .int .i64 (i : Int) ∧ u = s8 ∧ Hid (Nm wr u (sm W i)) ∧ Hid (Below w2.heap.size w2 wr)) (fun _ _ s51 _ => n - (intOf s51).toNat)
      case atStart => exact ⟨0, u2, by omega, by go_num, rfl, NN_2.out, Below.refl _ _⟩
      case round =>
        obtain ⟨i, u, hi, rfl, rfl, NN, BB⟩ := hrel
        by_cases hin : (n : Int) ≤ (i : Int)
        · obtain rfl : i = n := by omega
          have h0 := NN.out
          obtain ⟨ua, un, uc, rfl⟩ := h0.form
          have hun : ((un : Int) == 0) = false := by
            have := h0.len.1
            have := HT.out
            simp; omega
          clear h0
          have NT_3 : Hid (Nm wr (.slice ua un uc) (sm W i)) := NN.out
          have HW_3 := (show Hid _ from HW_2.out.step BB.out)
          have VM_3 := (show Hid _ from VM_2.out.step BB.out)
          have BB_3 := (show Hid _ from BB_2.out.trans (BB.out.mono BB_2.out.size))
          clear NN BB HW_2 VM_2 BB_2 hin
          have y1 := VM_3.out.cell 1 (v := .int .i64 m) rfl
          go_wp2_with fail
          clear y1 hun
          refine (made_ok m _ (by omega) (by omega)).mono ?_
          rintro e w5 ⟨⟨vmd, rfl, wn⟩, b5⟩
          obtain ⟨su, rfl, ns⟩ := wn
          rw [HZE.out] at ns
          obtain ⟨sa, sn, sc, rfl⟩ := ns.form
          have NS_5 := (show Hid _ from ns)
          have NT_5 := (show Hid _ from NT_3.out.step b5)
          have HW_5 := (show Hid _ from HW_3.out.step b5)
          have VM_5 := (show Hid _ from VM_3.out.step b5)
          have BB_5 := (show Hid _ from BB_3.out.trans (b5.mono BB_3.out.size))
          have HL5 : Hid (w.heap.size < w5.heap.size) := VM_5.out.lt
          clear ns b5 NT_3 HW_3 VM_3 BB_3
          have hfd := fieldI (decide (m < 0)) sa sn sc
          have hmk1 := mk_mo i (by omega)
          have hmk2 := mk_vr i (by omega)
          go_wp2_with fail
          clear hmk1 hmk2 hfd
          have VO_6 := (show Hid _ from (va_new w5 (mo (fun _ => 0) (fun _ => 0) i) 23).alloc (.cells (vrow (fun _ => .slice none 0 0) i).toArray 37))
          have VQ_6 := (show Hid _ from va_new (w5.alloc (.cells (mo (fun _ => 0) (fun _ => 0) i).toArray 23)) (vrow (fun _ => .slice none 0 0) i) 37)
          have BB_6 := (show Hid _ from ((Below.refl w5.heap.size w5).alloc (Nat.le_refl _) (.cells (mo (fun _ => 0) (fun _ => 0) i).toArray 23)).alloc (by simp) (.cells (vrow (fun _ => .slice none 0 0) i).toArray 37))
          have HMQ : Hid (w5.heap.size + 1 = (w5.alloc (.cells (mo (fun _ => 0) (fun _ => 0) i).toArray 23)).heap.size) := by show _ = _; simp
          have VQ_6 : Hid (VA ((w5.alloc (.cells (mo (fun _ => 0) (fun _ => 0) i).toArray 23)).alloc (.cells (vrow (fun _ => .slice none 0 0) i).toArray 37)) (w5.heap.size + 1) (vrow (fun _ => .slice none 0 0) i) 37) := by rw [HMQ.out]; exact VQ_6.out
          clear HMQ
          obtain ⟨M, hM⟩ : ∃ M, w5.heap.size = M := ⟨_, rfl⟩
          obtain ⟨Q, hQ⟩ : ∃ Q, w5.heap.size + 1 = Q := ⟨_, rfl⟩
          have HQM : Hid (Q = M + 1) := by show _ = _; omega
          have HM := (show Hid _ from hM)
          generalize (w5.alloc (.cells (mo (fun _ => 0) (fun _ => 0) i).toArray 23)).alloc (.cells (vrow (fun _ => .slice none 0 0) i).toArray 37) = w6 at VO_6 VQ_6 BB_6 ⊢
          rw [hQ] at VQ_6 ⊢
          rw [hM] at VO_6 HL5 ⊢
          clear hM hQ
          obtain ⟨t, ht⟩ : ∃ t, sm W i = t := ⟨_, rfl⟩
          have HTE := (show Hid _ from ht)
          have HT0 : Hid (0 < t) := by rw [← ht]; exact HT
          have HWB : Hid (∀ j, j < i → W j ≤ 1000000000) := fun j hj => by
            have h1 := HB.out j (by rw [HN.out]; exact hj)
            have h2 := HW.out j (by rw [HN.out]; exact hj)
            omega
          have ht1 : t ≤ 64000000000 := by
            have h := sm_bound (f := W) (n := i) (t := 1000000000) (fun j hj => HWB.out j hj)
            omega
          have HPU : Hid (∀ j, j < i → pu sz t W j ≤ sz) := fun j hj => by have h := pu_le sz W i j hj HT.out; rwa [ht] at h
          have HUL : Hid (∀ j, j ≤ i → sm (pu sz t W) j ≤ sz) := fun j hj => by
            have h1 := sm_mono (pu sz t W) hj
            have h2 := units_le sz W i HT.out
            rw [ht] at h2; omega
          rw [ht] at NT_5 HS
          have HS2 : Hid (Srt (pr sz t W) g 0 i) := by have h := HS.out; rw [HZE.out] at h; exact h
          have HLL : Hid (plf sz t W i < i) := by have h := left_lt sz W i HT.out; rwa [ht] at h
          have HGS : Hid (∀ j, j < i → gots m t W g i j = if m < 0 then -(got sz t W g i j : Int) else (got sz t W g i j : Int)) := fun j hj => by
            by_cases h : m < 0
            · rw [if_pos h, gots_neg h, HZE.out]
            · rw [if_neg h]
              have h2 := gots_pos (W := W) h HT.out HP.out (by rw [ht]; exact HS.out) hj
              rw [ht, HZE.out] at h2; exact h2
          have HNR : Hid (∀ k, k < plf sz t W i → 0 < pr sz t W (g k)) := fun k hk => by
            rcases Nat.eq_zero_or_pos (pr sz t W (g k)) with h | h
            · have hn := no_rest (sz := sz) (W := W) (n := i) HT.out HP.out (by rw [ht]; exact HS2.out) (g k) (by rw [ht]; exact h)
              rw [ht] at hn
              have : hit g (plf sz t W i) (g k) = true := (hit_iff _ _ _).2 ⟨k, hk, rfl⟩
              rw [this] at hn; cases hn
            · exact h
          have HGL : Hid (∀ j, j < i → got sz t W g i j ≤ sz) := fun j hj => by
            have h := got_le (sz := sz) (W := W) (n := i) HT.out HP.out (by rw [ht]; exact HS2.out) j hj
            rwa [ht] at h
          clear ht HS HT
          go_wp2_with fail
          go_loopw [12, 15, 16, 17, 18, 19, 20, 77] (fun s12 s15 s16 s17 s18 s19 s20 s77 wr => ∃ (k : Nat) (lv : Value) (RV : Nat → Value), k ≤ i ∧ s77 = .int .i64 (k : Int) ∧ lv = s12 ∧ Hid (Nm wr lv (sz - sm (pu sz t W) k)) ∧ Hid (VA wr M (mo (fun j => if j < k then c else 0) (fun j => if j < k then (pu sz t W j : Int) else 0) i) 23) ∧ Hid (VA wr Q (vrow (fun j => if j < k then RV j else .slice none 0 0) i) 37) ∧ Hid (∀ j, j < k → Nm wr (RV j) (pr sz t W j)) ∧ Hid (Below w5.heap.size w5 wr)) (fun _ _ _ _ _ _ _ s77 _ => i - (intOf s77).toNat)
          case atStart =>
            refine ⟨0, _, fun _ => .slice none 0 0, by omega, by go_num, rfl, ?_, ?_, ?_, fun j hj => by omega, BB_6.out⟩
            · rw [sm_zero, Nat.sub_zero]; exact NS_5.out.step BB_6.out
            · rw [mo_congr (A' := fun _ => 0) (B' := fun _ => 0) (fun j _ => by simp) (fun j _ => by simp)]; exact VO_6.out
            · rw [vrow_congr (V' := fun _ => .slice none 0 0) (fun j _ => by simp)]; exact VQ_6.out
          case round =>
            obtain ⟨k, lv, RV, hk, rfl, rfl, NL, VO, VQ, NR, BB⟩ := hrel
            clear VO_6 VQ_6 BB_6
            by_cases hki : (i : Int) ≤ (k : Int)
            · obtain rfl : k = i := by omega
              have VO_7 : Hid (VA wr M (mo (fun _ => c) (fun j => (pu sz t W j + (hit g 0 j).toNat : Int)) k) 23) := by
                have h := VO.out
                rw [mo_congr (A' := fun _ => c) (B' := fun j => (pu sz t W j + (hit g 0 j).toNat : Int)) (fun j hj => by rw [if_pos hj]) (fun j hj => by rw [if_pos hj]; simp [hit])] at h
                exact h
              have VQ_7 : Hid (VA wr Q (vrow (rvk RV g 0) k) 37) := by
                have h := VQ.out
                rw [vrow_congr (V' := rvk RV g 0) (fun j hj => by rw [if_pos hj]; simp [rvk, hit])] at h
                exact h
              have BB_7 := (show Hid _ from BB.out)
              have NL_7 : Hid (Nm wr lv (plf sz t W k)) := NL.out
              have NR_7 : Hid (∀ j, j < k → Nm wr (RV j) (pr sz t W j)) := NR.out
              clear VO VQ NL NR BB hki hk
              have HGB : Hid (∀ x, x < k → g x < k) := fun x hx => HP.out.all (P := fun v => v < k) (fun x _ h => h) x (Nat.zero_le _) hx
              obtain ⟨L, hL⟩ : ∃ L, plf sz t W k = L := ⟨_, rfl⟩
              have HLE := (show Hid _ from hL)
              rw [hL] at NL_7 HNR HLL
              clear hL
              go_wp2_with fail
              go_loopg [12, 21, 22, 118] L (fun gk s12 s21 s22 s118 wr => ∃ (q : Nat) (lv : Value), q + gk = L ∧ lv = s12 ∧ Hid (Nm wr lv gk) ∧ Hid (VA wr M (mo (fun _ => c) (fun j => (pu sz t W j + (hit g q j).toNat : Int)) k) 23) ∧ Hid (VA wr Q (vrow (rvk RV g q) k) 37) ∧ Hid (∀ j, j < k → Nm wr (RV j) (pr sz t W j)) ∧ Hid (Below w5.heap.size w5 wr))
              case atStart => exact ⟨0, _, by omega, rfl, NL_7.out, VO_7.out, VQ_7.out, NR_7.out, BB_7.out⟩
              case round =>
                obtain ⟨q, lv, hq, rfl, NL, VO, VQ, NR, BB⟩ := hrel
                clear NL_7 VO_7 VQ_7 NR_7 BB_7
                obtain ⟨la, ln, lc, rfl⟩ := NL.out.form
                have hll := NL.out.len
                by_cases hgk : gk = 0
                · have hln : ¬ (0 : Int) < (ln : Int) := by have := hll.1.2 hgk; omega
                  obtain rfl : q = L := by omega
                  have VO_8 : Hid (VA wr M (mo (fun _ => c) (fun j => (got sz t W g k j : Int)) k) 23) := by
                    have h := VO.out
                    rw [mo_congr (A' := fun _ => c) (B' := fun j => (got sz t W g k j : Int)) (fun _ _ => rfl) (fun j hj => by simp only [got]; rw [HLE.out]; simp)] at h
                    exact h
                  have BB_8 := (show Hid _ from BB.out)
                  clear hll hgk hq NL VO VQ NR BB
                  go_wp2_with fail
                  go_loopw [23, 160] (fun s23 s160 wz => ∃ j : Nat, j ≤ k ∧ s160 = .int .i64 (j : Int) ∧ Hid (VA wz M (mo (fun _ => c) (fun l => if l < j then gots m t W g k l else (got sz t W g k l : Int)) k) 23) ∧ Hid (Below w5.heap.size w5 wz)) (fun _ s160 _ => k - (intOf s160).toNat)
                  case atStart => exact ⟨0, by omega, by go_num, by rw [mo_congr (A' := fun _ => c) (B' := fun l => (got sz t W g k l : Int)) (fun _ _ => rfl) (fun j _ => by simp)]; exact VO_8.out, BB_8.out⟩
                  case round =>
                    obtain ⟨j, hj, rfl, VO, BB⟩ := hrel
                    clear VO_8 BB_8
                    by_cases hjk : (k : Int) ≤ (j : Int)
                    · go_wp2_with fail
                      refine bodyPost_ret (v := .tuple #[.slice (some ⟨M, 0, none⟩) k k, .int .i64 0]) (by simp [results, Tryd.results8, go_sem]) rfl ⟨⟨M, rfl, ?_⟩, BB_5.out.trans (BB.out.mono BB_5.out.size)⟩
                      have h := VO.out
                      rw [mo_congr (A' := fun _ => c) (B' := gots m t W g k) (fun _ _ => rfl) (fun l hl => by rw [if_pos (by omega)]), ← HTE.out] at h
                      exact h
                    · have hj1 : (j : Int) < (k : Int) := by omega
                      have hj2 : j < k := by omega
                      have HJ2 := (show Hid _ from hj2)
                      have y1 := (VM_5.out.step BB.out).cell 1 (v := .int .i64 m) rfl
                      obtain ⟨x, hx⟩ : ∃ x, got sz t W g k j = x := ⟨_, rfl⟩
                      have hx1 : (x : Int) ≤ (sz : Int) := by have := HGL.out j hj2; omega
                      have hgs := HGS.out j hj2
                      rw [hx] at hgs
                      have HGJ := (show Hid _ from hgs)
                      have HXE := (show Hid _ from hx)
                      clear hx hgs
                      by_cases hneg : m < 0
                      · have o1 := VO.out.cell (j * 2 + 1) (mo_b _ _ hj2)
                        rw [if_neg (by omega), HXE.out] at o1
                        have g1 := VO.out.free (j * 2 + 1)
                        have HNX : Hid (gots m t W g k j = -(x : Int)) := by show _ = _; rw [HGJ.out, if_pos hneg]
                        go_wp2_with fail
                        refine ⟨⟨j + 1, by omega, by go_num, ?_, ?_⟩, by simp [intOf]; omega⟩
                        · have h := VO.out.set (j * 2 + 1) (.int .i64 (-(x : Int)))
                          rw [mo_set_b _ _ (fun l => if l < j + 1 then gots m t W g k l else (got sz t W g k l : Int)) HJ2.out (-(x : Int)) (fun l hl => by
                            by_cases e : l = j
                            · rw [if_pos e, if_pos (by omega), e, HNX.out]
                            · rw [if_neg e]
                              by_cases e2 : l < j
                              · rw [if_pos e2, if_pos (by omega)]
                              · rw [if_neg e2, if_neg (by omega)])] at h
                          exact h
                        · exact BB.out.setCell (p := ⟨M, j * 2 + 1, none⟩) (by have := HM.out; show _ ≤ M; omega) _
                      · have hneg' : 0 ≤ m := by omega
                        have HNX : Hid (gots m t W g k j = (x : Int)) := by show _ = _; rw [HGJ.out, if_neg hneg]
                        clear hneg
                        go_wp2_with fail
                        refine ⟨⟨j + 1, by omega, by go_num, ?_, BB.out⟩, by simp [intOf]; omega⟩
                        have h := VO.out
                        rw [mo_congr (A' := fun _ => c) (B' := fun l => if l < j + 1 then gots m t W g k l else (got sz t W g k l : Int)) (fun _ _ => rfl) (fun l hl => by
                          by_cases e : l = j
                          · rw [if_neg (by omega), if_pos (by omega), e, HNX.out, HXE.out]
                          · by_cases e2 : l < j
                            · rw [if_pos e2, if_pos (by omega)]
                            · rw [if_neg e2, if_neg (by omega)])] at h
                        exact h
                · have hlnN : 0 < ln := by have := hll.1; omega
                  have hln : decide (0 < ln) = true := by simp; omega
                  have hql : q < L := by omega
                  have HQL := (show Hid _ from hql)
                  have hqk : q < k := by have := HLL.out; omega
                  have HQK := (show Hid _ from hqk)
                  have HGK := (show Hid _ from hq)
                  have hgk1 : 0 < gk := by omega
                  clear hll hgk hq hql
                  rename World => w9
                  have HV := (show Hid _ from VQ.out)
                  go_wp2_with fail
                  go_loopw [21, 22, 118] (fun s21 s22 s118 wz => ∃ (j : Nat) (b : Int), j ≤ k ∧ s118 = .int .i64 (j : Int) ∧ s21 = .int .i64 b ∧ Hid (Best (pr sz t W) (rvk RV g q) j b) ∧ Hid (Below w9.heap.size w9 wz)) (fun _ _ s118 _ => k - (intOf s118).toNat)
                  case atStart => exact ⟨0, -1, by omega, by go_num, by go_num, best_start _ _, Below.refl _ _⟩
                  case round =>
                    obtain ⟨j, b, hj, rfl, rfl, HBE, BZ⟩ := hrel
                    by_cases hjk : (k : Int) ≤ (j : Int)
                    · obtain rfl : j = k := by omega
                      have hb : b = (g q : Int) := HBE.out.done HP.out HS2.out HQK.out ((NR.out (g q) (HGB.out q HQK.out)).nlv (HNR.out q HQL.out))
                      subst hb
                      obtain ⟨y, hy⟩ : ∃ y, g q = y := ⟨_, rfl⟩
                      have HYE := (show Hid _ from hy)
                      have hy2 : y < j := by rw [← hy]; exact HGB.out q HQK.out
                      have hy1 : (y : Int) < (j : Int) := by omega
                      have HY2 := (show Hid _ from hy2)
                      rw [hy]
                      have VO_9 := (show Hid _ from VO.out.step BZ.out)
                      have VQ_9 := (show Hid _ from VQ.out.step BZ.out)
                      have NL_9 := (show Hid _ from NL.out.step BZ.out)
                      have BB_9 := (show Hid _ from BB.out.trans (BZ.out.mono BB.out.size))
                      have o1 := VO_9.out.cell (y * 2 + 1) (mo_b _ _ hy2)
                      have hnh : hit g q y = false := by rw [← hy]; exact not_hit HS2.out HQK.out
                      simp only [hnh, Bool.toNat_false, Int.natCast_zero, Int.add_zero] at o1
                      clear hy
                      obtain ⟨x, hx⟩ : ∃ x, pu sz t W y = x := ⟨_, rfl⟩
                      rw [hx] at o1
                      have HXE := (show Hid _ from hx)
                      have hx1 : (x : Int) ≤ (sz : Int) := by have := HPU.out y hy2; omega
                      clear hx
                      have g1 := VO_9.out.free (y * 2 + 1)
                      have VQ_a := VQ_9.out.set_other (q := M) (by have := HQM.out; omega) (y * 2 + 1) (.int .i64 ((x : Int) + 1))
                      have q0 := VQ_a.cell y (vrow_get _ hy2)
                      have f0 := VQ_a.free y
                      have VO_b := (show Hid _ from (VO_9.out.set (y * 2 + 1) (.int .i64 ((x : Int) + 1))).set_other (q := Q) (by have := HQM.out; omega) y (.slice none 0 0))
                      have VQ_b := (show Hid _ from VQ_a.set y (.slice none 0 0))
                      have ST : ∀ (v : Value) (z : Nat), Nm wr v z → Nm ((wr.setCell ⟨M, y * 2 + 1, none⟩ (.int .i64 ((x : Int) + 1))).setCell ⟨Q, y, none⟩ (.slice none 0 0)) v z := fun v z h =>
                        (h.store VO_9.out.blk (by decide) _ _).store VQ_a.blk (by decide) _ _
                      have NL_b := (show Hid _ from ST _ _ NL_9.out)
                      have NR_b : Hid (∀ l, l < j → Nm ((wr.setCell ⟨M, y * 2 + 1, none⟩ (.int .i64 ((x : Int) + 1))).setCell ⟨Q, y, none⟩ (.slice none 0 0)) (RV l) (pr sz t W l)) := fun l hl => ST _ _ ((NR.out l hl).step BZ.out)
                      have BB_b := (show Hid _ from (BB_9.out.setCell (p := ⟨M, y * 2 + 1, none⟩) (by have := HM.out; show _ ≤ M; omega) (.int .i64 ((x : Int) + 1))).setCell (p := ⟨Q, y, none⟩) (by have := HM.out; have := HQM.out; show _ ≤ Q; omega) (.slice none 0 0))
                      clear ST VQ_a NL_9 BB_9 VQ VO NL NR BB HV HBE
                      go_wp2_with fail
                      clear o1 g1 q0 f0 VO_9 VQ_9
                      generalize (wr.setCell ⟨M, y * 2 + 1, none⟩ (.int .i64 ((x : Int) + 1))).setCell ⟨Q, y, none⟩ (.slice none 0 0) = w10 at VO_b VQ_b NL_b NR_b BB_b ⊢
                      refine (word_ok 1 _ (by omega) (by omega)).mono ?_
                      rintro e w11 ⟨⟨u11, rfl, n11⟩, b11⟩
                      have N11 : Hid (Nm w11 u11 1) := n11
                      have NL_11 := (show Hid _ from NL_b.out.step b11)
                      have B11 := (show Hid _ from b11)
                      clear n11 b11 NL_b
                      go_wp2_with fail
                      refine (minus_ok _ u11 gk 1 _ NL_11.out N11.out (by omega)).mono ?_
                      rintro e w12 ⟨⟨u12, rfl, n12⟩, b12⟩
                      have N12 := (show Hid _ from n12)
                      have B12 := (show Hid _ from B11.out.trans (b12.mono B11.out.size))
                      clear n12 b12 NL_11 N11 B11
                      go_wp2_with fail
                      go_roundg (gk - 1)
                      case measure => omega
                      case rel =>
                        refine ⟨q + 1, u12, by have := HGK.out; omega, rfl, N12.out, ?_, ?_, fun l hl => (NR_b.out l hl).step B12.out, BB_b.out.trans (B12.out.mono BB_b.out.size)⟩
                        · have h := VO_b.out.step B12.out
                          rw [mo_set_b _ _ (fun l => (pu sz t W l + (hit g (q + 1) l).toNat : Int)) HY2.out ((x : Int) + 1) (fun l hl => by
                            have h2 := hit_next (pu sz t W) HS2.out HQK.out l
                            simp only [upn] at h2
                            by_cases e : l = y
                            · rw [if_pos e]
                              rw [if_pos (by rw [HYE.out]; exact e), HYE.out, HXE.out] at h2
                              omega
                            · rw [if_neg e]
                              rw [if_neg (by rw [HYE.out]; exact e)] at h2
                              omega)] at h
                          exact h
                        · have h := VQ_b.out.step B12.out
                          rw [vrow_set _ (rvk RV g (q + 1)) HY2.out (.slice none 0 0) (fun l hl => by rw [rvk_next, HYE.out])] at h
                          exact h
                    · have hj1 : (j : Int) < (k : Int) := by omega
                      have hj2 : j < k := by omega
                      have HJ2 := (show Hid _ from hj2)
                      have VQ_9 := (show Hid _ from VQ.out.step BZ.out)
                      obtain ⟨vj, hvj⟩ : ∃ vj, rvk RV g q j = vj := ⟨_, rfl⟩
                      have HVJ := (show Hid _ from hvj)
                      have HCJ' : ∀ w', Below w9.heap.size w9 w' → w'.cell? ⟨Q, j, none⟩ = some vj := fun w' hw => by
                        have h := (VQ.out.step hw).cell j (vrow_get _ hj2)
                        rw [hvj] at h; exact h
                      have HFM : Hid ((∃ nj cj, vj = .slice none nj cj) ∨ ∃ aj nj cj, vj = .slice (some aj) nj cj ∧ Nm w9 vj (pr sz t W j)) := by
                        rw [← hvj]
                        cases e : hit g q j with
                        | true => exact Or.inl ⟨0, 0, by simp only [rvk, e]; rfl⟩
                        | false =>
                          have h := NR.out j hj2
                          have e2 : rvk RV g q j = RV j := by simp only [rvk, e]; rfl
                          rw [e2]
                          obtain ⟨a, nj, cj, ev⟩ := h.form
                          cases a with
                          | none => exact Or.inl ⟨nj, cj, ev⟩
                          | some aj => exact Or.inr ⟨aj, nj, cj, ev, h⟩
                      clear hvj
                      rcases HFM.out with ⟨nj, cj, ev⟩ | ⟨aj, nj, cj, ev, nj'⟩
                      · subst ev
                        have HCJ := (show Hid _ from HCJ')
                        have HN2 : Hid (Best (pr sz t W) (rvk RV g q) (j + 1) b) := HBE.out.skip (by rw [HVJ.out]; rfl)
                        clear HCJ' HFM HBE
                        go_upto_region 37 with fail
                        refine wp_region_noPanic ?_
                        refine wp_region_held_drew (S := fun w' => Below w9.heap.size w9 w') (by kernel_rfl) BZ.out.drew (fun hHeld => ?_)
                        refine takeD 0 121 (.slice (some ⟨Q, 0, none⟩) k k) (by exact rfl) rfl (by kernel_rfl) (by kernel_rfl) (by kernel_rfl) (fun _ _ _ h => h) (Or.inl ⟨by rfl, ?_⟩) (by assumption) ?_
                        · intro wq hS
                          go_simp
                        try simp only [Act.put, List.setIfInBounds_toArray, List.set_cons_zero, List.set_cons_succ]
                        refine takeD 1 122 (.int .i64 (j : Int)) (by exact rfl) rfl (by kernel_rfl) (by kernel_rfl) (by kernel_rfl) (fun _ _ _ h => h) (Or.inl ⟨by rfl, ?_⟩) (by assumption) ?_
                        · intro wq hS
                          go_simp
                        try simp only [Act.put, List.setIfInBounds_toArray, List.set_cons_zero, List.set_cons_succ]
                        refine takeD 2 123 (.pointer (some ⟨Q, j, none⟩)) (by exact rfl) rfl (by kernel_rfl) (by kernel_rfl) (by kernel_rfl) (fun _ _ _ h => h) (Or.inl ⟨by rfl, ?_⟩) (by assumption) ?_
                        · intro wq hS
                          go_simp
                        try simp only [Act.put, List.setIfInBounds_toArray, List.set_cons_zero, List.set_cons_succ]
                        refine takeD 3 124 (.slice none nj cj) (by exact rfl) rfl (by kernel_rfl) (by kernel_rfl) (by kernel_rfl) (fun _ _ _ h => h) (Or.inl ⟨by rfl, ?_⟩) (by assumption) ?_
                        · intro wq hS
                          have h0 := HCJ.out wq hS
                          go_simp
                        try simp only [Act.put, List.setIfInBounds_toArray, List.set_cons_zero, List.set_cons_succ]
                        refine takeD 4 125 (.bool false) (by exact rfl) rfl (by kernel_rfl) (by kernel_rfl) (by kernel_rfl) (fun _ _ _ h => h) (Or.inl ⟨by rfl, ?_⟩) (by assumption) ?_
                        · intro wq hS
                          go_simp
                        try simp only [Act.put, List.setIfInBounds_toArray, List.set_cons_zero, List.set_cons_succ]
                        refine takeD 5 126 (.bool false) (by exact rfl) rfl (by kernel_rfl) (by kernel_rfl) (by kernel_rfl) (fun _ _ _ h => h) (Or.inl ⟨by rfl, ?_⟩) (by assumption) ?_
                        · intro wq hS
                          go_simp
                        try simp only [Act.put, List.setIfInBounds_toArray, List.set_cons_zero, List.set_cons_succ]
                        refine takeD 6 127 undef (by exact rfl) rfl (by kernel_rfl) (by kernel_rfl) (by kernel_rfl) (fun _ _ _ h => h) (Or.inr ⟨by rfl, rfl⟩) (by assumption) ?_
                        try simp only [Act.put, List.setIfInBounds_toArray, List.set_cons_zero, List.set_cons_succ]
                        refine takeD 7 128 undef (by exact rfl) rfl (by kernel_rfl) (by kernel_rfl) (by kernel_rfl) (fun _ _ _ h => h) (Or.inr ⟨by rfl, rfl⟩) (by assumption) ?_
                        try simp only [Act.put, List.setIfInBounds_toArray, List.set_cons_zero, List.set_cons_succ]
                        refine takeD 8 129 undef (by exact rfl) rfl (by kernel_rfl) (by kernel_rfl) (by kernel_rfl) (fun _ _ _ h => h) (Or.inr ⟨by rfl, rfl⟩) (by assumption) ?_
                        try simp only [Act.put, List.setIfInBounds_toArray, List.set_cons_zero, List.set_cons_succ]
                        refine takeD 9 130 undef (by exact rfl) rfl (by kernel_rfl) (by kernel_rfl) (by kernel_rfl) (fun _ _ _ h => h) (Or.inr ⟨by rfl, rfl⟩) (by assumption) ?_
                        try simp only [Act.put, List.setIfInBounds_toArray, List.set_cons_zero, List.set_cons_succ]
                        refine takeD 10 131 undef (by exact rfl) rfl (by kernel_rfl) (by kernel_rfl) (by kernel_rfl) (fun _ _ _ h => h) (Or.inr ⟨by rfl, rfl⟩) (by assumption) ?_
                        try simp only [Act.put, List.setIfInBounds_toArray, List.set_cons_zero, List.set_cons_succ]
                        refine takeD 11 132 undef (by exact rfl) rfl (by kernel_rfl) (by kernel_rfl) (by kernel_rfl) (fun _ _ _ h => h) (Or.inr ⟨by rfl, rfl⟩) (by assumption) ?_
                        try simp only [Act.put, List.setIfInBounds_toArray, List.set_cons_zero, List.set_cons_succ]
                        refine takeD 12 133 undef (by exact rfl) rfl (by kernel_rfl) (by kernel_rfl) (by kernel_rfl) (fun _ _ _ h => h) (Or.inr ⟨by rfl, rfl⟩) (by assumption) ?_
                        try simp only [Act.put, List.setIfInBounds_toArray, List.set_cons_zero, List.set_cons_succ]
                        refine takeD 13 134 undef (by exact rfl) rfl (by kernel_rfl) (by kernel_rfl) (by kernel_rfl) (fun _ _ _ h => h) (Or.inr ⟨by rfl, rfl⟩) (by assumption) ?_
                        try simp only [Act.put, List.setIfInBounds_toArray, List.set_cons_zero, List.set_cons_succ]
                        refine takeD 14 135 undef (by exact rfl) rfl (by kernel_rfl) (by kernel_rfl) (by kernel_rfl) (fun _ _ _ h => h) (Or.inr ⟨by rfl, rfl⟩) (by assumption) ?_
                        try simp only [Act.put, List.setIfInBounds_toArray, List.set_cons_zero, List.set_cons_succ]
                        refine takeD 15 136 undef (by exact rfl) rfl (by kernel_rfl) (by kernel_rfl) (by kernel_rfl) (fun _ _ _ h => h) (Or.inr ⟨by rfl, rfl⟩) (by assumption) ?_
                        try simp only [Act.put, List.setIfInBounds_toArray, List.set_cons_zero, List.set_cons_succ]
                        refine takeD 16 137 undef (by exact rfl) rfl (by kernel_rfl) (by kernel_rfl) (by kernel_rfl) (fun _ _ _ h => h) (Or.inr ⟨by rfl, rfl⟩) (by assumption) ?_
                        try simp only [Act.put, List.setIfInBounds_toArray, List.set_cons_zero, List.set_cons_succ]
                        refine takeD 17 138 undef (by exact rfl) rfl (by kernel_rfl) (by kernel_rfl) (by kernel_rfl) (fun _ _ _ h => h) (Or.inr ⟨by rfl, rfl⟩) (by assumption) ?_
                        try simp only [Act.put, List.setIfInBounds_toArray, List.set_cons_zero, List.set_cons_succ]
                        refine takeD 18 139 undef (by exact rfl) rfl (by kernel_rfl) (by kernel_rfl) (by kernel_rfl) (fun _ _ _ h => h) (Or.inr ⟨by rfl, rfl⟩) (by assumption) ?_
                        try simp only [Act.put, List.setIfInBounds_toArray, List.set_cons_zero, List.set_cons_succ]
                        refine takeD 19 140 undef (by exact rfl) rfl (by kernel_rfl) (by kernel_rfl) (by kernel_rfl) (fun _ _ _ h => h) (Or.inr ⟨by rfl, rfl⟩) (by assumption) ?_
                        try simp only [Act.put, List.setIfInBounds_toArray, List.set_cons_zero, List.set_cons_succ]
                        refine takeD 20 141 (.bool false) (by exact rfl) rfl (by kernel_rfl) (by kernel_rfl) (by kernel_rfl) (fun _ _ _ h => h) (Or.inl ⟨by rfl, ?_⟩) (by assumption) ?_
                        · intro wq hS
                          go_simp
                        try simp only [Act.put, List.setIfInBounds_toArray, List.set_cons_zero, List.set_cons_succ]
                        refine wpAnyH_done (by kernel_rfl) ?_ _
                        refine NoPanic.normal ?_
                        have HH := (show Hid _ from hHeld)
                        clear hHeld BZ HCJ VQ_9
                        go_wp2_with fail
                        exact ⟨⟨j + 1, b, by omega, by go_num, rfl, HN2.out, HH.out⟩, by simp [intOf]; omega⟩
                      · subst ev
                        have HCJ := (show Hid _ from HCJ')
                        have NJ := (show Hid _ from nj')
                        have HNL : Hid (nlv (rvk RV g q j) = false) := by show _ = _; rw [HVJ.out]; rfl
                        clear HCJ' HFM nj'
                        rcases HBE.out.cases with rfl | ⟨y, rfl⟩
                        · have HN2 : Hid (Best (pr sz t W) (rvk RV g q) (j + 1) (j : Int)) := HBE.out.first HNL.out
                          clear HBE
                          go_upto_region 37 with fail
                          refine wp_region_noPanic ?_
                          refine wp_region_held_drew (S := fun w' => Below w9.heap.size w9 w') (by kernel_rfl) BZ.out.drew (fun hHeld => ?_)
                          refine takeD 0 121 (.slice (some ⟨Q, 0, none⟩) k k) (by exact rfl) rfl (by kernel_rfl) (by kernel_rfl) (by kernel_rfl) (fun _ _ _ h => h) (Or.inl ⟨by rfl, ?_⟩) (by assumption) ?_
                          · intro wq hS
                            go_simp
                          try simp only [Act.put, List.setIfInBounds_toArray, List.set_cons_zero, List.set_cons_succ]
                          refine takeD 1 122 (.int .i64 (j : Int)) (by exact rfl) rfl (by kernel_rfl) (by kernel_rfl) (by kernel_rfl) (fun _ _ _ h => h) (Or.inl ⟨by rfl, ?_⟩) (by assumption) ?_
                          · intro wq hS
                            go_simp
                          try simp only [Act.put, List.setIfInBounds_toArray, List.set_cons_zero, List.set_cons_succ]
                          refine takeD 2 123 (.pointer (some ⟨Q, j, none⟩)) (by exact rfl) rfl (by kernel_rfl) (by kernel_rfl) (by kernel_rfl) (fun _ _ _ h => h) (Or.inl ⟨by rfl, ?_⟩) (by assumption) ?_
                          · intro wq hS
                            go_simp
                          try simp only [Act.put, List.setIfInBounds_toArray, List.set_cons_zero, List.set_cons_succ]
                          refine takeD 3 124 (.slice (some aj) nj cj) (by exact rfl) rfl (by kernel_rfl) (by kernel_rfl) (by kernel_rfl) (fun _ _ _ h => h) (Or.inl ⟨by rfl, ?_⟩) (by assumption) ?_
                          · intro wq hS
                            have h0 := HCJ.out wq hS
                            go_simp
                          try simp only [Act.put, List.setIfInBounds_toArray, List.set_cons_zero, List.set_cons_succ]
                          refine takeD 4 125 (.bool true) (by exact rfl) rfl (by kernel_rfl) (by kernel_rfl) (by kernel_rfl) (fun _ _ _ h => h) (Or.inl ⟨by rfl, ?_⟩) (by assumption) ?_
                          · intro wq hS
                            go_simp
                          try simp only [Act.put, List.setIfInBounds_toArray, List.set_cons_zero, List.set_cons_succ]
                          refine takeD 5 126 (.bool true) (by exact rfl) rfl (by kernel_rfl) (by kernel_rfl) (by kernel_rfl) (fun _ _ _ h => h) (Or.inl ⟨by rfl, ?_⟩) (by assumption) ?_
                          · intro wq hS
                            go_simp
                          try simp only [Act.put, List.setIfInBounds_toArray, List.set_cons_zero, List.set_cons_succ]
                          refine takeD 6 127 (.int .i64 (-1)) (by exact rfl) rfl (by kernel_rfl) (by kernel_rfl) (by kernel_rfl) (fun _ _ _ h => h) (Or.inl ⟨by rfl, ?_⟩) (by assumption) ?_
                          · intro wq hS
                            go_simp
                          try simp only [Act.put, List.setIfInBounds_toArray, List.set_cons_zero, List.set_cons_succ]
                          refine takeD 7 128 (.bool true) (by exact rfl) rfl (by kernel_rfl) (by kernel_rfl) (by kernel_rfl) (fun _ _ _ h => h) (Or.inl ⟨by rfl, ?_⟩) (by assumption) ?_
                          · intro wq hS
                            go_simp
                          try simp only [Act.put, List.setIfInBounds_toArray, List.set_cons_zero, List.set_cons_succ]
                          refine takeD 8 129 (.bool true) (by exact rfl) rfl (by kernel_rfl) (by kernel_rfl) (by kernel_rfl) (fun _ _ _ h => h) (Or.inl ⟨by rfl, ?_⟩) (by assumption) ?_
                          · intro wq hS
                            go_simp
                          try simp only [Act.put, List.setIfInBounds_toArray, List.set_cons_zero, List.set_cons_succ]
                          refine takeD 9 130 undef (by exact rfl) rfl (by kernel_rfl) (by kernel_rfl) (by kernel_rfl) (fun _ _ _ h => h) (Or.inr ⟨by rfl, rfl⟩) (by assumption) ?_
                          try simp only [Act.put, List.setIfInBounds_toArray, List.set_cons_zero, List.set_cons_succ]
                          refine takeD 10 131 undef (by exact rfl) rfl (by kernel_rfl) (by kernel_rfl) (by kernel_rfl) (fun _ _ _ h => h) (Or.inr ⟨by rfl, rfl⟩) (by assumption) ?_
                          try simp only [Act.put, List.setIfInBounds_toArray, List.set_cons_zero, List.set_cons_succ]
                          refine takeD 11 132 undef (by exact rfl) rfl (by kernel_rfl) (by kernel_rfl) (by kernel_rfl) (fun _ _ _ h => h) (Or.inr ⟨by rfl, rfl⟩) (by assumption) ?_
                          try simp only [Act.put, List.setIfInBounds_toArray, List.set_cons_zero, List.set_cons_succ]
                          refine takeD 12 133 undef (by exact rfl) rfl (by kernel_rfl) (by kernel_rfl) (by kernel_rfl) (fun _ _ _ h => h) (Or.inr ⟨by rfl, rfl⟩) (by assumption) ?_
                          try simp only [Act.put, List.setIfInBounds_toArray, List.set_cons_zero, List.set_cons_succ]
                          refine takeD 13 134 undef (by exact rfl) rfl (by kernel_rfl) (by kernel_rfl) (by kernel_rfl) (fun _ _ _ h => h) (Or.inr ⟨by rfl, rfl⟩) (by assumption) ?_
                          try simp only [Act.put, List.setIfInBounds_toArray, List.set_cons_zero, List.set_cons_succ]
                          refine takeD 14 135 undef (by exact rfl) rfl (by kernel_rfl) (by kernel_rfl) (by kernel_rfl) (fun _ _ _ h => h) (Or.inr ⟨by rfl, rfl⟩) (by assumption) ?_
                          try simp only [Act.put, List.setIfInBounds_toArray, List.set_cons_zero, List.set_cons_succ]
                          refine takeD 15 136 undef (by exact rfl) rfl (by kernel_rfl) (by kernel_rfl) (by kernel_rfl) (fun _ _ _ h => h) (Or.inr ⟨by rfl, rfl⟩) (by assumption) ?_
                          try simp only [Act.put, List.setIfInBounds_toArray, List.set_cons_zero, List.set_cons_succ]
                          refine takeD 16 137 undef (by exact rfl) rfl (by kernel_rfl) (by kernel_rfl) (by kernel_rfl) (fun _ _ _ h => h) (Or.inr ⟨by rfl, rfl⟩) (by assumption) ?_
                          try simp only [Act.put, List.setIfInBounds_toArray, List.set_cons_zero, List.set_cons_succ]
                          refine takeD 17 138 undef (by exact rfl) rfl (by kernel_rfl) (by kernel_rfl) (by kernel_rfl) (fun _ _ _ h => h) (Or.inr ⟨by rfl, rfl⟩) (by assumption) ?_
                          try simp only [Act.put, List.setIfInBounds_toArray, List.set_cons_zero, List.set_cons_succ]
                          refine takeD 18 139 undef (by exact rfl) rfl (by kernel_rfl) (by kernel_rfl) (by kernel_rfl) (fun _ _ _ h => h) (Or.inr ⟨by rfl, rfl⟩) (by assumption) ?_
                          try simp only [Act.put, List.setIfInBounds_toArray, List.set_cons_zero, List.set_cons_succ]
                          refine takeD 19 140 (.bool true) (by exact rfl) rfl (by kernel_rfl) (by kernel_rfl) (by kernel_rfl) (fun _ _ _ h => h) (Or.inl ⟨by rfl, ?_⟩) (by assumption) ?_
                          · intro wq hS
                            go_simp
                          try simp only [Act.put, List.setIfInBounds_toArray, List.set_cons_zero, List.set_cons_succ]
                          refine takeD 20 141 (.bool true) (by exact rfl) rfl (by kernel_rfl) (by kernel_rfl) (by kernel_rfl) (fun _ _ _ h => h) (Or.inl ⟨by rfl, ?_⟩) (by assumption) ?_
                          · intro wq hS
                            go_simp
                          try simp only [Act.put, List.setIfInBounds_toArray, List.set_cons_zero, List.set_cons_succ]
                          refine wpAnyH_done (by kernel_rfl) ?_ _
                          refine NoPanic.normal ?_
                          have HH := (show Hid _ from hHeld)
                          clear hHeld BZ HCJ VQ_9
                          go_wp2_with fail
                          exact ⟨⟨j + 1, j, by omega, by go_num, rfl, HN2.out, HH.out⟩, by simp [intOf]; omega⟩
                        · have hyn := HBE.out.nn
                          have hy1 : (y : Int) < (k : Int) := by omega
                          obtain ⟨vy, hvy⟩ : ∃ vy, rvk RV g q y = vy := ⟨_, rfl⟩
                          have HCY : Hid (∀ w', Below w9.heap.size w9 w' → w'.cell? ⟨Q, y, none⟩ = some vy) := fun w' hw => by
                            have h := (VQ.out.step hw).cell y (vrow_get _ (by omega))
                            rw [hvy] at h; exact h
                          have NY : Hid (Nm w9 vy (pr sz t W y)) := by
                            have e : hit g q y = false := by
                              cases e : hit g q y with
                              | false => rfl
                              | true => have h := hyn.2; simp [rvk, e, nlv] at h
                            rw [← hvy, show rvk RV g q y = RV y by simp only [rvk, e]; rfl]
                            exact NR.out y (by omega)
                          have hyn' : ¬ (y : Int) < 0 := by omega
                          clear hvy hyn
                          by_cases hr : pr sz t W y < pr sz t W j
                          · have HN2 : Hid (Best (pr sz t W) (rvk RV g q) (j + 1) (j : Int)) := HBE.out.better HNL.out hr
                            have ecmp := cmpN_gt hr
                            clear hr HBE
                            go_upto_region 37 with fail
                            refine wp_region_noPanic ?_
                            refine wp_region_held_drew (S := fun w' => Below w9.heap.size w9 w') (by kernel_rfl) BZ.out.drew (fun hHeld => ?_)
                            refine takeD 0 121 (.slice (some ⟨Q, 0, none⟩) k k) (by exact rfl) rfl (by kernel_rfl) (by kernel_rfl) (by kernel_rfl) (fun _ _ _ h => h) (Or.inl ⟨by rfl, ?_⟩) (by assumption) ?_
                            · intro wq hS
                              go_simp
                            try simp only [Act.put, List.setIfInBounds_toArray, List.set_cons_zero, List.set_cons_succ]
                            refine takeD 1 122 (.int .i64 (j : Int)) (by exact rfl) rfl (by kernel_rfl) (by kernel_rfl) (by kernel_rfl) (fun _ _ _ h => h) (Or.inl ⟨by rfl, ?_⟩) (by assumption) ?_
                            · intro wq hS
                              go_simp
                            try simp only [Act.put, List.setIfInBounds_toArray, List.set_cons_zero, List.set_cons_succ]
                            refine takeD 2 123 (.pointer (some ⟨Q, j, none⟩)) (by exact rfl) rfl (by kernel_rfl) (by kernel_rfl) (by kernel_rfl) (fun _ _ _ h => h) (Or.inl ⟨by rfl, ?_⟩) (by assumption) ?_
                            · intro wq hS
                              go_simp
                            try simp only [Act.put, List.setIfInBounds_toArray, List.set_cons_zero, List.set_cons_succ]
                            refine takeD 3 124 (.slice (some aj) nj cj) (by exact rfl) rfl (by kernel_rfl) (by kernel_rfl) (by kernel_rfl) (fun _ _ _ h => h) (Or.inl ⟨by rfl, ?_⟩) (by assumption) ?_
                            · intro wq hS
                              have h0 := HCJ.out wq hS
                              go_simp
                            try simp only [Act.put, List.setIfInBounds_toArray, List.set_cons_zero, List.set_cons_succ]
                            refine takeD 4 125 (.bool true) (by exact rfl) rfl (by kernel_rfl) (by kernel_rfl) (by kernel_rfl) (fun _ _ _ h => h) (Or.inl ⟨by rfl, ?_⟩) (by assumption) ?_
                            · intro wq hS
                              go_simp
                            try simp only [Act.put, List.setIfInBounds_toArray, List.set_cons_zero, List.set_cons_succ]
                            refine takeD 5 126 (.bool true) (by exact rfl) rfl (by kernel_rfl) (by kernel_rfl) (by kernel_rfl) (fun _ _ _ h => h) (Or.inl ⟨by rfl, ?_⟩) (by assumption) ?_
                            · intro wq hS
                              go_simp
                            try simp only [Act.put, List.setIfInBounds_toArray, List.set_cons_zero, List.set_cons_succ]
                            refine takeD 6 127 (.int .i64 (y : Int)) (by exact rfl) rfl (by kernel_rfl) (by kernel_rfl) (by kernel_rfl) (fun _ _ _ h => h) (Or.inl ⟨by rfl, ?_⟩) (by assumption) ?_
                            · intro wq hS
                              go_simp
                            try simp only [Act.put, List.setIfInBounds_toArray, List.set_cons_zero, List.set_cons_succ]
                            refine takeD 7 128 (.bool false) (by exact rfl) rfl (by kernel_rfl) (by kernel_rfl) (by kernel_rfl) (fun _ _ _ h => h) (Or.inl ⟨by rfl, ?_⟩) (by assumption) ?_
                            · intro wq hS
                              go_simp
                            try simp only [Act.put, List.setIfInBounds_toArray, List.set_cons_zero, List.set_cons_succ]
                            refine takeD 8 129 (.bool false) (by exact rfl) rfl (by kernel_rfl) (by kernel_rfl) (by kernel_rfl) (fun _ _ _ h => h) (Or.inl ⟨by rfl, ?_⟩) (by assumption) ?_
                            · intro wq hS
                              go_simp
                            try simp only [Act.put, List.setIfInBounds_toArray, List.set_cons_zero, List.set_cons_succ]
                            refine takeD 9 130 (.slice (some ⟨Q, 0, none⟩) k k) (by exact rfl) rfl (by kernel_rfl) (by kernel_rfl) (by kernel_rfl) (fun _ _ _ h => h) (Or.inl ⟨by rfl, ?_⟩) (by assumption) ?_
                            · intro wq hS
                              go_simp
                            try simp only [Act.put, List.setIfInBounds_toArray, List.set_cons_zero, List.set_cons_succ]
                            refine takeD 10 131 (.int .i64 (j : Int)) (by exact rfl) rfl (by kernel_rfl) (by kernel_rfl) (by kernel_rfl) (fun _ _ _ h => h) (Or.inl ⟨by rfl, ?_⟩) (by assumption) ?_
                            · intro wq hS
                              go_simp
                            try simp only [Act.put, List.setIfInBounds_toArray, List.set_cons_zero, List.set_cons_succ]
                            refine takeD 11 132 (.pointer (some ⟨Q, j, none⟩)) (by exact rfl) rfl (by kernel_rfl) (by kernel_rfl) (by kernel_rfl) (fun _ _ _ h => h) (Or.inl ⟨by rfl, ?_⟩) (by assumption) ?_
                            · intro wq hS
                              go_simp
                            try simp only [Act.put, List.setIfInBounds_toArray, List.set_cons_zero, List.set_cons_succ]
                            refine takeD 12 133 (.slice (some aj) nj cj) (by exact rfl) rfl (by kernel_rfl) (by kernel_rfl) (by kernel_rfl) (fun _ _ _ h => h) (Or.inl ⟨by rfl, ?_⟩) (by assumption) ?_
                            · intro wq hS
                              have h0 := HCJ.out wq hS
                              go_simp
                            try simp only [Act.put, List.setIfInBounds_toArray, List.set_cons_zero, List.set_cons_succ]
                            refine takeD 13 134 (.slice (some ⟨Q, 0, none⟩) k k) (by exact rfl) rfl (by kernel_rfl) (by kernel_rfl) (by kernel_rfl) (fun _ _ _ h => h) (Or.inl ⟨by rfl, ?_⟩) (by assumption) ?_
                            · intro wq hS
                              go_simp
                            try simp only [Act.put, List.setIfInBounds_toArray, List.set_cons_zero, List.set_cons_succ]
                            refine takeD 14 135 (.int .i64 (y : Int)) (by exact rfl) rfl (by kernel_rfl) (by kernel_rfl) (by kernel_rfl) (fun _ _ _ h => h) (Or.inl ⟨by rfl, ?_⟩) (by assumption) ?_
                            · intro wq hS
                              go_simp
                            try simp only [Act.put, List.setIfInBounds_toArray, List.set_cons_zero, List.set_cons_succ]
                            refine takeD 15 136 (.pointer (some ⟨Q, y, none⟩)) (by exact rfl) rfl (by kernel_rfl) (by kernel_rfl) (by kernel_rfl) (fun _ _ _ h => h) (Or.inl ⟨by rfl, ?_⟩) (by assumption) ?_
                            · intro wq hS
                              go_simp
                            try simp only [Act.put, List.setIfInBounds_toArray, List.set_cons_zero, List.set_cons_succ]
                            refine takeD 16 137 (vy) (by exact rfl) rfl (by kernel_rfl) (by kernel_rfl) (by kernel_rfl) (fun _ _ _ h => h) (Or.inl ⟨by rfl, ?_⟩) (by assumption) ?_
                            · intro wq hS
                              have h0 := HCY.out wq hS
                              go_simp
                            try simp only [Act.put, List.setIfInBounds_toArray, List.set_cons_zero, List.set_cons_succ]
                            refine wpAnyH_ready (rs := [17]) (by kernel_rfl) (by simp) ?_
                            refine AllReadyH.cons (by exact rfl) (fun K hK => ?_) AllReadyH.nil
                            go_simp
                            refine (compare_ok _ _ (pr sz t W j) (pr sz t W y) _ (NJ.out.step (bel_drop hHeld)) (NY.out.step (bel_drop hHeld))).mono ?_
                            rintro e w10 ⟨rfl, b10⟩
                            rw [ecmp]
                            have hH := (show Below w9.heap.size w9 w10 from hHeld.trans (b10.mono hHeld.size))
                            clear b10 hHeld
                            go_wp2_with fail
                            refine hK.out _ _ hH (fun hHeld => ?_)
                            clear hH
                            try simp only [Act.put, List.setIfInBounds_toArray, List.set_cons_zero, List.set_cons_succ]
                            clear hK K
                            refine takeD 18 139 (.bool true) (by exact rfl) rfl (by kernel_rfl) (by kernel_rfl) (by kernel_rfl) (fun _ _ _ h => h) (Or.inl ⟨by rfl, ?_⟩) (by assumption) ?_
                            · intro wq hS
                              go_simp
                            try simp only [Act.put, List.setIfInBounds_toArray, List.set_cons_zero, List.set_cons_succ]
                            refine takeD 19 140 (.bool true) (by exact rfl) rfl (by kernel_rfl) (by kernel_rfl) (by kernel_rfl) (fun _ _ _ h => h) (Or.inl ⟨by rfl, ?_⟩) (by assumption) ?_
                            · intro wq hS
                              go_simp
                            try simp only [Act.put, List.setIfInBounds_toArray, List.set_cons_zero, List.set_cons_succ]
                            refine takeD 20 141 (.bool true) (by exact rfl) rfl (by kernel_rfl) (by kernel_rfl) (by kernel_rfl) (fun _ _ _ h => h) (Or.inl ⟨by rfl, ?_⟩) (by assumption) ?_
                            · intro wq hS
                              go_simp
                            try simp only [Act.put, List.setIfInBounds_toArray, List.set_cons_zero, List.set_cons_succ]
                            refine wpAnyH_done (by kernel_rfl) ?_ _
                            refine NoPanic.normal ?_
                            have HH := (show Hid _ from hHeld)
                            clear hHeld BZ HCJ VQ_9 ecmp
                            go_wp2_with fail
                            exact ⟨⟨j + 1, j, by omega, by go_num, rfl, HN2.out, HH.out⟩, by simp [intOf]; omega⟩
                          · have HN2 : Hid (Best (pr sz t W) (rvk RV g q) (j + 1) (y : Int)) := HBE.out.stay hr
                            obtain ⟨z, ecmp, hz0⟩ : ∃ z : Int, cmpN (pr sz t W j) (pr sz t W y) = z ∧ ¬ 0 < z := by
                              refine ⟨_, rfl, ?_⟩
                              unfold cmpN
                              by_cases h1 : pr sz t W j < pr sz t W y
                              · rw [if_pos h1]; decide
                              · rw [if_neg h1, if_neg hr]; decide
                            clear hr HBE
                            go_upto_region 37 with fail
                            refine wp_region_noPanic ?_
                            refine wp_region_held_drew (S := fun w' => Below w9.heap.size w9 w') (by kernel_rfl) BZ.out.drew (fun hHeld => ?_)
                            refine takeD 0 121 (.slice (some ⟨Q, 0, none⟩) k k) (by exact rfl) rfl (by kernel_rfl) (by kernel_rfl) (by kernel_rfl) (fun _ _ _ h => h) (Or.inl ⟨by rfl, ?_⟩) (by assumption) ?_
                            · intro wq hS
                              go_simp
                            try simp only [Act.put, List.setIfInBounds_toArray, List.set_cons_zero, List.set_cons_succ]
                            refine takeD 1 122 (.int .i64 (j : Int)) (by exact rfl) rfl (by kernel_rfl) (by kernel_rfl) (by kernel_rfl) (fun _ _ _ h => h) (Or.inl ⟨by rfl, ?_⟩) (by assumption) ?_
                            · intro wq hS
                              go_simp
                            try simp only [Act.put, List.setIfInBounds_toArray, List.set_cons_zero, List.set_cons_succ]
                            refine takeD 2 123 (.pointer (some ⟨Q, j, none⟩)) (by exact rfl) rfl (by kernel_rfl) (by kernel_rfl) (by kernel_rfl) (fun _ _ _ h => h) (Or.inl ⟨by rfl, ?_⟩) (by assumption) ?_
                            · intro wq hS
                              go_simp
                            try simp only [Act.put, List.setIfInBounds_toArray, List.set_cons_zero, List.set_cons_succ]
                            refine takeD 3 124 (.slice (some aj) nj cj) (by exact rfl) rfl (by kernel_rfl) (by kernel_rfl) (by kernel_rfl) (fun _ _ _ h => h) (Or.inl ⟨by rfl, ?_⟩) (by assumption) ?_
                            · intro wq hS
                              have h0 := HCJ.out wq hS
                              go_simp
                            try simp only [Act.put, List.setIfInBounds_toArray, List.set_cons_zero, List.set_cons_succ]
                            refine takeD 4 125 (.bool true) (by exact rfl) rfl (by kernel_rfl) (by kernel_rfl) (by kernel_rfl) (fun _ _ _ h => h) (Or.inl ⟨by rfl, ?_⟩) (by assumption) ?_
                            · intro wq hS
                              go_simp
                            try simp only [Act.put, List.setIfInBounds_toArray, List.set_cons_zero, List.set_cons_succ]
                            refine takeD 5 126 (.bool true) (by exact rfl) rfl (by kernel_rfl) (by kernel_rfl) (by kernel_rfl) (fun _ _ _ h => h) (Or.inl ⟨by rfl, ?_⟩) (by assumption) ?_
                            · intro wq hS
                              go_simp
                            try simp only [Act.put, List.setIfInBounds_toArray, List.set_cons_zero, List.set_cons_succ]
                            refine takeD 6 127 (.int .i64 (y : Int)) (by exact rfl) rfl (by kernel_rfl) (by kernel_rfl) (by kernel_rfl) (fun _ _ _ h => h) (Or.inl ⟨by rfl, ?_⟩) (by assumption) ?_
                            · intro wq hS
                              go_simp
                            try simp only [Act.put, List.setIfInBounds_toArray, List.set_cons_zero, List.set_cons_succ]
                            refine takeD 7 128 (.bool false) (by exact rfl) rfl (by kernel_rfl) (by kernel_rfl) (by kernel_rfl) (fun _ _ _ h => h) (Or.inl ⟨by rfl, ?_⟩) (by assumption) ?_
                            · intro wq hS
                              go_simp
                            try simp only [Act.put, List.setIfInBounds_toArray, List.set_cons_zero, List.set_cons_succ]
                            refine takeD 8 129 (.bool false) (by exact rfl) rfl (by kernel_rfl) (by kernel_rfl) (by kernel_rfl) (fun _ _ _ h => h) (Or.inl ⟨by rfl, ?_⟩) (by assumption) ?_
                            · intro wq hS
                              go_simp
                            try simp only [Act.put, List.setIfInBounds_toArray, List.set_cons_zero, List.set_cons_succ]
                            refine takeD 9 130 (.slice (some ⟨Q, 0, none⟩) k k) (by exact rfl) rfl (by kernel_rfl) (by kernel_rfl) (by kernel_rfl) (fun _ _ _ h => h) (Or.inl ⟨by rfl, ?_⟩) (by assumption) ?_
                            · intro wq hS
                              go_simp
                            try simp only [Act.put, List.setIfInBounds_toArray, List.set_cons_zero, List.set_cons_succ]
                            refine takeD 10 131 (.int .i64 (j : Int)) (by exact rfl) rfl (by kernel_rfl) (by kernel_rfl) (by kernel_rfl) (fun _ _ _ h => h) (Or.inl ⟨by rfl, ?_⟩) (by assumption) ?_
                            · intro wq hS
                              go_simp
                            try simp only [Act.put, List.setIfInBounds_toArray, List.set_cons_zero, List.set_cons_succ]
                            refine takeD 11 132 (.pointer (some ⟨Q, j, none⟩)) (by exact rfl) rfl (by kernel_rfl) (by kernel_rfl) (by kernel_rfl) (fun _ _ _ h => h) (Or.inl ⟨by rfl, ?_⟩) (by assumption) ?_
                            · intro wq hS
                              go_simp
                            try simp only [Act.put, List.setIfInBounds_toArray, List.set_cons_zero, List.set_cons_succ]
                            refine takeD 12 133 (.slice (some aj) nj cj) (by exact rfl) rfl (by kernel_rfl) (by kernel_rfl) (by kernel_rfl) (fun _ _ _ h => h) (Or.inl ⟨by rfl, ?_⟩) (by assumption) ?_
                            · intro wq hS
                              have h0 := HCJ.out wq hS
                              go_simp
                            try simp only [Act.put, List.setIfInBounds_toArray, List.set_cons_zero, List.set_cons_succ]
                            refine takeD 13 134 (.slice (some ⟨Q, 0, none⟩) k k) (by exact rfl) rfl (by kernel_rfl) (by kernel_rfl) (by kernel_rfl) (fun _ _ _ h => h) (Or.inl ⟨by rfl, ?_⟩) (by assumption) ?_
                            · intro wq hS
                              go_simp
                            try simp only [Act.put, List.setIfInBounds_toArray, List.set_cons_zero, List.set_cons_succ]
                            refine takeD 14 135 (.int .i64 (y : Int)) (by exact rfl) rfl (by kernel_rfl) (by kernel_rfl) (by kernel_rfl) (fun _ _ _ h => h) (Or.inl ⟨by rfl, ?_⟩) (by assumption) ?_
                            · intro wq hS
                              go_simp
                            try simp only [Act.put, List.setIfInBounds_toArray, List.set_cons_zero, List.set_cons_succ]
                            refine takeD 15 136 (.pointer (some ⟨Q, y, none⟩)) (by exact rfl) rfl (by kernel_rfl) (by kernel_rfl) (by kernel_rfl) (fun _ _ _ h => h) (Or.inl ⟨by rfl, ?_⟩) (by assumption) ?_
                            · intro wq hS
                              go_simp
                            try simp only [Act.put, List.setIfInBounds_toArray, List.set_cons_zero, List.set_cons_succ]
                            refine takeD 16 137 (vy) (by exact rfl) rfl (by kernel_rfl) (by kernel_rfl) (by kernel_rfl) (fun _ _ _ h => h) (Or.inl ⟨by rfl, ?_⟩) (by assumption) ?_
                            · intro wq hS
                              have h0 := HCY.out wq hS
                              go_simp
                            try simp only [Act.put, List.setIfInBounds_toArray, List.set_cons_zero, List.set_cons_succ]
                            refine wpAnyH_ready (rs := [17]) (by kernel_rfl) (by simp) ?_
                            refine AllReadyH.cons (by exact rfl) (fun K hK => ?_) AllReadyH.nil
                            go_simp
                            refine (compare_ok _ _ (pr sz t W j) (pr sz t W y) _ (NJ.out.step (bel_drop hHeld)) (NY.out.step (bel_drop hHeld))).mono ?_
                            rintro e w10 ⟨rfl, b10⟩
                            rw [ecmp]
                            have hH := (show Below w9.heap.size w9 w10 from hHeld.trans (b10.mono hHeld.size))
                            clear b10 hHeld
                            go_wp2_with fail
                            refine hK.out _ _ hH (fun hHeld => ?_)
                            clear hH
                            try simp only [Act.put, List.setIfInBounds_toArray, List.set_cons_zero, List.set_cons_succ]
                            clear hK K
                            refine takeD 18 139 (.bool false) (by exact rfl) rfl (by kernel_rfl) (by kernel_rfl) (by kernel_rfl) (fun _ _ _ h => h) (Or.inl ⟨by rfl, ?_⟩) (by assumption) ?_
                            · intro wq hS
                              go_simp
                            try simp only [Act.put, List.setIfInBounds_toArray, List.set_cons_zero, List.set_cons_succ]
                            refine takeD 19 140 (.bool false) (by exact rfl) rfl (by kernel_rfl) (by kernel_rfl) (by kernel_rfl) (fun _ _ _ h => h) (Or.inl ⟨by rfl, ?_⟩) (by assumption) ?_
                            · intro wq hS
                              go_simp
                            try simp only [Act.put, List.setIfInBounds_toArray, List.set_cons_zero, List.set_cons_succ]
                            refine takeD 20 141 (.bool false) (by exact rfl) rfl (by kernel_rfl) (by kernel_rfl) (by kernel_rfl) (fun _ _ _ h => h) (Or.inl ⟨by rfl, ?_⟩) (by assumption) ?_
                            · intro wq hS
                              go_simp
                            try simp only [Act.put, List.setIfInBounds_toArray, List.set_cons_zero, List.set_cons_succ]
                            refine wpAnyH_done (by kernel_rfl) ?_ _
                            refine NoPanic.normal ?_
                            have HH := (show Hid _ from hHeld)
                            clear hHeld BZ HCJ VQ_9 ecmp hz0
                            go_wp2_with fail
                            exact ⟨⟨j + 1, y, by omega, by go_num, rfl, HN2.out, HH.out⟩, by simp [intOf]; omega⟩
            · have hk1 : (k : Int) < (i : Int) := by omega
              have hk2 : k < i := by omega
              have HK2 := (show Hid _ from hk2)
              obtain ⟨a0, c0', ea, h3⟩ := (HW_5.out.step BB.out).form
              obtain ⟨b, off, eb, hb0, hx⟩ := h3 (by omega)
              subst eb
              injection ea with ea1 ea2 ea3
              subst ea1
              subst ea3
              have cw := hx k hk2
              clear hx h3 ea2
              obtain ⟨x, hxe⟩ : ∃ x, W k = x := ⟨_, rfl⟩
              rw [hxe] at cw
              have HXE := (show Hid _ from hxe)
              have hx1 : (x : Int) ≤ 1000000000 := by have := HWB.out k hk2; omega
              clear hxe
              go_wp2_with fail
              clear cw
              refine (word_ok (x : Int) _ (by omega) (by omega)).mono ?_
              rintro e w7 ⟨⟨u7, rfl, n7⟩, b7⟩
              rw [Int.toNat_natCast] at n7
              have N7 := (show Hid _ from n7)
              have BB_7 := (show Hid _ from BB.out.trans (b7.mono BB.out.size))
              have BC_7 := (show Hid _ from b7)
              clear n7 b7
              go_wp2_with fail
              refine (times_ok _ u7 sz x _ (NS_5.out.step BB_7.out) N7.out (md_small (by omega)) (md_small (by omega))).mono ?_
              rintro e w8 ⟨⟨u8', rfl, n8⟩, b8⟩
              have N8 := (show Hid _ from n8)
              have BB_8 := (show Hid _ from BB_7.out.trans (b8.mono BB_7.out.size))
              have BC_8 := (show Hid _ from BC_7.out.trans (b8.mono BC_7.out.size))
              clear n8 b8 N7 BB_7 BC_7
              go_wp2_with fail
              refine (lquo_ok u8' _ (sz * x) t _ N8.out (NT_5.out.step BB_8.out) (md_big sz x (by omega) (by omega)) (md_small (by omega)) HT0.out).mono ?_
              rintro e w9 ⟨⟨uq, ur, rfl, nq, nr⟩, b9⟩
              have NQ := (show Hid _ from nq)
              have NRR := (show Hid _ from nr)
              have BB_9 := (show Hid _ from BB_8.out.trans (b9.mono BB_8.out.size))
              have BC_9 := (show Hid _ from BC_8.out.trans (b9.mono BC_8.out.size))
              clear nq nr b9 N8 BB_8 BC_8
              obtain ⟨q, hq⟩ : ∃ q, sz * x / t = q := ⟨_, rfl⟩
              have HQE : Hid (pu sz t W k = q) := by show _ = _; simp only [pu]; rw [HXE.out, hq]
              have HRE : Hid (pr sz t W k = sz * x % t) := by show _ = _; simp only [pr]; rw [HXE.out]
              rw [hq] at NQ
              have hq1 : (q : Int) ≤ (sz : Int) := by have := HPU.out k hk2; have := HQE.out; omega
              clear hq
              obtain ⟨ra, rn, rc, rfl⟩ := NRR.out.form
              go_wp2_with fail
              refine (fits_yes uq q _ NQ.out (by omega)).mono ?_
              rintro e wx ⟨rfl, hqq⟩
              obtain rfl := hqq.symm
              have VM_9 := (show Hid _ from VM_5.out.step BB_9.out)
              have VO_9 := (show Hid _ from VO.out.step BC_9.out)
              have VQ_9 := (show Hid _ from VQ.out.step BC_9.out)
              have NL_9 := (show Hid _ from NL.out.step BC_9.out)
              have NR_9 : Hid (∀ j, j < k → Nm w9 (RV j) (pr sz t W j)) := fun j hj => (NR.out j hj).step BC_9.out
              clear VO VQ NL NR BC_9 BB
              have m0 := VM_9.out.cell 0 (v := .int .i64 c) rfl
              have o0 := VO_9.out.cell (k * 2) (mo_a _ _ hk2)
              have o1 := VO_9.out.cell (k * 2 + 1) (mo_b _ _ hk2)
              have g0 := VO_9.out.free (k * 2)
              have g1 := VO_9.out.free (k * 2 + 1)
              have VO_a := (VO_9.out.set (k * 2) (.int .i64 c)).set (k * 2 + 1) (.int .i64 (q : Int))
              have VQ_a := (VQ_9.out.set_other (q := M) (by have := HQM.out; omega) (k * 2) (.int .i64 c)).set_other (q := M) (by have := HQM.out; omega) (k * 2 + 1) (.int .i64 (q : Int))
              have q0 := VQ_a.cell k (vrow_get _ hk2)
              have f0 := VQ_a.free k
              have VO_b := (show Hid _ from VO_a.set_other (q := Q) (by have := HQM.out; omega) k (.slice ra rn rc))
              have VQ_b := (show Hid _ from VQ_a.set k (.slice ra rn rc))
              have ST : ∀ (v : Value) (y : Nat), Nm w9 v y → Nm (((w9.setCell ⟨M, k * 2, none⟩ (.int .i64 c)).setCell ⟨M, k * 2 + 1, none⟩ (.int .i64 (q : Int))).setCell ⟨Q, k, none⟩ (.slice ra rn rc)) v y := fun v y h =>
                ((h.store VO_9.out.blk (by decide) _ _).store (VO_9.out.set (k * 2) (.int .i64 c)).blk (by decide) _ _).store VQ_a.blk (by decide) _ _
              have NQ_b := (show Hid _ from ST _ _ NQ.out)
              have NL_b := (show Hid _ from ST _ _ NL_9.out)
              have NR_b : Hid (∀ j, j < k → Nm (((w9.setCell ⟨M, k * 2, none⟩ (.int .i64 c)).setCell ⟨M, k * 2 + 1, none⟩ (.int .i64 (q : Int))).setCell ⟨Q, k, none⟩ (.slice ra rn rc)) (RV j) (pr sz t W j)) := fun j hj => ST _ _ (NR_9.out j hj)
              have NN_b := (show Hid _ from ST _ _ NRR.out)
              have BB_b := (show Hid _ from ((BB_9.out.setCell (p := ⟨M, k * 2, none⟩) (by have := HM.out; show _ ≤ M; omega) (.int .i64 c)).setCell (p := ⟨M, k * 2 + 1, none⟩) (by have := HM.out; show _ ≤ M; omega) (.int .i64 (q : Int))).setCell (p := ⟨Q, k, none⟩) (by have := HM.out; have := HQM.out; show _ ≤ Q; omega) (.slice ra rn rc))
              clear ST VO_a VQ_a NR_9 NL_9 VM_9 NQ NRR BB_9
              go_wp2_with fail
              clear m0 o0 o1 g0 g1 q0 f0 VO_9 VQ_9
              generalize ((w9.setCell ⟨M, k * 2, none⟩ (.int .i64 c)).setCell ⟨M, k * 2 + 1, none⟩ (.int .i64 (q : Int))).setCell ⟨Q, k, none⟩ (.slice ra rn rc) = w10 at VO_b VQ_b NQ_b NL_b NR_b NN_b BB_b ⊢
              refine (minus_ok lv uq _ q _ NL_b.out NQ_b.out ?_).mono ?_
              · have h1 := HUL.out (k + 1) (by omega)
                rw [sm_succ, HQE.out] at h1; omega
              rintro e w11 ⟨⟨u11, rfl, n11⟩, b11⟩
              have N11 := (show Hid _ from n11)
              have B11 := (show Hid _ from b11)
              clear n11 b11
              go_wp2_with fail
              refine ⟨⟨k + 1, u11, fun j => if j = k then .slice ra rn rc else RV j, by omega, by go_num, rfl, ?_, ?_, ?_, ?_, ?_⟩, by simp [intOf]; omega⟩
              · have h := N11.out
                rw [sm_succ, HQE.out, ← Nat.sub_sub]; exact h
              · have h := VO_b.out.step B11.out
                rw [mo_set _ _ (fun j => if j < k + 1 then c else 0) (fun j => if j < k + 1 then (pu sz t W j : Int) else 0) HK2.out c (q : Int) (fun j hj => by
                  by_cases e : j = k
                  · rw [if_pos e, if_pos (by omega)]
                  · rw [if_neg e]
                    by_cases e2 : j < k
                    · rw [if_pos e2, if_pos (by omega)]
                    · rw [if_neg e2, if_neg (by omega)]) (fun j hj => by
                  by_cases e : j = k
                  · rw [if_pos e, if_pos (by omega), e, HQE.out]
                  · rw [if_neg e]
                    by_cases e2 : j < k
                    · rw [if_pos e2, if_pos (by omega)]
                    · rw [if_neg e2, if_neg (by omega)])] at h
                exact h
              · have h := VQ_b.out.step B11.out
                rw [vrow_set _ (fun j => if j < k + 1 then (if j = k then .slice ra rn rc else RV j) else .slice none 0 0) HK2.out (.slice ra rn rc) (fun j hj => by
                  by_cases e : j = k
                  · rw [if_pos e, if_pos e, if_pos (by omega)]
                  · rw [if_neg e, if_neg e]
                    by_cases e2 : j < k
                    · rw [if_pos e2, if_pos (by omega)]
                    · rw [if_neg e2, if_neg (by omega)])] at h
                exact h
              · intro j hj
                by_cases e : j = k
                · subst e
                  simp only [if_pos]
                  rw [HRE.out]
                  exact NN_b.out.step B11.out
                · simp only [if_neg e]
                  exact (NR_b.out j (by omega)).step B11.out
              · exact BB_b.out.trans (B11.out.mono BB_b.out.size)
          
        · have hi1 : (i : Int) < (n : Int) := by omega
          have hi2 : i < n := by omega
          obtain ⟨a0, c0', ea, h3⟩ := (HW_2.out.step BB.out).form
          obtain ⟨b, off, eb, hb0, hx⟩ := h3 (by omega)
          subst eb
          injection ea with ea1 ea2 ea3
          subst ea1
          subst ea3
          have cw := hx i hi2
          clear hx h3 ea2
          obtain ⟨x, hxe⟩ : ∃ x, W i = x := ⟨_, rfl⟩
          rw [hxe] at cw
          have HXE := (show Hid _ from hxe)
          have hx1 : (x : Int) ≤ 1000000000 := by
            have h1 := HB.out i (by rw [HN.out]; exact hi2)
            have h2 := HW.out i (by rw [HN.out]; exact hi2)
            omega
          clear hxe
          go_wp2_with fail
          clear cw
          refine (word_ok (x : Int) _ (by omega) (by omega)).mono ?_
          rintro e w4 ⟨⟨u4, rfl, n4⟩, b4⟩
          rw [Int.toNat_natCast] at n4
          have N4 := (show Hid _ from n4)
          have NN_4 := (show Hid _ from NN.out.step b4)
          have BB_4 := (show Hid _ from BB.out.trans (b4.mono BB.out.size))
          clear n4 b4 NN BB
          go_wp2_with fail
          refine (plus_ok u u4 (sm W i) x _ NN_4.out N4.out (md_small ?_) (md_small (by omega))).mono ?_
          · have h1 := sm_bound (f := W) (n := i) (t := 1000000000) (fun j hj => by
              have h1 := HB.out j (by rw [HN.out]; omega)
              have h2 := HW.out j (by rw [HN.out]; omega)
              omega)
            omega
          rintro e w5 ⟨⟨u5, rfl, n5⟩, b5⟩
          have N5 := (show Hid _ from n5)
          have BB_5 := (show Hid _ from BB_4.out.trans (b5.mono BB_4.out.size))
          clear n5 b5 NN_4 N4 BB_4
          go_wp2_with fail
          refine ⟨⟨i + 1, u5, by omega, by go_num, rfl, ?_, BB_5.out⟩, by simp [intOf]; omega⟩
          rw [sm_succ, HXE.out]; exact N5.out
    · have hi1 : (i : Int) < (n : Int) := by omega
      obtain ⟨va', vc', ea, _, _, h3⟩ := HI.out.form
      obtain ⟨b, off, eb, hb0, hx⟩ := h3 (by rw [HN.out]; omega)
      subst eb
      rw [HN.out] at ea hx
      injection ea with ea1 ea2 ea3
      subst ea1
      subst ea3
      have cw := hx i (by omega)
      clear hx h3
      obtain ⟨z, hz⟩ : ∃ z, zs.getD i 0 = z := ⟨_, rfl⟩
      rw [hz] at cw
      have hg := HB.out i (by rw [HN.out]; omega)
      rw [hz] at hg
      have g1 : 0 ≤ z := hg.1
      have g2 : z ≤ 1000000000 := hg.2
      clear hg hz
      go_wp2_with fail
      refine ⟨⟨i + 1, by omega, by go_num⟩, by simp [intOf]; omega⟩
end Go.Proofs.YtbgglghapjfdeaaDoor
