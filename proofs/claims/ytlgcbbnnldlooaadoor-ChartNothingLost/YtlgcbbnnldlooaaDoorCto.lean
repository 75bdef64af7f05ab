/- ChartNothingLost: the law's walk. -/
import Derived.Test.YtlgcbbnnldlooaaDoorCtn
namespace Go.Proofs.YtlgcbbnnldlooaaDoor
open Go.RowKit Go.Maps
set_option linter.unusedVariables false

set_option maxHeartbeats 8000000 in
set_option maxRecDepth 100000 in
theorem lost_walk (v : Value) (es : List (List Ln)) (w : World) (h : EIn w v es) (Lm : Lim w) :
    Calls Tryd.prog 6 #[v] w fun e w' => e = .returned (.bool true) ∧ Below w.heap.size w w' := by
  obtain ⟨N, hN⟩ : ∃ N, N = es.length := ⟨_, rfl⟩
  obtain ⟨ta, tc, rfl, g1, g2⟩ : ∃ a c, v = .slice a N c ∧ N ≤ c ∧ c ≤ 9223372036854775807 := by obtain ⟨a, c, e, h1, h2, _⟩ := h; exact ⟨a, c, by rw [hN]; exact e, by rw [hN]; exact h1, h2⟩
  have HE := (show Hid _ from h)
  have HNE := (show Hid _ from hN)
  have HLm := (show Hid _ from Lm)
  clear h hN Lm
  go_enter Tryd.func6, Tryd.ntmps6
  go_wp2_with fail
  refine (cawake_ok _ HLm.out).mono ?_
  rintro e w1 ⟨rfl, b1⟩
  have HB1 := (show Hid _ from b1)
  clear b1
  go_wp2_with fail
  refine (cnew_ok _).mono ?_
  rintro e w2 ⟨⟨p, m, rfl, hp, hm, L2⟩, b2⟩
  have HPM : Hid (w.heap.size ≤ p ∧ w.heap.size ≤ m) := ⟨Nat.le_trans HB1.out.size hp, Nat.le_trans HB1.out.size hm⟩
  have HL2 := (show Hid _ from L2)
  have HB2 := (show Hid _ from HB1.out.trans (b2.mono HB1.out.size))
  clear hp hm L2 b2 HB1
  go_upto_block 0 with fail
  go_cut [] (fun wx => Hid (∃ b n, Led wx p m b n ∧ (∀ u, 0 ≤ u → u ≤ 3 → tsum b u 32 = 0)) ∧ Hid (Below w.heap.size w wx))
  case first =>
    go_wp2_with fail
    go_loopw [19] (fun i wr => ∃ k : Nat, k ≤ N ∧ k ≤ 60 ∧ i = .int .i64 (k : Int) ∧ Hid (∃ b n, Led wr p m b n ∧ (∀ u, 0 ≤ u → u ≤ 3 → tsum b u 32 = 0) ∧ 0 ≤ n ∧ n ≤ (k : Int)) ∧ Hid (Below w.heap.size w wr)) (fun i _ => N - (intOf i).toNat)
    case atStart => exact ⟨0, by omega, by omega, rfl, ⟨_, 0, HL2.out, fun u _ _ => tsum_zero u 32, by omega, by omega⟩, HB2.out⟩
    case round =>
      obtain ⟨k, hk, hk60, rfl, HI, HB⟩ := hrel
      by_cases hkn : k = N
      · subst hkn
        go_wp2_with fail
        go_meet
        obtain ⟨b, n, L, T, _⟩ := HI.out
        exact ⟨⟨b, n, L, T⟩, HB.out⟩
      have hk' : k < N := by omega
      obtain ⟨e, he⟩ : ∃ e, es[k]? = some e := ⟨es[k]'(by have := HNE.out; omega), by simp⟩
      obtain ⟨bb, off, u, ea, hu, hl⟩ := (HE.out.step HB.out).at k e he
      cases ea
      obtain ⟨ua, uc, rfl, u1, u2, _⟩ := hl.sl.form
      have d1 : (0 : Int) ≤ (k : Int) := by omega
      have d2 : (k : Int) < (N : Int) := by omega
      have HLI := (show Hid _ from hl)
      clear hl he
      by_cases h60 : (60 : Int) ≤ (k : Int)
      · go_wp2_with fail
        go_meet
        obtain ⟨b, n, L, T, _⟩ := HI.out
        exact ⟨⟨b, n, L, T⟩, HB.out⟩
      obtain ⟨b, n, L, T, n0, nk⟩ := HI.out
      have HL := (show Hid _ from L)
      have HT := (show Hid _ from T)
      have HN0 : Hid (0 ≤ n ∧ n ≤ (k : Int)) := ⟨n0, nk⟩
      clear L T n0 nk HI
      have BA := (Below.refl wr.heap.size wr).alloc (Nat.le_refl _) (.cells #[] 39)
      have HBA := (show Hid _ from BA)
      have HLA := (show Hid _ from HLI.out.step BA)
      have HOW := (show Hid _ from own_made LN wr)
      clear BA
      go_wp2_with (at_builtin; refine appS (K := LN) rfl _ _ rfl wr.heap.size [] e _ _ (by rfl) (by rfl) HOW.out HLA.out.sl HLA.out.no (by simp) (by have := HLI.out.sz; simp only [List.length_nil]; show (0 + e.length) * 40 ≤ _; omega) (by have := HLI.out.sz; simp only [List.length_nil]; omega) ?_; intro v3 w3 o3 b3 g3)
      have HB3 := (show Hid _ from HBA.out.trans b3)
      have HO3 := (show Hid _ from o3.sl)
      clear o3 b3 g3 HBA HLA HOW
      refine (post_ok p m b n _ e _ (HL.out.step HB3.out) (by have := HO3.out; simpa using this) HLI.out.wf ((HLm.out.step HB.out).step HB3.out) (by have := HN0.out; omega)).mono ?_
      rintro ee w4 ⟨rfl, L4, u4⟩
      have HL4 := (show Hid _ from L4)
      have HB4 := (show Hid _ from (HB.out.trans (HB3.out.mono HB.out.size)).trans (u4.below (by have := HB.out.size; have := HB3.out.size; omega) (fun i hi => by have := HPM.out; omega)))
      clear L4 u4 HB3 HO3
      go_wp2_with fail
      refine ⟨⟨k + 1, by omega, by omega, by go_num, ⟨_, _, HL4.out, fun u h0 h3 => by rw [pst_tsum b e h0 h3]; exact HT.out u h0 h3, ?_, ?_⟩, HB4.out⟩, by simp [intOf]; omega⟩
      · have := HN0.out; unfold pcnt; split <;> omega
      · have := HN0.out; unfold pcnt; split <;> omega
  obtain ⟨HI, HB⟩ := hcut
  obtain ⟨b, n, L, T⟩ := HI.out
  have HL := (show Hid _ from L)
  have HT := (show Hid _ from T)
  clear L T HI
  go_wp2_with fail
  go_loopw [32] (fun i wr => ∃ k : Nat, k ≤ 4 ∧ i = .int .i64 (k : Int) ∧ Hid (Led wr p m b n) ∧ Hid (Below w.heap.size w wr)) (fun i _ => 4 - (intOf i).toNat)
  case atStart => exact ⟨0, by omega, rfl, HL.out, HB.out⟩
  case round =>
    obtain ⟨k, hk, rfl, HLk, HBk⟩ := hrel
    by_cases h4 : k = 4
    · subst h4
      go_wp2_with fail
      go_ret
      exact ⟨rfl, HBk.out⟩
    have hk' : k < 4 := by omega
    have d1 : (k : Int) < 4 := by omega
    have htk := HT.out (k : Int) (by omega) (by omega)
    go_wp2_with fail
    refine (total_ok p m b n _ HLk.out (k : Int) (wi_yes (by omega) (by omega))).mono ?_
    rintro e w3 ⟨rfl, b3⟩
    rw [htk, show dv 0 12 = .agg #[.int .i64 0, .int .u64 0, .int .i64 12] by unfold dv; rw [dhi0, dlo0]]
    have HTK := (show Hid _ from htk)
    have HL3 := (show Hid _ from HLk.out.step b3)
    have HB3 := (show Hid _ from HBk.out.trans (b3.mono HBk.out.size))
    have HV7 := (show Hid _ from va_new w3 [.int .i64 0, .int .u64 0, .int .i64 12] 37)
    have BA := ((Below.refl w3.heap.size w3).alloc (Nat.le_refl _) (.cells #[.int .i64 0, .int .u64 0, .int .i64 12] 37)).alloc (by simp) (.cells #[.int .i64 0, .int .u64 0, .int .i64 12] 37)
    have HBA := (show Hid _ from BA)
    have HV7 := (show Hid _ from HV7.out.alloc (.cells #[.int .i64 0, .int .u64 0, .int .i64 12] 37))
    have V9 := va_new (w3.alloc (.cells #[.int .i64 0, .int .u64 0, .int .i64 12] 37)) [.int .i64 0, .int .u64 0, .int .i64 12] 37
    rw [World.size_alloc] at V9
    have HV9 := (show Hid _ from V9)
    clear b3 htk BA V9
    go_wp2_with fail
    refine (trial_ok p m b n _ (HL3.out.step HBA.out)).mono ?_
    rintro e w4 ⟨⟨v4, rfl, o4⟩, b4⟩
    have HL4 := (show Hid _ from (HL3.out.step HBA.out).step b4)
    have HB4 := (show Hid _ from (HB3.out.trans (HBA.out.mono HB3.out.size)).trans (b4.mono (by have := HB3.out.size; simp; omega)))
    have HW7 := (show Hid _ from HV7.out.step b4)
    have HW9 := (show Hid _ from HV9.out.step b4)
    have HQ : Hid (w.heap.size ≤ w3.heap.size) := HB3.out.size
    obtain ⟨la4, lc4, rfl, l1, l2⟩ := o4.form
    obtain ⟨t, ht⟩ : ∃ t, t = (trl b 32).length := ⟨_, rfl⟩
    rw [← ht] at l1 o4 ⊢
    have HO4 := (show Hid _ from o4)
    have HTL := (show Hid _ from ht)
    have HTB : Hid (t ≤ 32) := by rw [ht]; exact trl_len b 32
    have HGE : Hid (∀ g, Value.ownBlock (.slice la4 t lc4) = some g → w3.heap.size + 1 < g) := fun g hg => by have := o4.block g hg; simp at this; omega
    clear o4 b4 ht HV7 HV9 HBA HL3 HB3 HLk HBk
    generalize w3.heap.size = q at *
    have s0 : ssum ((trl b 32).take 0) (k : Int) = 0 := rfl
    have HS0 := (show Hid _ from s0)
    clear s0
    go_wp2_with fail
    go_loopw [45] (fun i wr => ∃ j : Nat, j ≤ t ∧ i = .int .i64 (j : Int) ∧ Hid (Led wr p m b n) ∧ Hid (Below w.heap.size w wr) ∧ Hid (VA wr q [.int .i64 0, .int .u64 0, .int .i64 12] 37) ∧ Hid (VA wr (q + 1) [.int .i64 (dhi (ssum ((trl b 32).take j) (k : Int))), .int .u64 (dlo (ssum ((trl b 32).take j) (k : Int))), .int .i64 12] 37) ∧ Hid (Own LN wr 0 (.slice la4 t lc4) (trl b 32))) (fun i _ => t - (intOf i).toNat)
    case atStart => exact ⟨0, by omega, rfl, HL4.out, HB4.out, HW7.out, by rw [HS0.out, dhi0, dlo0]; exact HW9.out, HO4.out.lower (Nat.zero_le _)⟩
    case round =>
      obtain ⟨j, hj, rfl, HLj, HBj, H7, H9, HO⟩ := hrel
      by_cases hjt : j = t
      · subst hjt
        have hs := ssum_trl b (k : Int) 32
        rw [HTK.out] at hs
        have h9 := H9.out
        rw [HTL.out, List.take_length, hs, dhi0, dlo0] at h9
        have c0 := H7.out.cell 0 (v := .int .i64 0) rfl
        have c1 := H7.out.cell 1 (v := .int .u64 0) rfl
        have c2 := H7.out.cell 2 (v := .int .i64 12) rfl
        have c3 := h9.cell 0 (v := .int .i64 0) rfl
        have c4 := h9.cell 1 (v := .int .u64 0) rfl
        have c5 := h9.cell 2 (v := .int .i64 12) rfl
        clear hs h9
        go_wp2_with fail
        exact ⟨⟨k + 1, by omega, by go_num, HLj.out, HBj.out⟩, by simp [intOf]; omega⟩
      have hj' : j < t := by omega
      obtain ⟨x, hx⟩ : ∃ x, (trl b 32)[j]? = some x := ⟨(trl b 32)[j]'(by have := HTL.out; omega), by simp⟩
      obtain ⟨bb, off, ee, hb, hc⟩ := HO.out.sl.at j x hx
      cases ee
      obtain ⟨x0, x1, hva, hnz, rfl⟩ := trl_mem (Nat.le_refl _) (List.mem_of_getElem? hx)
      have hsn := ssum_snoc ((trl b 32).take j) (lnOf x0 x1 (b x0 x1)) (k : Int)
      rw [← take_snoc hx, lnOf_cf] at hsn
      have hbd := ssum_bd (T := (trl b 32).take j) (fun y hy => by
        obtain ⟨c, u, hv, _, rfl⟩ := trl_mem (Nat.le_refl _) (List.mem_of_mem_take hy)
        rw [lnOf_cf]
        exact HL.out.rng c u hv) (k : Int)
      have hlj : (((trl b 32).take j).length : Int) * M36 ≤ 32 * M36 := Int.mul_le_mul_of_nonneg_right (by have := trl_len b 32; rw [List.length_take]; omega) (by decide)
      have hr := HL.out.rng x0 x1 hva
      obtain ⟨z, hz⟩ : ∃ z, z = b x0 x1 := ⟨_, rfl⟩
      obtain ⟨s, hs⟩ : ∃ s, s = ssum ((trl b 32).take j) (k : Int) := ⟨_, rfl⟩
      rw [← hz] at hc hr hsn
      rw [← hs] at hbd hsn H9
      have c0 : wr.cell? ⟨bb, off + j * 5, none⟩ = some (.int .i64 x0) := hc 0 _ rfl
      have c1 : wr.cell? ⟨bb, off + j * 5 + 1, none⟩ = some (.int .i64 x1) := hc 1 _ rfl
      have c2 : wr.cell? ⟨bb, off + j * 5 + 2, none⟩ = some (.int .i64 (dhi z)) := hc 2 _ rfl
      have c3 : wr.cell? ⟨bb, off + j * 5 + 3, none⟩ = some (.int .u64 (dlo z)) := hc 3 _ rfl
      have c4 : wr.cell? ⟨bb, off + j * 5 + 4, none⟩ = some (.int .i64 12) := hc 4 _ rfl
      have e1 : (0 : Int) ≤ (j : Int) := by omega
      have e2 : (j : Int) < (t : Int) := by omega
      have HAD : Hid (∀ w : World, Calls Tryd.prog 20 #[.agg #[.int .i64 (dhi s), .int .u64 (dlo s), .int .i64 12], .agg #[.int .i64 (dhi z), .int .u64 (dlo z), .int .i64 12]] w fun e w' => e = .returned (.tuple #[.agg #[.int .i64 (dhi (s + z)), .int .u64 (dlo (s + z)), .int .i64 12], .int .i64 0]) ∧ Below w.heap.size w w') := by
        intro w
        have et : tv s 12 z 12 = s + z := by unfold tv; simp
        have := add_yes s z 12 12 w (inr_big (by unfold M36 at *; omega)) (inr_big (by unfold M36 at *; omega)) (by decide) (by decide) (by rw [et]; exact inr_big (by unfold M36 at *; omega))
        rw [et] at this
        exact this
      have HSN := (show Hid _ from hsn)
      clear hc hb hx hva hnz hz hs hbd hlj hr hsn
      have BA := (Below.refl wr.heap.size wr).alloc (Nat.le_refl _) (.cells #[.int .i64 x0, .int .i64 x1, .int .i64 (dhi z), .int .u64 (dlo z), .int .i64 12] 39)
      have HBA := (show Hid _ from BA)
      clear BA
      have HSN' : Hid (ssum ((trl b 32).take (j + 1)) (k : Int) = s + if x1 = (k : Int) then z else 0) := HSN.out
      clear HSN
      by_cases hu : x1 = (k : Int)
      · have q1 : (x1 == (k : Int)) = true := by simpa using hu
        have h9 := H9.out.step HBA.out
        have f0 := h9.cell 0 (v := .int .i64 (dhi s)) rfl
        have f1 := h9.cell 1 (v := .int .u64 (dlo s)) rfl
        have f2 := h9.cell 2 (v := .int .i64 12) rfl
        have HU := (show Hid _ from hu)
        clear hu h9
        go_wp2_with fail
        refine (HAD.out _).mono ?_
        rintro ee w5 ⟨rfl, b5⟩
        have b5' := below_over b5
        have K7 := (show Hid _ from H7.out.step b5')
        have K9 := (show Hid _ from H9.out.step b5')
        have KO := (show Hid _ from HO.out.step b5')
        have KL := (show Hid _ from HLj.out.step b5')
        have KB := (show Hid _ from HBj.out.trans (b5'.mono HBj.out.size))
        clear b5 b5' c0 c1 c2 c3 c4 f0 f1 f2 H7 H9 HO HLj HBj HBA
        have BS := (Below.refl w5.heap.size w5).alloc (Nat.le_refl _) (.cells #[.int .i64 (dhi (s + z)), .int .u64 (dlo (s + z)), .int .i64 12] 37)
        have M9 := (show Hid _ from K9.out.step BS)
        have M7 := (show Hid _ from K7.out.step BS)
        have MO := (show Hid _ from KO.out.step BS)
        have ML := (show Hid _ from KL.out.step BS)
        have MB := (show Hid _ from KB.out.trans (BS.mono KB.out.size))
        have hpq : p ≠ q + 1 := by
          rintro rfl
          have h1 := KL.out.va.blk
          rw [K9.out.blk] at h1
          cases h1
        have HQ5 : Hid (p ≠ q + 1 ∧ m ≠ q + 1) := ⟨hpq, fun e => (K9.out.notM KL.out.map) e.symm⟩
        clear hpq
        clear BS K9 K7 KO KL KB
        go_wp2_with (refine stA rfl 37 _ _ rfl (q + 1) (by rfl) [.int .i64 (dhi s), .int .u64 (dlo s), .int .i64 12] [.int .i64 (dhi (s + z)), .int .u64 (dlo (s + z)), .int .i64 12] (by rfl) 37 M9.out infoDe rfl (dec_one _) ?_; intro w6 v6 u6)
        have U6 := u6.but
        refine ⟨⟨j + 1, by omega, by go_num, ML.out.but U6 HQ5.out.1 HQ5.out.2, MB.out.trans (U6.below MB.out.size (fun i (hi : i = q + 1) => by have := HQ.out; omega)), M7.out.but U6 (by omega), ?_, MO.out.but U6 (fun g hg (e : g = q + 1) => by have := HGE.out g hg; omega)⟩, by simp [intOf]; omega⟩
        rw [HSN'.out, if_pos HU.out]
        exact v6
      · have q1 : (x1 == (k : Int)) = false := by simpa using hu
        have HU := (show Hid _ from hu)
        clear hu
        go_wp2_with fail
        refine ⟨⟨j + 1, by omega, by go_num, HLj.out.step HBA.out, HBj.out.trans (HBA.out.mono HBj.out.size), H7.out.step HBA.out, ?_, HO.out.step HBA.out⟩, by simp [intOf]; omega⟩
        rw [HSN'.out, if_neg HU.out, Int.add_zero]
        exact H9.out.step HBA.out
end Go.Proofs.YtlgcbbnnldlooaaDoor
