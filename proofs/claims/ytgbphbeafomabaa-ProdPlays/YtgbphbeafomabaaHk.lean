/- prod: the walk of ProdPlays. -/
import Derived.Test.YtgbphbeafomabaaHj
import Derived.Deep.DeepCutAuto
import Derived.Deep.CutBlock
namespace Go.Proofs.Ytgbphbeafomabaa
open Go.RowKit Go.Shelf
set_option linter.unusedVariables false
set_option linter.unusedSimpArgs false

theorem infoA2 : (Try.prog.info? 47).map (·.size) = some 2 := by kernel_rfl
set_option maxRecDepth 100000 in
set_option maxHeartbeats 8000000 in
theorem plays_walk (v : Value) (xs : List PV) (u : Value) (qs : List (Int × Int)) (w : World) (h : Pvs w v xs) (hu : Tr w u qs) :
    Calls Try.prog 4 #[v, u] w fun e w' => e = .returned (.bool true) ∧ Below w.heap.size w w' := by
  obtain ⟨n, hn⟩ : ∃ n, n = xs.length := ⟨_, rfl⟩
  obtain ⟨sa, sc, rfl, g1, g2⟩ : ∃ a c, v = .slice a n c ∧ n ≤ c ∧ c ≤ 9223372036854775807 := by obtain ⟨a, c, e, h1, h2, _⟩ := h; exact ⟨a, c, by rw [hn]; exact e, by rw [hn]; exact h1, h2⟩
  obtain ⟨na, hna⟩ : ∃ n, n = qs.length := ⟨_, rfl⟩
  obtain ⟨ka, kc, rfl, f1, f2⟩ : ∃ a c, u = .slice a na c ∧ na ≤ c ∧ c ≤ 9223372036854775807 := by obtain ⟨_, a, c, e, h1, h2, _⟩ := hu; exact ⟨a, c, by rw [hna]; exact e, by rw [hna]; exact h1, h2⟩
  have HU := (show Hid _ from h)
  have HQ := (show Hid _ from hu)
  clear h hu hn hna
  go_enter Try.func4, Try.ntmps4
  go_wp2_with fail
  refine (awake_ok _).mono ?_
  rintro e w1 ⟨rfl, b1⟩
  have D1 := (show Hid _ from b1)
  clear b1
  go_wp2_with fail
  refine (new_ok _).mono ?_
  rintro e w2 ⟨⟨p, rfl, C2⟩, b2⟩
  have D2 := (show Hid _ from D1.out.trans (b2.mono D1.out.size))
  have HD1 : Hid (w.heap.size ≤ w1.heap.size) := D1.out.size
  have I2 : Hid (Agr w2 p w1.heap.size (.slice none 0 0) [] (fun _ => False)) := by
    refine ⟨⟨_, C2, fun b hb => hb.elim⟩, ⟨fun _ => False, ⟨⟨none, 0, rfl, Nat.le_refl _, by omega, fun _ => rfl, fun h => absurd h (by simp)⟩⟩, fun b hb => hb.elim⟩, fun i j hi => absurd hi (by simp)⟩
  clear b2 C2
  go_upto_block 0 with fail
  go_cut [6] (fun s6 wx => ∃ (us : List PV) (da : Option Addr) (dc : Nat), s6 = .slice da us.length dc ∧ us.length ≤ dc ∧ dc ≤ 9223372036854775807 ∧ Hid (∃ X, Agr wx p w1.heap.size s6 us X) ∧ Hid (Below w.heap.size w wx))
  case first =>
    go_wp2_with fail
    go_loopw [6, 28] (fun dv i wr => ∃ k : Nat, k ≤ n ∧ i = .int .i64 k ∧ Hid (∃ us X, Agr wr p w1.heap.size dv us X) ∧ Hid (Below w.heap.size w wr)) (fun _ i _ => n - (intOf i).toNat)
    case atStart => exact ⟨0, by omega, rfl, ⟨_, _, I2.out⟩, D2.out⟩
    case round =>
      obtain ⟨k, hk, rfl, HI, HB⟩ := hrel
      by_cases hkn : k = n
      · subst hkn
        go_wp2_with fail
        go_meet
        obtain ⟨us, X, i⟩ := HI.out
        obtain ⟨D, hl, hD⟩ := i.dl
        obtain ⟨da, dc, rfl, q1, q2, _⟩ := hl
        exact ⟨us, da, dc, rfl, q1, q2, ⟨X, i⟩, HB.out⟩
      · have hk' : k < n := by omega
        have d1 : (0 : Int) ≤ (k : Int) := by omega
        have d2 : (k : Int) < (n : Int) := by omega
        obtain ⟨b, off, x, tv, rfl, hx, hcell, hpin⟩ := HU.out.at k hk'
        have HCL : Hid (∀ i u, (x.cells tv)[i]? = some u → wr.cell? ⟨b, off + k * 9 + i, none⟩ = some u) := fun i u hi => (HB.out.cell (p := ⟨b, off + k * 9 + i, none⟩) (World.block_lt_of_cell? _ _ (hcell i u hi))).trans (hcell i u hi)
        have HPW := (show Hid _ from hpin)
        have hform := hpin.form
        obtain ⟨ta, tn, tc, rfl⟩ := hform
        clear hx hcell hpin
        go_upto_region 8 with (first
          | (refine ldM rfl 24 _ rfl b (off + k * 9) (by rfl) (x.cells (.slice ta tn tc)) HCL.out _ Try.underlying24 rfl infoR ?_)
          | (refine stA rfl 24 _ _ rfl wr.heap.size (by rfl) _ (x.cells (.slice ta tn tc)) (by rfl) 24 (va_new wr [.int .i64 0, .int .i64 0, .int .i64 0, .int .i64 0, .int .i64 0, .int .i64 0, .int .i64 0, .int .i64 0, .slice none 0 0] 24) infoR rfl (pv_one _ ⟨_, _, _, rfl⟩) ?_; intro w5 V5 U5))
        have B5 : Below wr.heap.size wr w5 := U5.bel ((Below.refl _ _).alloc (Nat.le_refl _) _) (Nat.le_refl _)
        have HV5 := (show Hid _ from V5)
        have D5 := (show Hid _ from HB.out.trans (B5.mono HB.out.size))
        have P5 := (show Hid _ from HPW.out.step D5.out)
        have HI5 : Hid (∃ us X, Agr w5 p w1.heap.size u6 us X) := by
          obtain ⟨us, X, i⟩ := HI.out
          exact ⟨us, X, i.step B5⟩
        clear V5 U5 B5 HCL HI HB
        generalize wr.heap.size = pb at *
        by_cases h100 : (k : Int) < 100
        · go_wp2_with (refine ldA rfl 24 _ rfl pb (by rfl) _ _ HV5.out _ Try.underlying24 rfl infoR ?_)
          refine (of_ok x _ _ P5.out.tr P5.out.nilcap P5.out.few).mono ?_
          rintro e w6 ⟨⟨v6, rfl, o6⟩, b6⟩
          obtain ⟨us, X, i5⟩ := HI5.out
          obtain ⟨g, cap, rfl, hc1, hc2, hc3, ot⟩ := o6.own
          obtain ⟨m, hm⟩ : ∃ m, m = x.ts.length := ⟨_, rfl⟩
          rw [← hm] at hc1
          have O6 := (show Hid _ from o6)
          have OT6 := (show Hid _ from ot)
          have HM := (show Hid _ from hm)
          have l6 : Hid (g < w6.heap.size) := ot.lt g rfl
          have I6 := (show Hid _ from (i5.fresh (Y := (· = g)) (fun b e => e ▸ hc3)).step b6)
          have D6 := (show Hid _ from D5.out.trans (b6.mono D5.out.size))
          have V6 := (show Hid _ from HV5.out.step b6)
          have P6 := (show Hid _ from P5.out.step b6)
          rw [← hm]
          have hc3' := hc3
          clear o6 ot hc3 i5 HI5 b6 HV5 P5 hm
          go_upto_region 10 with (refine stA rfl 25 _ _ rfl w6.heap.size (by rfl) _ (x.cells (.slice (some ⟨g, 0, none⟩) m cap)) (by rfl) 25 (va_new w6 [.int .i64 0, .int .i64 0, .int .i64 0, .int .i64 0, .int .i64 0, .int .i64 0, .int .i64 0, .int .i64 0, .slice none 0 0] 25) infoP rfl (pv_one _ ⟨_, _, _, rfl⟩) ?_; intro w7 V7 U7)
          have B7 : Below w6.heap.size w6 w7 := U7.bel ((Below.refl _ _).alloc (Nat.le_refl _) _) (Nat.le_refl _)
          have HV7 := (show Hid _ from V7)
          have HX7 := (show Hid _ from V6.out.step B7)
          have O7 : Hid (Of w7 w5.heap.size x (.slice (some ⟨g, 0, none⟩) m cap)) := by rw [HM.out]; exact O6.out.step B7
          have OT7 := (show Hid _ from OT6.out.step B7)
          have P7 := (show Hid _ from P6.out.step B7)
          have I7 := (show Hid _ from I6.out.step B7)
          have D7 := (show Hid _ from D6.out.trans (B7.mono D6.out.size))
          have l7 : Hid (g < w7.heap.size) := Nat.lt_of_lt_of_le l6.out B7.size
          clear V7 U7 B7 O6 OT6 V6 P6 I6 D6 l6
          generalize w6.heap.size = pm at *
          obtain ⟨⟨Sc, hC, hSc⟩, ⟨Sd, hL, hSd⟩, hr⟩ := I7.out
          have HF : Hid (∀ y ∈ us, y.day ≤ 3652059) := fun y hy => fine_day (hC.fine y hy)
          have HC := (show Hid _ from And.intro hC hSc)
          have HL := (show Hid _ from And.intro hL (And.intro hSd hr))
          clear hC hSc hL hSd hr I7
          go_wp2_with (refine ldA rfl 25 _ rfl pm (by rfl) _ _ HV7.out _ Try.underlying25 rfl infoP ?_)
          refine (add_any2 x _ _ HC.out.1 P7.out.wf O7.out.tr O7.out.nilcap).mono ?_
          rintro e w8 ⟨rfl, hc8, b8, k8⟩
          have D8 := (show Hid _ from D7.out.trans (b8.mono HD1.out))
          have HV8 := (show Hid _ from HV7.out.keepO k8 (by decide) (by decide))
          have HX8 := (show Hid _ from HX7.out.keepO k8 (by decide) (by decide))
          have OT8 := (show Hid _ from OT7.out.keepO k8)
          have sz8 : w7.heap.size ≤ w8.heap.size := b8.size
          have L8 := (show Hid _ from HL.out.1.same sz8 (fun b hb => ((HL.out.2.1 b hb).1.keepO k8).2))
          have S8 : Hid (∀ b, Sd b → Ty w8 b ∧ ¬ b = g) := fun b hb => ⟨((HL.out.2.1 b hb).1.keepO k8).1, (HL.out.2.1 b hb).2⟩
          have HC8 := (show Hid _ from hc8)
          have P8 := (show Hid _ from HPW.out.step D8.out)
          have ls : Hid (w.heap.size ≤ g) := Nat.le_trans D5.out.size hc3'
          have HM8 := (show Hid _ from sz8)
          clear hc8 b8 k8 HV7 HX7 OT7 D7 P7 O7 sz8
          go_wp2_with (refine ldA rfl 24 _ rfl pb (by rfl) _ _ HX8.out _ Try.underlying24 rfl infoR ?_)
          refine (docadd_ok _ us x _ _ L8.out HL.out.2.2 HF.out P8.out.tr P8.out.nilcap).mono ?_
          rintro e w9 ⟨⟨v9, rfl, q1, q2⟩, b9⟩
          have HN9 : Hid (∃ us', Agr w9 p w1.heap.size v9 us' (· = g)) := inv_next (w6 := w7) l7.out HM8.out b9 HC8.out (fun b hb => HC.out.2 b hb) L8.out S8.out HL.out.2.2 HF.out q1 q2
          have V9 := HV8.out.step b9
          have y8 := V9.cell 8 (v := .slice (some ⟨g, 0, none⟩) m cap) rfl
          have HV9 := (show Hid _ from V9)
          have D9 := (show Hid _ from D8.out.trans (b9.mono D8.out.size))
          have Q9 : Hid (QB w9 g m) := by
            have := (OT8.out.step b9).qb
            rw [List.length_append, ← HM.out] at this
            exact this.mono (by omega)
          clear q1 q2 b9 V9 HV8 HX8 OT8 L8 S8 HC8 P8 HC HL HF D8 HPW
          generalize addE us x = er at *
          have ee : (er != er) = false := by simp
          go_wp2_with fail
          clear y8
          go_loopw [52] (fun i wr2 => ∃ j : Nat, j ≤ m ∧ i = .int .i64 j ∧ Hid (Chg g w9 wr2 ∧ QB wr2 g m)) (fun i _ => m - (intOf i).toNat)
          case atStart => exact ⟨0, by omega, rfl, Chg.refl _ _, Q9.out⟩
          case round =>
            rename_i wr2 _
            obtain ⟨j, hj, rfl, HJ⟩ := hrel
            have ljc : m ≤ cap := by omega
            by_cases hjm : j = m
            · subst hjm
              go_wp2_with fail
              refine ⟨⟨k + 1, by omega, by go_num, ?_, bel_chg D9.out HJ.out.1 ls.out⟩, by simp [intOf]; omega⟩
              obtain ⟨us', ag⟩ := HN9.out
              exact ⟨us', _, ag.chg HJ.out.1 rfl⟩
            · have hj' : j < m := by omega
              have e1 : (0 : Int) ≤ (j : Int) := by omega
              have e2 : (j : Int) < (m : Int) := by omega
              have y8 := (HV9.out.chg HJ.out.1 (by decide)).cell 8 (v := .slice (some ⟨g, 0, none⟩) m cap) rfl
              have qz := HJ.out.2
              obtain ⟨cz0, z0⟩ := qz.cell (i := j * 2) (by omega)
              have fz0 := qz.free (j * 2)
              obtain ⟨cz1, z1⟩ := (qz.set (i := j * 2) (.int .i64 9)).cell (i := j * 2 + 1) (by omega)
              have fz1 := (qz.set (i := j * 2) (.int .i64 9)).free (j * 2 + 1)
              clear qz
              go_wp2_with fail
              exact ⟨⟨j + 1, by omega, by go_num, HJ.out.1.set2 HJ.out.2 _ _, HJ.out.2.set2 _ _⟩, by simp [intOf]; omega⟩
        · have h100' : (100 : Int) ≤ (k : Int) := by omega
          go_wp2_with fail
          go_meet
          obtain ⟨us, X, i⟩ := HI5.out
          obtain ⟨D, hl, hD⟩ := i.dl
          obtain ⟨da, dc, rfl, q1, q2, _⟩ := hl
          exact ⟨us, da, dc, rfl, q1, q2, ⟨X, i⟩, D5.out⟩
  obtain ⟨us, da, dc, rfl, q1, q2, HI, HB⟩ := hcut
  obtain ⟨r, hr⟩ : ∃ r, r = us.length := ⟨_, rfl⟩
  have HRL := (show Hid _ from hr)
  rw [← hr] at q1 HI ⊢
  have I0 : Hid (Agr wc p w1.heap.size (.slice da r dc) us (fun b => wc.heap.size ≤ b)) := by
    obtain ⟨X, i0⟩ := HI.out
    exact i0.fresh (fun b h => h)
  clear HI hr
  obtain ⟨⟨Sc, hC, _⟩, _, _⟩ := I0.out
  have HC := (show Hid _ from hC)
  clear hC
  go_wp2_with fail
  refine (list_ok _ HC.out).mono ?_
  rintro e w3 ⟨⟨v3, cs, rfl, hcs, ol⟩, b3⟩
  obtain ⟨la, lc, rfl, l1, l2⟩ := ol.form
  have hlen : cs.length = r := by rw [HRL.out, ← hcs]; simp
  have I3 := (show Hid _ from I0.out.step b3)
  have D3 := (show Hid _ from HB.out.trans (b3.mono HB.out.size))
  have OL : Hid (OwnL w3 wc.heap.size (.slice la r lc) cs) := by rw [← hlen]; exact ol
  have HCS := (show Hid _ from hcs)
  have HLE := (show Hid _ from hlen)
  have lN : Hid (w.heap.size ≤ wc.heap.size) := HB.out.size
  have lM : Hid (wc.heap.size ≤ w3.heap.size) := b3.size
  rw [hlen] at l1 ⊢
  clear ol b3 hcs hlen I0 HB HC
  generalize wc.heap.size = N at *
  have rr : ((r : Int) != (r : Int)) = false := by simp
  go_upto_block 4 with fail
  go_cut [] (fun wx => Hid (Agr wx p w1.heap.size (.slice da r dc) us (fun b => N ≤ b)) ∧ Hid (Below w.heap.size w wx) ∧ Hid (N ≤ wx.heap.size))
  case first =>
    go_wp2_with fail
    go_loopw [71] (fun ix wr => ∃ i : Nat, i ≤ r ∧ ix = .int .i64 i ∧ Hid (Agr wr p w1.heap.size (.slice da r dc) us (fun b => N ≤ b)) ∧ Hid (Below w.heap.size w wr) ∧ Hid (N ≤ wr.heap.size) ∧ Hid (OwnP wr N 25 (.slice la r lc) cs ∧ ∀ j (hj : j < cs.length), i ≤ j → OwnT wr N cs[j].2 cs[j].1.ts)) (fun ix _ => r - (intOf ix).toNat)
    case atStart => exact ⟨0, by omega, rfl, I3.out, D3.out, lM.out, OL.out.row, fun j hj _ => OL.out.tiers _ (List.getElem_mem hj)⟩
    case round =>
      obtain ⟨i, hi, rfl, HI, HB, HZ, HP⟩ := hrel
      by_cases hir : i = r
      · subst hir
        go_wp2_with fail
        go_meet
        exact ⟨HI.out, HB.out, HZ.out⟩
      · have hi' : i < r := by omega
        have d1 : (0 : Int) ≤ (i : Int) := by omega
        have d2 : (i : Int) < (r : Int) := by omega
        obtain ⟨lb, rfl, hic, hrow⟩ := HP.out.1.at i hi'
        obtain ⟨x, hx⟩ : ∃ x, x = cs[i].1 := ⟨_, rfl⟩
        obtain ⟨tv, htv⟩ : ∃ t, t = cs[i].2 := ⟨_, rfl⟩
        have OT := HP.out.2 i hic (Nat.le_refl _)
        rw [← hx, ← htv] at hrow OT
        have HTV : Hid (∀ j (hj : j < cs.length), i + 1 ≤ j → ∀ g, tv.ownBlock = some g → cs[j].2.ownBlock ≠ some g) := by
          intro j hj hij
          rw [htv]
          exact List.pairwise_iff_getElem.1 OL.out.apart i j hic hj (by omega)
        obtain ⟨ta, tc, g, e, hm1, hm2, hg1, hg2, hg3⟩ := OT.tw HZ.out
        obtain ⟨m, hm⟩ : ∃ m, m = x.ts.length := ⟨_, rfl⟩
        rw [← hm] at e hm1 hg3
        subst e
        have HTVE := (show Hid _ from htv)
        have HP0 := (show Hid _ from HP.out.2)
        have HOT := (show Hid _ from OT)
        have HG := (show Hid _ from And.intro hg1 (And.intro hg2 hg3))
        have HROW := (show Hid _ from hrow)
        obtain ⟨⟨_, _, _⟩, ⟨Sd, hL, _⟩, _⟩ := HI.out
        obtain ⟨db, doff, y, yv, rfl, hdb, hy, hdrow, hTy, _⟩ := hL.at i hi'
        have hxy : y = x := by
          rw [← HCS.out] at hy
          rw [List.getElem?_map, List.getElem?_eq_getElem hic] at hy
          rw [hx]
          exact (Option.some.inj hy).symm
        subst hxy
        have HDR := (show Hid _ from hdrow)
        have HTY := (show Hid _ from hTy)
        have hyf : ∃ a n c, yv = .slice a n c := by obtain ⟨_, a, c, e, _⟩ := hTy; exact ⟨a, _, c, e⟩
        obtain ⟨ya, yn, yc, rfl⟩ := hyf
        clear OT hg1 hg2 hg3 hrow hL hdrow hTy hy hx htv hm hdb
        go_upto_region 27 with fail
        refine wp_region_noPanic ?_
        refine wp_region_held_drew (S := fun w' => Below wr.heap.size wr w') (by kernel_rfl) ((Below.refl _ _).drew) (fun hHeld => ?_)
        have B4 := (Below.refl wr.heap.size wr).drew
        refine takeD 0 74 (.slice (some ⟨lb, 0, none⟩) r lc) (by exact rfl) rfl (by kernel_rfl) (by kernel_rfl) (by kernel_rfl) (fun _ _ _ h => h) (Or.inl ⟨by rfl, ?_⟩) (by assumption) ?_
        · intro wq hS
          go_simp
        simp only [Act.put, List.setIfInBounds_toArray, List.set_cons_zero, List.set_cons_succ]
        refine takeD 1 75 (.int .i64 (i : Int)) (by exact rfl) rfl (by kernel_rfl) (by kernel_rfl) (by kernel_rfl) (fun _ _ _ h => h) (Or.inl ⟨by rfl, ?_⟩) (by assumption) ?_
        · intro wq hS
          go_simp
        simp only [Act.put, List.setIfInBounds_toArray, List.set_cons_zero, List.set_cons_succ]
        refine takeD 2 76 (.pointer (some ⟨lb, i * 9, none⟩)) (by exact rfl) rfl (by kernel_rfl) (by kernel_rfl) (by kernel_rfl) (fun _ _ _ h => h) (Or.inl ⟨by rfl, ?_⟩) (by assumption) ?_
        · intro wq hS
          go_simp
        simp only [Act.put, List.setIfInBounds_toArray, List.set_cons_zero, List.set_cons_succ]
        refine takeD 3 77 (.agg (y.cells (.slice ta m tc)).toArray) (by exact rfl) rfl (by kernel_rfl) (by kernel_rfl) (by kernel_rfl) (fun _ _ _ h => h) (yieldsIf_load_mid (by rfl) _ _ rfl _ _ rfl (y.cells (.slice ta m tc)) _ (fun wq hS => (fun j u hj => (hS.cell (p := ⟨lb, i * 9 + j, none⟩) (World.block_lt_of_cell? _ _ (HROW.out j u hj))).trans (HROW.out j u hj))) Try.underlying25 rfl infoP) (by assumption) ?_
        simp only [Act.put, List.setIfInBounds_toArray, List.set_cons_zero, List.set_cons_succ]
        refine takeD 5 79 (.slice (some ⟨db, doff, none⟩) r dc) (by exact rfl) rfl (by kernel_rfl) (by kernel_rfl) (by kernel_rfl) (fun _ _ _ h => h) (Or.inl ⟨by rfl, ?_⟩) (by assumption) ?_
        · intro wq hS
          go_simp
        simp only [Act.put, List.setIfInBounds_toArray, List.set_cons_zero, List.set_cons_succ]
        refine takeD 6 80 (.int .i64 (i : Int)) (by exact rfl) rfl (by kernel_rfl) (by kernel_rfl) (by kernel_rfl) (fun _ _ _ h => h) (Or.inl ⟨by rfl, ?_⟩) (by assumption) ?_
        · intro wq hS
          go_simp
        simp only [Act.put, List.setIfInBounds_toArray, List.set_cons_zero, List.set_cons_succ]
        refine takeD 7 81 (.pointer (some ⟨db, doff + i * 9, none⟩)) (by exact rfl) rfl (by kernel_rfl) (by kernel_rfl) (by kernel_rfl) (fun _ _ _ h => h) (Or.inl ⟨by rfl, ?_⟩) (by assumption) ?_
        · intro wq hS
          go_simp
        simp only [Act.put, List.setIfInBounds_toArray, List.set_cons_zero, List.set_cons_succ]
        refine takeD 8 82 (.agg (y.cells (.slice ya yn yc)).toArray) (by exact rfl) rfl (by kernel_rfl) (by kernel_rfl) (by kernel_rfl) (fun _ _ _ h => h) (yieldsIf_load_mid (by rfl) _ _ rfl _ _ rfl (y.cells (.slice ya yn yc)) _ (fun wq hS => (fun j u hj => (hS.cell (p := ⟨db, doff + i * 9 + j, none⟩) (World.block_lt_of_cell? _ _ (HDR.out j u hj))).trans (HDR.out j u hj))) Try.underlying24 rfl infoR) (by assumption) ?_
        simp only [Act.put, List.setIfInBounds_toArray, List.set_cons_zero, List.set_cons_succ]
        clear hHeld
        generalize wr.drew = w4 at *
        refine wpAnyH_ready (rs := [4]) (by kernel_rfl) (by simp) ?_
        refine AllReadyH.cons (by exact rfl) (fun K hK => ?_) AllReadyH.nil
        go_simp
        refine (back_ok y (.slice ta m tc) _ ⟨_, _, _, rfl⟩).mono ?_
        rintro e w5 ⟨rfl, b5⟩
        have B5 : Below wr.heap.size wr w5 := B4.trans (b5.mono B4.size)
        clear b5
        go_wp2_with fail
        refine hK.out _ _ B5 (fun hHeld => ?_)
        clear hK K hHeld
        refine wpAnyH_ready (rs := [9]) (by kernel_rfl) (by simp) ?_
        refine AllReadyH.cons (by exact rfl) (fun K hK => ?_) AllReadyH.nil
        go_simp
        refine (rsame_true y (.slice ta m tc) (.slice ya yn yc) _ (HOT.out.tr.step B5) (HTY.out.step B5)).mono ?_
        rintro e w6 ⟨rfl, b6⟩
        have B6 : Below wr.heap.size wr w6 := B5.trans (b6.mono B5.size)
        clear b6 B5 B4
        go_wp2_with fail
        refine hK.out _ _ B6 (fun hHeld => ?_)
        clear hK K
        refine takeD 10 84 (.bool false) (by exact rfl) rfl (by kernel_rfl) (by kernel_rfl) (by kernel_rfl) (fun _ _ _ h => h) (Or.inl ⟨by rfl, ?_⟩) (by assumption) ?_
        · intro wq hS
          go_simp
        simp only [Act.put, List.setIfInBounds_toArray, List.set_cons_zero, List.set_cons_succ]
        refine wpAnyH_done (by kernel_rfl) ?_ _
        refine NoPanic.normal ?_
        have P6 := HP.out.1.step B6
        obtain ⟨lb', e', _, hrow6⟩ := P6.at i hi'
        cases e'
        have I6 := (show Hid _ from HI.out.step B6)
        have D6 := (show Hid _ from HB.out.trans (B6.mono HB.out.size))
        have T6 : Hid (∀ j (hj : j < cs.length), i ≤ j → OwnT w6 N cs[j].2 cs[j].1.ts) := fun j hj h => (HP.out.2 j hj h).step B6
        have SZ6 := (show Hid _ from B6.size)
        have HP6 := (show Hid _ from P6)
        have ROW : Hid (∀ wz, OwnP wz N 25 (.slice (some ⟨lb, 0, none⟩) r lc) cs → wz.cell? ⟨lb, i * 9 + 8, none⟩ = some (.slice ta m tc)) := by
          intro wz hz
          obtain ⟨lb', e', hk', hr'⟩ := hz.at i hi'
          cases e'
          exact hr' 8 _ (by rw [← HTVE.out]; rfl)
        have z8 := ROW.out w6 P6
        have Q6 : Hid (0 < m → QB w6 g m) := fun h => (HG.out.2.2 h).2.step B6
        have A6 : Hid (0 < m → ta = some ⟨g, 0, none⟩) := fun h => (HG.out.2.2 h).1
        clear P6 hrow6 B6 HROW HDR HTY HOT HI HB HP hHeld
        go_wp2_with fail
        clear z8
        go_loopw [91] (fun jx wr2 => ∃ j : Nat, j ≤ m ∧ jx = .int .i64 j ∧ Hid (Chg g w6 wr2 ∧ (0 < m → QB wr2 g m))) (fun jx _ => m - (intOf jx).toNat)
        case atStart => exact ⟨0, by omega, rfl, Chg.refl _ _, Q6.out⟩
        case round =>
          rename_i wr2 _
          obtain ⟨j, hj, rfl, HJ⟩ := hrel
          by_cases hjm : j = m
          · subst hjm
            go_wp2_with fail
            refine ⟨⟨i + 1, by omega, by go_num, I6.out.chg HJ.out.1 HG.out.1, bel_chg D6.out HJ.out.1 (Nat.le_trans lN.out HG.out.1), ?_, HP6.out.chg HJ.out.1 (by decide), fun j2 hj2 h2 => (T6.out j2 hj2 (by omega)).chg HJ.out.1 ?_⟩, by simp [intOf]; omega⟩
            · show N ≤ _
              rw [HJ.out.1.size]
              have := HZ.out
              have := SZ6.out
              omega
            · intro e
              rcases HG.out.2.1 with h | h
              · exact HTV.out j2 hj2 h2 g h e
              · have t1 := (HP0.out j2 hj2 (by omega)).lt g e
                omega
          · have hj' : j < m := by omega
            have e1 : (0 : Int) ≤ (j : Int) := by omega
            have e2 : (j : Int) < (m : Int) := by omega
            obtain rfl := A6.out (by omega)
            have z8 := ROW.out _ (HP6.out.chg HJ.out.1 (by decide))
            obtain ⟨cu, cz⟩ := (HJ.out.2 (by omega)).cell (i := j * 2 + 1) (by omega)
            have fz := (HJ.out.2 (by omega)).free (j * 2 + 1)
            go_wp2_with fail
            exact ⟨⟨j + 1, by omega, by go_num, HJ.out.1.set (HJ.out.2 (by omega)) _, fun h => (HJ.out.2 h).set _⟩, by simp [intOf]; omega⟩
  obtain ⟨HI, HB, HNZ⟩ := hcut
  clear I3 D3 OL l1 l2
  go_wp2_with fail
  go_loopw [106] (fun kx wr => ∃ k : Nat, k ≤ na ∧ kx = .int .i64 k ∧ Hid (Agr wr p w1.heap.size (.slice da r dc) us (fun b => N ≤ b)) ∧ Hid (Below w.heap.size w wr) ∧ Hid (N ≤ wr.heap.size)) (fun kx _ => na - (intOf kx).toNat)
  case atStart => exact ⟨0, by omega, rfl, HI.out, HB.out, HNZ.out⟩
  case round =>
    rename_i wr _
    obtain ⟨k, hk, rfl, HI, HB, HZ⟩ := hrel
    by_cases hkn : k = na
    · subst hkn
      go_wp2_with fail
      go_ret
      exact ⟨rfl, HB.out⟩
    · have hk' : k < na := by omega
      have d1 : (0 : Int) ≤ (k : Int) := by omega
      have d2 : (k : Int) < (na : Int) := by omega
      obtain ⟨b, off, rfl, hb, e1, e2⟩ := HQ.out.at k hk'
      obtain ⟨id, hid⟩ : ∃ z, z = (qs.getD k (0, 0)).1 := ⟨_, rfl⟩
      obtain ⟨day, hday⟩ : ∃ z, z = (qs.getD k (0, 0)).2 := ⟨_, rfl⟩
      rw [← hid, Nat.mul_comm 2 k] at e1
      rw [← hday, Nat.mul_comm 2 k] at e2
      have HCL : Hid (∀ i u, ([.int .i64 id, .int .i64 day] : List Value)[i]? = some u → wr.cell? ⟨b, off + k * 2 + i, none⟩ = some u) := by
        intro i u hi
        match i, hi with
        | 0, hi => cases hi; exact (HB.out.cell (p := ⟨b, off + k * 2, none⟩) hb).trans e1
        | 1, hi => cases hi; exact (HB.out.cell (p := ⟨b, off + k * 2 + 1, none⟩) hb).trans e2
        | i + 2, hi => simp at hi
      clear e1 e2 hid hday hb
      go_upto_region 38 with (first
        | (refine ldM rfl 47 _ rfl b (off + k * 2) (by rfl) [.int .i64 id, .int .i64 day] HCL.out _ Try.underlying47 rfl infoA2 ?_)
        | (refine stA rfl 47 _ _ rfl wr.heap.size (by rfl) _ [.int .i64 id, .int .i64 day] (by rfl) 47 (va_new wr [.int .i64 0, .int .i64 0] 47) infoA2 rfl (fun v hv => by simp at hv; rcases hv with rfl | rfl <;> rfl) ?_; intro w5 V5 U5))
      have B5 : Below wr.heap.size wr w5 := U5.bel ((Below.refl _ _).alloc (Nat.le_refl _) _) (Nat.le_refl _)
      have y0 := V5.cell 0 (v := .int .i64 id) rfl
      have y1 := V5.cell 1 (v := .int .i64 day) rfl
      have HV5 := (show Hid _ from V5)
      have I5 := (show Hid _ from HI.out.step B5)
      have D5 := (show Hid _ from HB.out.trans (B5.mono HB.out.size))
      have Z5 : Hid (N ≤ w5.heap.size) := Nat.le_trans HZ.out B5.size
      clear V5 U5 B5 HCL HI HB HZ
      generalize wr.heap.size = pa at *
      by_cases h50 : (k : Int) < 50
      · obtain ⟨⟨Sc, hC, _⟩, _, _⟩ := I5.out
        have HC := (show Hid _ from hC)
        clear hC
        go_wp2_with fail
        refine (at_ok id day _ HC.out).mono ?_
        rintro e w6 ⟨ha, b6⟩
        obtain ⟨z, tv, er, rfl, ot, hs⟩ := atS_of ha
        obtain ⟨ta, tc, g, e, hm1, hm2, hg1, hg2, hg3⟩ := ot.tw b6.size
        obtain ⟨m, hm⟩ : ∃ m, m = z.ts.length := ⟨_, rfl⟩
        rw [← hm] at e hm1 hg3
        subst e
        have HS := (show Hid _ from hs)
        have O6 := (show Hid _ from ot)
        have HG := (show Hid _ from And.intro (Nat.le_trans Z5.out hg1) hg3)
        have V6 := (show Hid _ from HV5.out.step b6)
        have Z6 : Hid (N ≤ w6.heap.size) := Nat.le_trans Z5.out b6.size
        have I6 := (show Hid _ from I5.out.step b6)
        have D6 := (show Hid _ from D5.out.trans (b6.mono D5.out.size))
        clear ha b6 hs ot hg1 hg2 hg3 hm HV5 I5 D5 HC y0 y1
        go_upto_region 40 with (refine stA rfl 25 _ _ rfl w6.heap.size (by rfl) _ (z.cells (.slice ta m tc)) (by rfl) 25 (va_new w6 [.int .i64 0, .int .i64 0, .int .i64 0, .int .i64 0, .int .i64 0, .int .i64 0, .int .i64 0, .int .i64 0, .slice none 0 0] 25) infoP rfl (pv_one _ ⟨_, _, _, rfl⟩) ?_; intro w7 V7 U7)
        have B7 : Below w6.heap.size w6 w7 := U7.bel ((Below.refl _ _).alloc (Nat.le_refl _) _) (Nat.le_refl _)
        have HP7 := (show Hid _ from V7)
        have O7 := (show Hid _ from O6.out.step B7)
        have V7a := V6.out.step B7
        have y0 := V7a.cell 0 (v := .int .i64 id) rfl
        have y1 := V7a.cell 1 (v := .int .i64 day) rfl
        have I7 := (show Hid _ from I6.out.step B7)
        have D7 := (show Hid _ from D6.out.trans (B7.mono D6.out.size))
        have Q7 : Hid (0 < m → QB w7 g m) := fun h => (HG.out.2 h).2.step B7
        have A7 : Hid (0 < m → ta = some ⟨g, 0, none⟩) := fun h => (HG.out.2 h).1
        have G7 : Hid (N ≤ g) := HG.out.1
        have Z7 : Hid (N ≤ w7.heap.size) := Nat.le_trans Z6.out B7.size
        clear V7 U7 B7 V7a O6 V6 I6 D6 HG
        generalize w6.heap.size = pp at *
        obtain ⟨_, ⟨Sd, hL, _⟩, hr⟩ := I7.out
        have HL := (show Hid _ from And.intro hL hr)
        clear hL hr
        go_wp2_with fail
        refine (docat_ok _ us id day _ HL.out.1 HL.out.2).mono ?_
        rintro e w8 ⟨hd, b8⟩
        obtain ⟨tu, rfl, ht⟩ := atS_doc hd HS.out
        have htf : ∃ a n c, tu = .slice a n c := by obtain ⟨_, a, c, e, _⟩ := ht; exact ⟨a, _, c, e⟩
        obtain ⟨ua, un, uc, rfl⟩ := htf
        have HT8 := (show Hid _ from ht)
        have HP8 := (show Hid _ from HP7.out.step b8)
        have Z8 : Hid (N ≤ w8.heap.size) := Nat.le_trans Z7.out b8.size
        have O8 := (show Hid _ from O7.out.step b8)
        have I8 := (show Hid _ from I7.out.step b8)
        have D8 := (show Hid _ from D7.out.trans (b8.mono D7.out.size))
        have Q8 : Hid (0 < m → QB w8 g m) := fun h => (Q7.out h).step b8
        clear hd b8 ht HL HP7 O7 I7 D7 Q7 y0 y1 HS
        go_upto_region 41 with (refine stA rfl 24 _ _ rfl w8.heap.size (by rfl) _ (z.cells (.slice ua un uc)) (by rfl) 24 (va_new w8 [.int .i64 0, .int .i64 0, .int .i64 0, .int .i64 0, .int .i64 0, .int .i64 0, .int .i64 0, .int .i64 0, .slice none 0 0] 24) infoR rfl (pv_one _ ⟨_, _, _, rfl⟩) ?_; intro w9 V9 U9)
        have B9 : Below w8.heap.size w8 w9 := U9.bel ((Below.refl _ _).alloc (Nat.le_refl _) _) (Nat.le_refl _)
        have HU9 := (show Hid _ from V9)
        have HP9 := (show Hid _ from HP8.out.step B9)
        have Z9 : Hid (N ≤ w9.heap.size) := Nat.le_trans Z8.out B9.size
        have O9 := (show Hid _ from O8.out.step B9)
        have T9 := (show Hid _ from HT8.out.step B9)
        have I9 := (show Hid _ from I8.out.step B9)
        have D9 := (show Hid _ from D8.out.trans (B9.mono D8.out.size))
        have Q9 : Hid (0 < m → QB w9 g m) := fun h => (Q8.out h).step B9
        clear V9 U9 B9 HP8 O8 HT8 I8 D8 Q8
        generalize w8.heap.size = pu at *
        refine wp_region_noPanic ?_
        refine wp_region_held_drew (S := fun w' => Below w9.heap.size w9 w') (by kernel_rfl) ((Below.refl _ _).drew) (fun hHeld => ?_)
        have B10 := (Below.refl w9.heap.size w9).drew
        refine takeD 0 131 (.agg (z.cells (.slice ta m tc)).toArray) (by exact rfl) rfl (by kernel_rfl) (by kernel_rfl) (by kernel_rfl) (fun _ _ _ h => h) (yieldsIf_load_mid (by rfl) _ _ rfl _ _ rfl (z.cells (.slice ta m tc)) _ (fun wq hS => (fun j u hj => by rw [Nat.zero_add]; exact (HP9.out.step hS).cell j hj)) Try.underlying25 rfl infoP) (by assumption) ?_
        simp only [Act.put, List.setIfInBounds_toArray, List.set_cons_zero, List.set_cons_succ]
        refine takeD 2 133 (.agg (z.cells (.slice ua un uc)).toArray) (by exact rfl) rfl (by kernel_rfl) (by kernel_rfl) (by kernel_rfl) (fun _ _ _ h => h) (yieldsIf_load_mid (by rfl) _ _ rfl _ _ rfl (z.cells (.slice ua un uc)) _ (fun wq hS => (fun j u hj => by rw [Nat.zero_add]; exact (HU9.out.step hS).cell j hj)) Try.underlying24 rfl infoR) (by assumption) ?_
        simp only [Act.put, List.setIfInBounds_toArray, List.set_cons_zero, List.set_cons_succ]
        clear hHeld
        generalize w9.drew = w10 at *
        refine wpAnyH_ready (rs := [1]) (by kernel_rfl) (by simp) ?_
        refine AllReadyH.cons (by exact rfl) (fun K hK => ?_) AllReadyH.nil
        go_simp
        refine (back_ok z (.slice ta m tc) _ ⟨_, _, _, rfl⟩).mono ?_
        rintro e w11 ⟨rfl, b11⟩
        have B11 : Below w9.heap.size w9 w11 := B10.trans (b11.mono B10.size)
        clear b11
        go_wp2_with fail
        refine hK.out _ _ B11 (fun hHeld => ?_)
        clear hK K hHeld
        refine wpAnyH_ready (rs := [3]) (by kernel_rfl) (by simp) ?_
        refine AllReadyH.cons (by exact rfl) (fun K hK => ?_) AllReadyH.nil
        go_simp
        refine (rsame_true z (.slice ta m tc) (.slice ua un uc) _ (O9.out.tr.step B11) (T9.out.step B11)).mono ?_
        rintro e w12 ⟨rfl, b12⟩
        have B12 : Below w9.heap.size w9 w12 := B11.trans (b12.mono B11.size)
        clear b12 B11 B10
        go_wp2_with fail
        refine hK.out _ _ B12 (fun hHeld => ?_)
        clear hK K
        refine takeD 4 135 (.bool false) (by exact rfl) rfl (by kernel_rfl) (by kernel_rfl) (by kernel_rfl) (fun _ _ _ h => h) (Or.inl ⟨by rfl, ?_⟩) (by assumption) ?_
        · intro wq hS
          go_simp
        simp only [Act.put, List.setIfInBounds_toArray, List.set_cons_zero, List.set_cons_succ]
        refine takeD 5 136 (.bool false) (by exact rfl) rfl (by kernel_rfl) (by kernel_rfl) (by kernel_rfl) (fun _ _ _ h => h) (Or.inl ⟨by rfl, ?_⟩) (by assumption) ?_
        · intro wq hS
          go_simp
        simp only [Act.put, List.setIfInBounds_toArray, List.set_cons_zero, List.set_cons_succ]
        refine takeD 6 137 (.int .i64 er) (by exact rfl) rfl (by kernel_rfl) (by kernel_rfl) (by kernel_rfl) (fun _ _ _ h => h) (Or.inl ⟨by rfl, ?_⟩) (by assumption) ?_
        · intro wq hS
          go_simp
        simp only [Act.put, List.setIfInBounds_toArray, List.set_cons_zero, List.set_cons_succ]
        refine takeD 7 138 (.int .i64 er) (by exact rfl) rfl (by kernel_rfl) (by kernel_rfl) (by kernel_rfl) (fun _ _ _ h => h) (Or.inl ⟨by rfl, ?_⟩) (by assumption) ?_
        · intro wq hS
          go_simp
        simp only [Act.put, List.setIfInBounds_toArray, List.set_cons_zero, List.set_cons_succ]
        refine takeD 8 139 (.bool false) (by exact rfl) rfl (by kernel_rfl) (by kernel_rfl) (by kernel_rfl) (fun _ _ _ h => h) (Or.inl ⟨by rfl, ?_⟩) (by assumption) ?_
        · intro wq hS
          go_simp
        simp only [Act.put, List.setIfInBounds_toArray, List.set_cons_zero, List.set_cons_succ]
        refine takeD 9 140 (.bool false) (by exact rfl) rfl (by kernel_rfl) (by kernel_rfl) (by kernel_rfl) (fun _ _ _ h => h) (Or.inl ⟨by rfl, ?_⟩) (by assumption) ?_
        · intro wq hS
          go_simp
        simp only [Act.put, List.setIfInBounds_toArray, List.set_cons_zero, List.set_cons_succ]
        refine wpAnyH_done (by kernel_rfl) ?_ _
        refine NoPanic.normal ?_
        have HP12 := (show Hid _ from HP9.out.step B12)
        have y8 := HP12.out.cell 8 (v := .slice ta m tc) rfl
        have I12 := (show Hid _ from I9.out.step B12)
        have D12 := (show Hid _ from D9.out.trans (B12.mono D9.out.size))
        have Q12 : Hid (0 < m → QB w12 g m) := fun h => (Q9.out h).step B12
        have Z12 : Hid (N ≤ w12.heap.size) := Nat.le_trans Z9.out B12.size
        clear hHeld B12 HP9 O9 T9 I9 D9 Q9 HU9
        go_wp2_with fail
        clear y8
        go_loopw [144] (fun jx wr2 => ∃ j : Nat, j ≤ m ∧ jx = .int .i64 j ∧ Hid (Chg g w12 wr2 ∧ (0 < m → QB wr2 g m))) (fun jx _ => m - (intOf jx).toNat)
        case atStart => exact ⟨0, by omega, rfl, Chg.refl _ _, Q12.out⟩
        case round =>
          obtain ⟨j, hj, rfl, HJ⟩ := hrel
          by_cases hjm : j = m
          · subst hjm
            go_wp2_with fail
            refine ⟨⟨k + 1, by omega, by go_num, I12.out.chg HJ.out.1 G7.out, bel_chg D12.out HJ.out.1 (Nat.le_trans lN.out G7.out), ?_⟩, by simp [intOf]; omega⟩
            show N ≤ _
            rw [HJ.out.1.size]
            exact Z12.out
          · have hj' : j < m := by omega
            have e1 : (0 : Int) ≤ (j : Int) := by omega
            have e2 : (j : Int) < (m : Int) := by omega
            obtain rfl := A7.out (by omega)
            have y8 := (HP12.out.chg HJ.out.1 (by decide)).cell 8 (v := .slice (some ⟨g, 0, none⟩) m tc) rfl
            obtain ⟨cu, cz⟩ := (HJ.out.2 (by omega)).cell (i := j * 2 + 1) (by omega)
            have fz := (HJ.out.2 (by omega)).free (j * 2 + 1)
            go_wp2_with fail
            exact ⟨⟨j + 1, by omega, by go_num, HJ.out.1.set (HJ.out.2 (by omega)) _, fun h => (HJ.out.2 h).set _⟩, by simp [intOf]; omega⟩
      · have h50' : (50 : Int) ≤ (k : Int) := by omega
        go_wp2_with fail
        go_ret
        exact ⟨rfl, D5.out⟩
end Go.Proofs.Ytgbphbeafomabaa
