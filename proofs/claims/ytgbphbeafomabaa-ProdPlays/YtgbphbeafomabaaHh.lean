/- prod: List. -/
import Derived.Test.YtgbphbeafomabaaHg
import Derived.OwnWalk
namespace Go.Proofs.Ytgbphbeafomabaa
open Go.RowKit Go.Shelf
set_option linter.unusedVariables false
set_option linter.unusedSimpArgs false

theorem infoK2 : (Try.prog.info? 67).map (·.size) = some 2 := by kernel_rfl
theorem OwnT.keeps {w w' : World} {B : Nat} {v : Value} {ts : List (Int × Int)} (h : OwnT w B v ts) (k : Keeps36 w w') : OwnT w' B v ts := by
  refine ⟨h.wf, h.own.1, ?_⟩
  rcases h.own.2 with h2 | ⟨g, cap, cur, e, hb, hg, r⟩
  · exact Or.inl h2
  · exact Or.inr ⟨g, cap, cur, e, hb, k g _ _ hg, r⟩
theorem OwnT.lt {w : World} {B : Nat} {v : Value} {ts : List (Int × Int)} (h : OwnT w B v ts) : ∀ g, v.ownBlock = some g → g < w.heap.size := by
  intro g e
  rcases h.own.2 with ⟨rfl, _⟩ | ⟨q, cap, cur, rfl, hb, hg, r⟩
  · cases e
  · cases e
    rcases Nat.lt_or_ge q w.heap.size with hlt | hge
    · exact hlt
    · rw [Array.getElem?_eq_none hge] at hg; cases hg
theorem keeps36_grownP {w w' : World} {B : Nat} {T : TypeId} {u : Value} {cs : List (PV × Value)} (g : w.grownBy w' u.ownBlock) (o : OwnP w B T u cs) (hT : T ≠ 36) : Keeps36 w w' := fun k ds fr hk => by
  refine (g.block k (Array.getElem?_eq_some_iff.1 hk).1 ?_).trans hk
  intro e'
  rcases o.own.2 with ⟨rfl, _⟩ | ⟨q', cap', cur', rfl, _, hq, _⟩
  · cases e'
  · simp [Value.ownBlock] at e'
    subst e'
    rw [hk] at hq
    cases hq
    exact hT rfl
theorem VA.grownO {w w' : World} {p B : Nat} {cs : List Value} {T T' : TypeId} {v : Value} {bs : List (PV × Value)} (h : VA w p cs T) (g : w.grownBy w' v.ownBlock) (o : OwnP w B T' v bs) (hT : T ≠ T') : VA w' p cs T := by
  refine ⟨(g.block p h.lt (fun e => ?_)).trans h.blk⟩
  rcases o.own.2 with ⟨rfl, _⟩ | ⟨q, cap, cur, rfl, _, hq, _⟩
  · cases e
  · cases e
    have := h.blk.symm.trans hq
    simp at this
    exact hT this.2
/-- no two of the versions share their tiers -/
def Apart (cs : List (PV × Value)) : Prop := cs.Pairwise fun a b => ∀ g, a.2.ownBlock = some g → b.2.ownBlock ≠ some g
/-- a list of versions that is the call's own, with its tiers -/
structure OwnL (w : World) (B : Nat) (v : Value) (cs : List (PV × Value)) : Prop where
  row : OwnP w B 25 v cs
  tiers : ∀ c ∈ cs, OwnT w B c.2 c.1.ts
  apart : Apart cs
theorem OwnL.form {w : World} {B : Nat} {v : Value} {cs : List (PV × Value)} (h : OwnL w B v cs) : ∃ a c, v = .slice a cs.length c ∧ cs.length ≤ c ∧ c ≤ 9223372036854775807 := by
  rcases h.row.own.2 with ⟨rfl, h0⟩ | ⟨g, cap, cur, rfl, _, _, h1, h2, _⟩
  · exact ⟨none, 0, by rw [h0], by omega, by omega⟩
  · exact ⟨_, _, rfl, h1, by unfold maxLen at h2; omega⟩
set_option maxRecDepth 100000 in
set_option maxHeartbeats 4000000 in
theorem list_ok {p B : Nat} {S : Nat → Prop} {vs : List PV} (w : World) (h : Cat w p B S vs) :
    Calls Try.prog 19 #[.pointer (some ⟨p, 0, none⟩)] w fun e w' => (∃ v cs, e = .returned v ∧ cs.map (·.1) = vs ∧ OwnL w' w.heap.size v cs) ∧ Below w.heap.size w w' := by
  obtain ⟨h1, h2, h3, bm, sv, m, f, a1, a2, a3, a4, a5, a6, a7, a8⟩ := h
  obtain ⟨n, hn⟩ : ∃ n, n = vs.length := ⟨_, rfl⟩
  have hkl : (keysOf vs).length = n := by rw [hn]; simp [keysOf]
  have HTK := (show Hid _ from a6.tr)
  obtain ⟨sa, cap, rfl, g1, g2⟩ : ∃ a c, sv = .slice a n c ∧ n ≤ c ∧ c ≤ 9223372036854775807 := by
    obtain ⟨_, a, c, e, h1, h2, _⟩ := a6.tr
    exact ⟨a, c, by rw [← hkl]; exact e, by rw [← hkl]; exact h1, h2⟩
  have c0 := a1.cell 0 (v := .map (some bm)) rfl
  have c1 := a1.cell 1 (v := .slice sa n cap) rfl
  have HV := (show Hid _ from a1)
  have HF4 : Hid (MapF w 67 bm m f) := a4
  have HA7 := (show Hid _ from a7)
  have HWF := (show Hid _ from h1)
  have HFI := (show Hid _ from h2)
  have HN := (show Hid _ from hn)
  have h64 : n ≤ 64 := by omega
  obtain ⟨hu, i0, hi, hz0, hz1, hz2⟩ := ptP
  clear a1 a2 a3 a4 a5 a6 a7 a8 h1 h2 h3 hn hkl
  go_enter Try.func19, Try.ntmps19
  go_upto_region 4 with (refine wpList_make_own _ rfl _ _ 44 (by rfl) w.heap.size 25 i0 ZP 9 hu hi hz0 hz1 .i64 .i64 _ n (by rfl) (by rfl) rfl (by rw [hz2]; omega) (by unfold maxLen; omega) (Nat.le_refl _) ?_; intro w1 o1 gr1)
  have B1 : Below w.heap.size w w1 := (Below.refl _ _).grown gr1 (Nat.le_refl _) (fun k hk => by cases hk)
  have L1 : Hid (OwnL w1 w.heap.size (.slice (some ⟨w.heap.size, 0, none⟩) 0 n) []) := ⟨⟨fun c hc => (by cases hc), o1⟩, fun c hc => (by cases hc), List.Pairwise.nil⟩
  have V1 := HV.out.step B1
  have d0 := V1.cell 0 (v := .map (some bm)) rfl
  have d1 := V1.cell 1 (v := .slice sa n cap) rfl
  have HB1 := (show Hid _ from B1)
  clear V1 B1 o1 gr1 hi hz0 hz1 hz2 hu i0 c0 c1
  go_upto_region 5 with fail
  clear d0 d1
  go_loopw [3, 19] (fun v i wr => ∃ (k : Nat) (cs : List (PV × Value)), k ≤ n ∧ i = .int .i64 k ∧ Hid (cs.map (·.1) = vs.take k) ∧ Hid (OwnL wr w.heap.size v cs) ∧ Hid (Below w.heap.size w wr)) (fun _ i _ => n - (intOf i).toNat)
  case atStart => exact ⟨0, [], by omega, rfl, rfl, L1.out, HB1.out⟩
  case round =>
    obtain ⟨k, cs, hk, rfl, HM, HL, HB⟩ := hrel
    by_cases hkn : k = n
    · subst hkn
      go_wp2_with fail
      go_ret
      refine ⟨⟨_, cs, rfl, ?_, HL.out⟩, HB.out⟩
      rw [HM.out, HN.out, List.take_length]
    · have hk' : k < n := by omega
      have q1 : (0 : Int) ≤ (k : Int) := by omega
      have q2 : (k : Int) < (n : Int) := by omega
      have hkx : k < vs.length := by rw [← HN.out]; exact hk'
      obtain ⟨x, hxk⟩ : ∃ x, vs[k] = x := ⟨_, rfl⟩
      have hmem : x ∈ vs := hxk ▸ List.getElem_mem hkx
      have HKX : Hid (∃ h : k < vs.length, vs[k] = x) := ⟨hkx, hxk⟩
      obtain ⟨b, off, rfl, hb, e1, e2⟩ := HTK.out.at k hk'
      have kg := keys_get hkx
      rw [hxk] at kg
      rw [kg, Nat.mul_comm 2 k] at e1 e2
      obtain ⟨tv, ef, ot, _⟩ := HA7.out x hmem
      have hxw := HWF.out x hmem
      have HC := (show Hid _ from chk_len (HFI.out x hmem))
      have HOT := (show Hid _ from ot)
      have HLK : Hid (∀ wq, Below w.heap.size w wq → (Instr.lookup 62 (.map (some bm)) (.agg #[.int .i64 x.id, .int .i64 x.day]) false).run Try.prog wq = .ok (.agg (x.cells tv).toArray) wq) := fun wq hS => by
        have := (HF4.out.step hS).look (t := 62) keyedP Try.underlying62 (zeroP wq) (kl_key hxw.id hxw.day)
        rw [ef] at this
        exact this
      have HCL : Hid (∀ i u, ([.int .i64 x.id, .int .i64 x.day] : List Value)[i]? = some u → wr.cell? ⟨b, off + k * 2 + i, none⟩ = some u) := by
        intro i u hi
        match i, hi with
        | 0, hi => cases hi; exact (HB.out.cell (p := ⟨b, off + k * 2, none⟩) hb).trans e1
        | 1, hi => cases hi; exact (HB.out.cell (p := ⟨b, off + k * 2 + 1, none⟩) hb).trans e2
        | i + 2, hi => simp at hi
      clear e1 e2 ef ot kg hxk hmem hkx
      go_upto_region 7 with (first
        | (refine ldM rfl 67 _ rfl b (off + k * 2) (by rfl) [.int .i64 x.id, .int .i64 x.day] HCL.out _ Try.underlying67 rfl infoK2 ?_)
        | (refine stA rfl 67 _ _ rfl wr.heap.size (by rfl) _ [.int .i64 x.id, .int .i64 x.day] (by rfl) 67 (va_new wr [.int .i64 0, .int .i64 0] 67) infoK2 rfl (fun v hv => by simp at hv; rcases hv with rfl | rfl <;> rfl) ?_; intro w5 V5 U5))
      have B5 : Below wr.heap.size wr w5 := U5.bel ((Below.refl _ _).alloc (Nat.le_refl _) _) (Nat.le_refl _)
      have VK := (show Hid _ from V5)
      have D5 := (show Hid _ from HB.out.trans (B5.mono HB.out.size))
      have HB5 := (show Hid _ from B5)
      have m0 := HV.out.cell 0 (v := .map (some bm)) rfl
      clear V5 U5 B5 HCL
      refine wp_region_noPanic ?_
      refine wp_region_held_drew (S := fun w' => Below w.heap.size w w' ∧ VA w' wr.heap.size [.int .i64 x.id, .int .i64 x.day] 67) (by kernel_rfl) ⟨D5.out.drew, VK.out.drew⟩ (fun hHeld => ?_)
      refine takeD 0 23 (u3) (by exact rfl) rfl (by kernel_rfl) (by kernel_rfl) (by kernel_rfl) (fun _ _ _ h => h) (Or.inl ⟨by rfl, ?_⟩) (by assumption) ?_
      · intro wq hS
        go_simp
      simp only [Act.put, List.setIfInBounds_toArray, List.set_cons_zero, List.set_cons_succ]
      refine takeD 1 24 (.pointer (some ⟨p, 0, none⟩)) (by exact rfl) rfl (by kernel_rfl) (by kernel_rfl) (by kernel_rfl) (fun _ _ _ h => h) (Or.inl ⟨by rfl, ?_⟩) (by assumption) ?_
      · intro wq hS
        go_simp
      simp only [Act.put, List.setIfInBounds_toArray, List.set_cons_zero, List.set_cons_succ]
      refine takeD 2 25 (.pointer (some ⟨p, 0, none⟩)) (by exact rfl) rfl (by kernel_rfl) (by kernel_rfl) (by kernel_rfl) (fun _ _ _ h => h) (Or.inl ⟨by rfl, ?_⟩) (by assumption) ?_
      · intro wq hS
        go_simp
      simp only [Act.put, List.setIfInBounds_toArray, List.set_cons_zero, List.set_cons_succ]
      refine takeD 3 26 (.pointer (some ⟨p, 0, none⟩)) (by exact rfl) rfl (by kernel_rfl) (by kernel_rfl) (by kernel_rfl) (fun _ _ _ h => h) (Or.inl ⟨by rfl, ?_⟩) (by assumption) ?_
      · intro wq hS
        go_simp
      simp only [Act.put, List.setIfInBounds_toArray, List.set_cons_zero, List.set_cons_succ]
      refine takeD 4 27 (.map (some bm)) (by exact rfl) rfl (by kernel_rfl) (by kernel_rfl) (by kernel_rfl) (fun _ _ _ h => h) (Or.inl ⟨by rfl, ?_⟩) (by assumption) ?_
      · intro wq hS
        have c := (hS.1.cell (p := ⟨p, 0, none⟩) (World.block_lt_of_cell? _ _ m0)).trans m0
        go_simp
      simp only [Act.put, List.setIfInBounds_toArray, List.set_cons_zero, List.set_cons_succ]
      refine takeD 5 28 (.agg #[.int .i64 x.id, .int .i64 x.day]) (by exact rfl) rfl (by kernel_rfl) (by kernel_rfl) (by kernel_rfl) (fun _ _ _ h => h) (yieldsIf_load_mid (by rfl) _ _ rfl _ _ rfl [.int .i64 x.id, .int .i64 x.day] _ (fun wq hS => (fun j u hj => by rw [Nat.zero_add]; exact hS.2.cell j hj)) Try.underlying67 rfl infoK2) (by assumption) ?_
      simp only [Act.put, List.setIfInBounds_toArray, List.set_cons_zero, List.set_cons_succ]
      refine takeD 6 29 (.agg (x.cells tv).toArray) (by exact rfl) rfl (by kernel_rfl) (by kernel_rfl) (by kernel_rfl) (fun _ _ _ h => h) (Or.inl ⟨by rfl, ?_⟩) (by assumption) ?_
      · intro wq hS
        have hl := HLK.out wq hS.1
        go_simp
      simp only [Act.put, List.setIfInBounds_toArray, List.set_cons_zero, List.set_cons_succ]
      have B6 := (Below.refl w5.heap.size w5).drew
      clear hHeld
      generalize w5.drew = w6 at *
      refine wpAnyH_ready (rs := [7]) (by kernel_rfl) (by simp) ?_
      refine AllReadyH.cons (by exact rfl) (fun K hK => ?_) AllReadyH.nil
      go_simp
      have D6 : Below w.heap.size w w6 := D5.out.trans (B6.mono D5.out.size)
      refine (copied_ok x tv _ ((HOT.out.step D6).tr) (HOT.out.nilcap) (by have := HC.out; omega)).mono ?_
      rintro e w7 ⟨⟨v7, rfl, o7⟩, b7⟩
      have B7 : Below w5.heap.size w5 w7 := B6.trans (b7.mono B6.size)
      obtain ⟨a7, n7, c7, rfl⟩ := o7.form
      have O7 := (show Hid _ from o7)
      have L6 : Hid (w5.heap.size ≤ w6.heap.size) := B6.size
      clear o7 b7
      go_wp2_with fail
      refine hK.out _ _ ⟨D5.out.trans (B7.mono D5.out.size), VK.out.step B7⟩ (fun hHeld => ?_)
      clear hK K hHeld
      refine wpAnyH_ready (rs := [8]) (by kernel_rfl) (by simp) ?_
      refine AllReadyH.cons (by exact rfl) (fun K hK => ?_) AllReadyH.nil
      refine wantIf (by rfl) ?_
      refine bldP 44 25 ptP _ (by rfl) x (.slice a7 n7 c7) (by rfl) ?_
      have B8 := B7.alloc B7.size (.cells (x.cells (.slice a7 n7 c7)).toArray 25)
      have V8 := va_new w7 (x.cells (.slice a7 n7 c7)) 25
      have S8 := (Below.refl w7.heap.size w7).alloc (Nat.le_refl _) (.cells (x.cells (.slice a7 n7 c7)).toArray 25)
      refine hK.out _ _ ⟨D5.out.trans (B8.mono D5.out.size), VK.out.step B8⟩ (fun hHeld => ?_)
      simp only [Act.put, List.setIfInBounds_toArray, List.set_cons_zero, List.set_cons_succ]
      clear hK K hHeld
      generalize w7.alloc (.cells (x.cells (.slice a7 n7 c7)).toArray 25) = w8 at *
      have LEN : cs.length ≤ 64 := by
        have := congrArg List.length HM.out
        simp at this
        omega
      have WR : Below wr.heap.size wr w8 := HB5.out.trans (B8.mono HB5.out.size)
      have R8 := HL.out.row.step WR
      refine wpAnyH_ready (rs := [9]) (by kernel_rfl) (by simp) ?_
      refine AllReadyH.cons (by exact rfl) (fun K hK => ?_) AllReadyH.nil
      refine wantIf (by rfl) ?_
      refine appPw _ _ 44 25 ptP (by rfl) w.heap.size cs [(x, .slice a7 n7 c7)] _ ⟨w7.heap.size, 0, none⟩ 1 1 (by rfl) (by rfl) rfl R8 (fun c hc => by simp at hc; subst hc; exact ⟨_, _, _, rfl⟩) (fun j u hj => by rw [Go.WideShapes.add_plain, Nat.zero_add]; exact V8.cell j (by simpa [pcs] using hj)) (Nat.le_trans HB.out.size WR.size) (by simp; omega) ?_
      intro v9 w9 o9 b9 g9
      have K9 := keeps36_grownP g9 R8 (by decide)
      have D9 : Below w.heap.size w w9 := (HB.out.trans (WR.mono HB.out.size)).trans b9
      have HNEW : Hid (OwnL w9 w.heap.size v9 (cs ++ [(x, .slice a7 n7 c7)])) := by
        refine ⟨o9, fun c hc => ?_, ?_⟩
        · rcases List.mem_append.1 hc with hc | hc
          · exact ((HL.out.tiers c hc).step WR).keeps K9
          · simp at hc
            subst hc
            exact ((O7.out.lower (Nat.le_trans D5.out.size L6.out)).step S8).keeps K9
        · refine List.pairwise_append.2 ⟨HL.out.apart, List.pairwise_singleton _ _, fun c hc d hd g e1 e2 => ?_⟩
          simp at hd
          subst hd
          have t1 := (HL.out.tiers c hc).lt g e1
          have t2 := O7.out.block g e2
          have t3 := L6.out
          have t4 := HB5.out.size
          omega
      have HMN : Hid ((cs ++ [(x, Value.slice a7 n7 c7)]).map (fun c => c.1) = vs.take (k + 1)) := by
        obtain ⟨hkx, hxk⟩ := HKX.out
        show _ = _
        rw [List.map_append, HM.out, List.take_succ_eq_append_getElem hkx, hxk]
        rfl
      have VK9 := (VK.out.step B8).grownO g9 R8 (by decide)
      refine hK.out _ _ ⟨D9, VK9⟩ (fun hHeld => ?_)
      simp only [Act.put, List.setIfInBounds_toArray, List.set_cons_zero, List.set_cons_succ]
      clear hK K
      refine takeD 10 3 (v9) (by exact rfl) rfl (by kernel_rfl) (by kernel_rfl) (by kernel_rfl) (fun _ _ _ h => h) (Or.inl ⟨by rfl, ?_⟩) (by assumption) ?_
      · intro wq hS
        go_simp
      simp only [Act.put, List.setIfInBounds_toArray, List.set_cons_zero, List.set_cons_succ]
      refine wpAnyH_done (by kernel_rfl) ?_ _
      refine NoPanic.normal ?_
      go_wp2_with fail
      exact ⟨⟨k + 1, _, by omega, by go_num, HMN.out, HNEW.out, D9⟩, by simp [intOf]; omega⟩
end Go.Proofs.Ytgbphbeafomabaa
