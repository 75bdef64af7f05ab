/- texts of the model: Hg Hh Hi -/
import Derived.Test.YtjkiplndbcmmbaaGreatDoorW27
import Derived.Laws.AppendOwnNone
import Derived.Great.BuildSlice
import Derived.OwnWalk
set_option linter.unusedVariables false
set_option linter.unusedSimpArgs false
set_option maxHeartbeats 16000000
set_option maxRecDepth 100000
namespace Go.Proofs.YtjkiplndbcmmbaaGreatDoor
open Tryz
open Go.RowKit Go.Shelf
theorem s6 {o : Oper} {y : Nat → Option Bool} {a : Act} {w : World} {K : Act → World → Prop} {Q : Exit → Act → World → Prop} {k0 : Prop} (h : Region.wanted o y = true) (k : o.wp prog a w K Q) : if Region.wanted o y = true then o.wp prog a w K Q else k0 := by
 rw [if_pos h]
 exact k
theorem xH (x : PV) (tv : Value) : Instr.fill (fun i => some (i * 9, 9)) ((Array.range (1 * 9)).map (ZP.cells[· % ZP.cells.size]!)) [(0, Value.agg (x.cells tv).toArray)] = some (x.cells tv).toArray := by kernel_rfl
theorem yo {w : World} {o : Oper} {a : Act} {K : Act → World → Prop} {Q : Exit → Act → World → Prop} (TS T : TypeId) (pt : PT TS T) (z : Operand) (ho : o.op = .buildSlice TS 1 #[(0, z)]) (x : PV) (tv : Value) (hz : a.eval z = .agg (x.cells tv).toArray)
  (h : K (a.put o.dst (.slice (some ⟨w.heap.size, 0, none⟩) 1 1)) (w.alloc (.cells (x.cells tv).toArray T))) : o.wp prog a w K Q := by
 obtain ⟨hu, i0, hi, hz0, hz1, hz2⟩ := pt
 refine wp_buildSlice TS T 1 _ ho _ i0 ZP hu hi hz0 (by rw [hz1]; decide) (by rw [hz1]; decide) ?_ h
 rw [hz1]
 simp only [List.map_toArray, List.map_cons, List.map_nil, hz]
 exact xH x tv
theorem ma : (prog.info? 208).map (·.size) = some 2 := by kernel_rfl
theorem OwnT.keeps {w w' : World} {B : Nat} {v : Value} {ts : List (Int × Int)} (h : OwnT w B v ts) (k : Keeps36 w w') : OwnT w' B v ts := by
 refine ⟨h.wf, h.own.1, ?_⟩
 rcases h.own.2 with h2 | ⟨g, cap, cur, e, hb, hg, r⟩
 ·exact Or.inl h2
 ·exact Or.inr ⟨g, cap, cur, e, hb, k g _ _ hg, r⟩
theorem OwnT.lt {w : World} {B : Nat} {v : Value} {ts : List (Int × Int)} (h : OwnT w B v ts) : ∀ g, v.ownBlock = some g → g < w.heap.size := by
 intro g e
 rcases h.own.2 with ⟨rfl, _⟩ | ⟨q, cap, cur, rfl, hb, hg, r⟩
 ·cases e
 ·cases e
  rcases Nat.lt_or_ge q w.heap.size with hlt | hge
  ·exact hlt
  ·rw [Array.getElem?_eq_none hge] at hg; cases hg
theorem gY {w w' : World} {B : Nat} {T : TypeId} {u : Value} {cs : List (PV × Value)} (g : w.grownBy w' u.ownBlock) (o : OwnP w B T u cs) (hT : T ≠ 102) : Keeps36 w w' := fun k ds fr hk => by
 refine (g.block k (Array.getElem?_eq_some_iff.1 hk).1 ?_).trans hk
 intro e'
 rcases o.own.2 with ⟨rfl, _⟩ | ⟨q', cap', cur', rfl, _, hq, _⟩
 ·cases e'
 ·simp [Value.ownBlock] at e'
  subst e'
  rw [hk] at hq
  cases hq
  exact hT rfl
theorem VA.grownO_pr {w w' : World} {p B : Nat} {cs : List Value} {T T' : TypeId} {v : Value} {bs : List (PV × Value)} (h : VA w p cs T) (g : w.grownBy w' v.ownBlock) (o : OwnP w B T' v bs) (hT : T ≠ T') : VA w' p cs T := by
 refine ⟨(g.block p h.lt (fun e => ?_)).trans h.blk⟩
 rcases o.own.2 with ⟨rfl, _⟩ | ⟨q, cap, cur, rfl, _, hq, _⟩
 ·cases e
 ·cases e
  have := h.blk.symm.trans hq
  simp at this
  exact hT this.2
def Apart (cs : List (PV × Value)) : Prop := cs.Pairwise fun a b => ∀ g, a.2.ownBlock = some g → b.2.ownBlock ≠ some g
structure OwnL (w : World) (B : Nat) (v : Value) (cs : List (PV × Value)) : Prop where
 row : OwnP w B 162 v cs
 tiers : ∀ c ∈ cs, OwnT w B c.2 c.1.ts
 apart : Apart cs
theorem OwnL.form {w : World} {B : Nat} {v : Value} {cs : List (PV × Value)} (h : OwnL w B v cs) : ∃ a c, v = .slice a cs.length c ∧ cs.length ≤ c ∧ c ≤ 9223372036854775807 := by
 rcases h.row.own.2 with ⟨rfl, h0⟩ | ⟨g, cap, cur, rfl, _, _, h1, h2, _⟩
 ·exact ⟨none, 0, by rw [h0], by omega, by omega⟩
 ·exact ⟨_, _, rfl, h1, by unfold maxLen at h2; omega⟩
theorem th {p B : Nat} {S : Nat → Prop} {vs : List PV} (w : World) (h : Cat w p B S vs) :
  Calls prog 153 #[.pointer (some ⟨p, 0, none⟩)] w fun e w' => (∃ v cs, e = .returned v ∧ cs.map (·.1) = vs ∧ OwnL w' w.heap.size v cs) ∧ Below w.heap.size w w' := by
 obtain ⟨h1, h2, h3, bm, sv, m, f, a1, a2, a3, a4, a5, a6, a7, a8⟩ := h
 obtain ⟨n, hn⟩ : ∃ n, n = vs.length := ⟨_, rfl⟩
 have hkl : (keysOf vs).length = n := by rw [hn]; simp [keysOf]
 have HTK := hI_ a6.tr
 obtain ⟨sa, cap, rfl, g1, g2⟩ : ∃ a c, sv = .slice a n c ∧ n ≤ c ∧ c ≤ 9223372036854775807 := by
  obtain ⟨_, a, c, e, h1, h2, _⟩ := a6.tr
  exact ⟨a, c, by rw [← hkl]; exact e, by rw [← hkl]; exact h1, h2⟩
 have c0 := a1.cell 0 (v := .map (some bm)) rfl
 have c1 := a1.cell 1 (v := .slice sa n cap) rfl
 have HV := hI_ a1
 have HF4 : Hid (MapF w 208 bm m f) := a4
 have HA7 := hI_ a7
 have HWF := hI_ h1
 have HFI := hI_ h2
 have HN := hI_ hn
 have h64 : n ≤ 64 := by omega
 obtain ⟨hu, i0, hi, hz0, hz1, hz2⟩ := ptP
 clear a1 a2 a3 a4 a5 a6 a7 a8 h1 h2 h3 hn hkl
 go_enter func153, ntmps153
 go_upto_region 4 with (refine wpList_make_own _ rfl _ _ 221 (by rfl) w.heap.size 162 i0 ZP 9 hu hi hz0 hz1 .i64 .i64 _ n (by rfl) (by rfl) rfl (by rw [hz2]; omega) (by unfold maxLen; omega) (Nat.le_refl _) ?_; intro w1 o1 gr1)
 have B1 : Below w.heap.size w w1 := (Below.refl _ _).grown gr1 (Nat.le_refl _) (fun k hk => by cases hk)
 have L1 : Hid (OwnL w1 w.heap.size (.slice (some ⟨w.heap.size, 0, none⟩) 0 n) []) := ⟨⟨fun c hc => (by cases hc), o1⟩, fun c hc => (by cases hc), List.Pairwise.nil⟩
 have V1 := HV.out.step B1
 have d0 := V1.cell 0 (v := .map (some bm)) rfl
 have d1 := V1.cell 1 (v := .slice sa n cap) rfl
 have HB1 := hI_ B1
 clear V1 B1 o1 gr1 hi hz0 hz1 hz2 hu i0 c0 c1
 go_upto_region 5 with fail
 clear d0 d1
 go_loopw [3, 19] (fun v i wr => ∃ (k : Nat) (cs : List (PV × Value)), k ≤ n ∧ i = .int .i64 k ∧ Hid (cs.map (·.1) = vs.take k) ∧ Hid (OwnL wr w.heap.size v cs) ∧ Hid (Below w.heap.size w wr)) (fun _ i _ => n - (intOf i).toNat)
 case atStart => exact ⟨0, [], by omega, rfl, rfl, L1.out, HB1.out⟩
 case round =>
  obtain ⟨k, cs, hk, rfl, HM, HL, HB⟩ := hrel
  by_cases hkn : k = n
  ·subst hkn
   go_wp2_with fail
   go_ret
   refine ⟨⟨_, cs, rfl, ?_, HL.out⟩, HB.out⟩
   rw [HM.out, HN.out, List.take_length]
  ·have hk' : k < n := by omega
   have q1 : (0 : Int) ≤ (k : Int) := by omega
   have q2 : (k : Int) < (n : Int) := by omega
   have hkx : k < vs.length := by rw [← HN.out]; exact hk'
   obtain ⟨x, hxk⟩ : ∃ x, vs[k] = x := ⟨_, rfl⟩
   have hmem : x ∈ vs := hxk ▸ List.getElem_mem hkx
   have HKX : Hid (∃ h : k < vs.length, vs[k] = x) := ⟨hkx, hxk⟩
   obtain ⟨b, off, rfl, hb, e1, e2⟩ := HTK.out.at k hk'
   have kg := hU hkx
   rw [hxk] at kg
   rw [kg, Nat.mul_comm 2 k] at e1 e2
   obtain ⟨tv, ef, ot, _⟩ := HA7.out x hmem
   have hxw := HWF.out x hmem
   have HC := hI_ (gv (HFI.out x hmem))
   have HOT := hI_ ot
   have HLK : Hid (∀ wq, Below w.heap.size w wq → (Instr.lookup 151 (.map (some bm)) (.agg #[.int .i64 x.id, .int .i64 x.day]) false).run prog wq = .ok (.agg (x.cells tv).toArray) wq) := fun wq hS => by
    have := (HF4.out.step hS).look (t := 151) keyedP underlying151 (uR wq) (dB hxw.id hxw.day)
    rw [ef] at this
    exact this
   have HCL : Hid (∀ i u, ([.int .i64 x.id, .int .i64 x.day] : List Value)[i]? = some u → wr.cell? ⟨b, off + k * 2 + i, none⟩ = some u) := by
    intro i u hi
    match i, hi with
    | 0, hi => cases hi; exact (HB.out.cell (p := ⟨b, off + k * 2, none⟩) hb).trans e1
    | 1, hi => cases hi; exact (HB.out.cell (p := ⟨b, off + k * 2 + 1, none⟩) hb).trans e2
    | i + 2, hi => simp at hi
   clear e1 e2 ef ot kg hxk hmem hkx
   go_upto_region 7 with (first
    | (refine ldM rfl 208 _ rfl b (off + k * 2) (by rfl) [.int .i64 x.id, .int .i64 x.day] HCL.out _ underlying208 rfl ma ?_)
    | (refine stA rfl 208 _ _ rfl wr.heap.size (by rfl) _ [.int .i64 x.id, .int .i64 x.day] (by rfl) 208 (aa wr [.int .i64 0, .int .i64 0] 208) ma rfl (fun v hv => by simp at hv; rcases hv with rfl | rfl <;> rfl) ?_; intro w5 V5 U5))
   have B5 : Below wr.heap.size wr w5 := U5.bel ((Below.refl _ _).alloc (Nat.le_refl _) _) (Nat.le_refl _)
   have VK := hI_ V5
   have D5 := hI_ (HB.out.trans (B5.mono HB.out.size))
   have HB5 := hI_ B5
   have m0 := HV.out.cell 0 (v := .map (some bm)) rfl
   clear V5 U5 B5 HCL
   refine wp_region_noPanic ?_
   refine wp_region_held_drew (S := fun w' => Below w.heap.size w w' ∧ VA w' wr.heap.size [.int .i64 x.id, .int .i64 x.day] 208) (by kernel_rfl) ⟨D5.out.drew, VK.out.drew⟩ (fun hh_ => ?_)
   refine tL 0 23 (u3) ?_ ?_
   ·intro wq hS
    go_simp
   simp only [nrm]
   refine tL 1 24 (.pointer (some ⟨p, 0, none⟩)) ?_ ?_
   ·intro wq hS
    go_simp
   simp only [nrm]
   refine tL 2 25 (.pointer (some ⟨p, 0, none⟩)) ?_ ?_
   ·intro wq hS
    go_simp
   simp only [nrm]
   refine tL 3 26 (.pointer (some ⟨p, 0, none⟩)) ?_ ?_
   ·intro wq hS
    go_simp
   simp only [nrm]
   refine tL 4 27 (.map (some bm)) ?_ ?_
   ·intro wq hS
    have c := (hS.1.cell (p := ⟨p, 0, none⟩) (World.block_lt_of_cell? _ _ m0)).trans m0
    go_simp
   simp only [nrm]
   refine tK 5 28 (.agg #[.int .i64 x.id, .int .i64 x.day]) (by exact rfl) (yieldsIf_load_mid (by rfl) _ _ rfl _ _ rfl [.int .i64 x.id, .int .i64 x.day] _ (fun wq hS => (fun j u hj => by rw [Nat.zero_add]; exact hS.2.cell j hj)) underlying208 rfl ma) ?_
   simp only [nrm]
   refine tL 6 29 (.agg (x.cells tv).toArray) ?_ ?_
   ·intro wq hS
    have hl := HLK.out wq hS.1
    go_simp
   simp only [nrm]
   have B6 := (Below.refl w5.heap.size w5).drew
   clear hh_
   generalize w5.drew = w6 at *
   refine rdy 7 (fun K hK => ?_)
   go_simp
   have D6 : Below w.heap.size w w6 := D5.out.trans (B6.mono D5.out.size)
   refine (ed x tv _ ((HOT.out.step D6).tr) (HOT.out.nilcap) (by have := HC.out; omega)).mono ?_
   rintro e w7 ⟨⟨v7, rfl, o7⟩, b7⟩
   have B7 : Below w5.heap.size w5 w7 := B6.trans (b7.mono B6.size)
   obtain ⟨a7, n7, c7, rfl⟩ := o7.form
   have O7 := hI_ o7
   have L6 : Hid (w5.heap.size ≤ w6.heap.size) := B6.size
   clear o7 b7
   go_wp2_with fail
   refine hK.out _ _ ⟨D5.out.trans (B7.mono D5.out.size), VK.out.step B7⟩ (fun hh_ => ?_)
   clear hK K hh_
   refine rdy 8 (fun K hK => ?_)
   refine s6 (by rfl) ?_
   refine yo 221 162 ptP _ (by rfl) x (.slice a7 n7 c7) (by rfl) ?_
   have B8 := B7.alloc B7.size (.cells (x.cells (.slice a7 n7 c7)).toArray 162)
   have V8 := aa w7 (x.cells (.slice a7 n7 c7)) 162
   have S8 := (Below.refl w7.heap.size w7).alloc (Nat.le_refl _) (.cells (x.cells (.slice a7 n7 c7)).toArray 162)
   refine hK.out _ _ ⟨D5.out.trans (B8.mono D5.out.size), VK.out.step B8⟩ (fun hh_ => ?_)
   simp only [nrm]
   clear hK K hh_
   generalize w7.alloc (.cells (x.cells (.slice a7 n7 c7)).toArray 162) = w8 at *
   have LEN : cs.length ≤ 64 := by
    have := congrArg List.length HM.out
    simp at this
    omega
   have WR : Below wr.heap.size wr w8 := HB5.out.trans (B8.mono HB5.out.size)
   have R8 := HL.out.row.step WR
   refine rdy 9 (fun K hK => ?_)
   refine s6 (by rfl) ?_
   refine wT _ _ 221 162 ptP (by rfl) w.heap.size cs [(x, .slice a7 n7 c7)] _ ⟨w7.heap.size, 0, none⟩ 1 1 (by rfl) (by rfl) rfl R8 (fun c hc => by simp at hc; subst hc; exact ⟨_, _, _, rfl⟩) (fun j u hj => by rw [Go.WideShapes.add_plain, Nat.zero_add]; exact V8.cell j (by simpa [pcs] using hj)) (Nat.le_trans HB.out.size WR.size) (by simp; omega) ?_
   intro v9 w9 o9 b9 g9
   have K9 := gY g9 R8 (by decide)
   have D9 : Below w.heap.size w w9 := (HB.out.trans (WR.mono HB.out.size)).trans b9
   have HNEW : Hid (OwnL w9 w.heap.size v9 (cs ++ [(x, .slice a7 n7 c7)])) := by
    refine ⟨o9, fun c hc => ?_, ?_⟩
    ·rcases List.mem_append.1 hc with hc | hc
     ·exact ((HL.out.tiers c hc).step WR).keeps K9
     ·simp at hc
      subst hc
      exact ((O7.out.lower (Nat.le_trans D5.out.size L6.out)).step S8).keeps K9
    ·refine List.pairwise_append.2 ⟨HL.out.apart, List.pairwise_singleton _ _, fun c hc d hd g e1 e2 => ?_⟩
     simp at hd
     subst hd
     have t1 := (HL.out.tiers c hc).lt g e1
     have t2 := O7.out.block g e2
     have t3 := L6.out
     have t4 := HB5.out.size
     omega
   have HMN : Hid ((cs ++ [(x, Value.slice a7 n7 c7)]).map (fun c => c.1) = vs.take (k + 1)) := by
    obtain ⟨hkx, hxk⟩ := HKX.out
    show _ = _
    rw [List.map_append, HM.out, List.take_succ_eq_append_getElem hkx, hxk]
    rfl
   have VK9 := (VK.out.step B8).grownO_pr g9 R8 (by decide)
   refine hK.out _ _ ⟨D9, VK9⟩ (fun hh_ => ?_)
   simp only [nrm]
   clear hK K
   refine tL 10 3 (v9) ?_ ?_
   ·intro wq hS
    go_simp
   simp only [nrm]
   refine dN ?_
   go_wp2_with fail
   exact ⟨⟨k + 1, _, by omega, by go_num, HMN.out, HNEW.out, D9⟩, by simp [intOf]; omega⟩
end Go.Proofs.YtjkiplndbcmmbaaGreatDoor
namespace Go.Proofs.YtjkiplndbcmmbaaGreatDoor
open Tryz
open Go.RowKit Go.Shelf Go.Maps
def KeepO (w w' : World) : Prop := ∀ (T : TypeId), T ≠ 208 → T ≠ 154 → ∀ (k : Nat) (cs : Array Value) (fr : Nat × Nat), w.heap[k]? = some (Obj.cells cs T fr) → w'.heap[k]? = some (Obj.cells cs T fr)
theorem KeepO.trans {a b c : World} (h : KeepO a b) (k : KeepO b c) : KeepO a c := fun T h1 h2 i cs fr hi => k T h1 h2 i cs fr (h T h1 h2 i cs fr hi)
theorem cm {w w' : World} (h : Below w.heap.size w w') : KeepO w w' := fun T h1 h2 k cs fr hk => (h.block k (Array.getElem?_eq_some_iff.1 hk).1).trans hk
theorem jw {w w' : World} {b : Nat} (h : w.mapTurned w' b) : KeepO w w' := fun T h1 h2 k cs fr hk => by
 refine (bF h k ?_).trans hk
 rintro rfl
 obtain ⟨es, clock, _, _, hb, _⟩ := h
 rw [hb] at hk
 cases hk
theorem jv {w w' : World} {B : Nat} {u : Value} {ks : List (Int × Int)} (g : w.grownBy w' u.ownBlock) (o : OwnK w B u ks) : KeepO w w' := fun T h1 h2 k cs fr hk => by
 refine (g.block k (Array.getElem?_eq_some_iff.1 hk).1 ?_).trans hk
 intro e'
 rcases o.own.2 with ⟨rfl, _⟩ | ⟨q', cap', cur', rfl, _, hq, _⟩
 ·cases e'
 ·simp [Value.ownBlock] at e'
  subst e'
  rw [hk] at hq
  injection hq with hq
  injection hq with _ hq
  exact h1 hq
theorem om {w : World} {p i : Nat} {cs : List Value} (V : VA w p cs 154) (u : Value) : KeepO w (w.setCell ⟨p, i, none⟩ u) := fun T h1 h2 k ds fr hk => by
 refine ((au w p i u).block k ?_).trans hk
 rintro rfl
 rw [V.blk] at hk
 injection hk with hk
 injection hk with _ hk
 exact h2 hk.symm
theorem VA.keepO {w w' : World} {p : Nat} {cs : List Value} {T : TypeId} (h : VA w p cs T) (k : KeepO w w') (h1 : T ≠ 208) (h2 : T ≠ 154) : VA w' p cs T := ⟨k T h1 h2 p _ _ h.blk⟩
theorem OwnT.keepO {w w' : World} {B : Nat} {v : Value} {ts : List (Int × Int)} (h : OwnT w B v ts) (k : KeepO w w') : OwnT w' B v ts := by
 refine ⟨h.wf, h.own.1, ?_⟩
 rcases h.own.2 with h2 | ⟨g, cap, cur, e, hb, hg, r⟩
 ·exact Or.inl h2
 ·exact Or.inr ⟨g, cap, cur, e, hb, k _ (by decide) (by decide) g _ _ hg, r⟩
theorem Upd.refl (q : Nat) (w : World) : Upd q w w := ⟨rfl, rfl, rfl, rfl, fun _ _ => rfl⟩
theorem MapF.notCells {w : World} {b n : Nat} {k T : TypeId} {f : Lit → Option Value} {cs : Array Value} {fr : Nat × Nat} (m : MapF w k b n f) (e : w.heap[b]? = some (Obj.cells cs T fr)) : False := by
 obtain ⟨D, ⟨es, clock, hb, _⟩, _⟩ := m
 rw [hb] at e
 cases e
theorem pf {p B : Nat} {S : Nat → Prop} {vs : List PV} (x : PV) (tv : Value) (w : World) (hC : Cat w p B S vs) (hx : x.wf) (h : Tr w tv x.ts) (hno : ∀ n c, tv = .slice none n c → c = 0) (hc : chk x = 0) (hq : fol vs x = 0) (h64 : vs.length < 64) :
  Calls prog 83 #[.pointer (some ⟨p, 0, none⟩), .agg (x.cells tv).toArray] w fun e w' => e = .returned (.int .i64 0) ∧ Cat w' p B (fun k => S k ∨ w.heap.size ≤ k) (vs ++ [x]) ∧ Below B w w' ∧ KeepO w w' := by
 have HV := hI_ (aa w (x.cells tv) 162)
 have HD := hI_ ((Below.refl w.heap.size w).alloc (Nat.le_refl _) (.cells (x.cells tv).toArray 162))
 have HT := hI_ (h.step HD.out)
 have HC := hI_ (hC.step HD.out)
 have HN := hI_ hno
 have HCK := hI_ hc
 have HFQ := hI_ hq
 have HBp := hI_ ((And.intro hC.le hC.lt))
 have HTH : Hid (∀ y ∈ vs, ¬ (y.id = x.id ∧ y.day = x.day)) := by
  intro y hy e
  have : there vs x.id x.day = true := by
   unfold there
   rw [List.any_eq_true]
   exact ⟨y, hy, by simpa using e⟩
  unfold fol at hq
  rw [this] at hq
  cases hq
 have HL8 := hI_ (gv hc)
 clear h hC hno
 go_enter func83, ntmps83
 go_wp2_with (refine ldA rfl 162 _ rfl w.heap.size (by rfl) _ _ HV.out _ underlying162 rfl infoP ?_)
 refine (cN x tv _ HT.out).mono ?_
 rintro e w1 ⟨rfl, b1⟩
 rw [hc]
 have V1 := hI_ (HV.out.step b1)
 have C1 := hI_ (HC.out.step b1)
 have D1 := hI_ (HD.out.trans (b1.mono HD.out.size))
 have T1 := hI_ (HT.out.step b1)
 clear b1 HV HC HD hc HT
 go_wp2_with (refine ldA rfl 162 _ rfl w.heap.size (by rfl) _ _ V1.out _ underlying162 rfl infoP ?_)
 refine (fb x tv _ C1.out hx).mono ?_
 rintro e w2 ⟨rfl, b2⟩
 rw [hq]
 have D2 := hI_ (D1.out.trans (b2.mono D1.out.size))
 have C2 := hI_ (C1.out.step b2)
 have V2 := hI_ (V1.out.step b2)
 have T2 := hI_ (T1.out.step b2)
 clear b2 V1 C1 D1 T1 hq
 obtain ⟨bm0, sa, cap, a1, g2, g3⟩ := C2.out.order
 have c1 := a1.cell 1 (v := .slice sa vs.length cap) rfl
 have q0 := V2.out.cell 0 (v := .int .i64 x.id) rfl
 have q3 := V2.out.cell 3 (v := .int .i64 x.day) rfl
 obtain ⟨n, hn⟩ : ∃ n, n = vs.length := ⟨_, rfl⟩
 have HNL := hI_ hn
 rw [← hn] at c1 h64
 have d1 : (n : Int) < 64 := by omega
 clear a1 hn
 go_upto_region 12 with fail
 have BA := (Below.refl w2.heap.size w2).alloc (Nat.le_refl _) (.cells #[.int .i64 x.id, .int .i64 x.day] 208)
 have VK := aa w2 [.int .i64 x.id, .int .i64 x.day] 208
 have V3 := V2.out.step BA
 have C3 := C2.out.step BA
 have T3 := hI_ (T2.out.step BA)
 have D3 := hI_ (D2.out.trans (BA.mono D2.out.size))
 have lk := V2.out.lt
 clear c1 q0 q3 V2 C2 T2 D2 BA
 generalize w2.heap.size = pk at *
 generalize w2.alloc (.cells #[.int .i64 x.id, .int .i64 x.day] 208) = w3 at *
 obtain ⟨h1, h2, h3, bm, sv, m, f, a1, a2, a3, a4, a5, a6, a7, a8⟩ := C3
 have HMM := hI_ ((And.intro h1 (And.intro h2 (And.intro h3 (And.intro a2 (And.intro a3 (And.intro a5 (And.intro a7 a8))))))))
 have HK6 := hI_ a6
 have HF4 : Hid (MapF w3 208 bm m f) := a4
 have HA1 := hI_ a1
 have HVK := hI_ VK
 have HV3 := hI_ V3
 clear h1 h2 h3 a2 a3 a5 a7 a8 a6 a4
 refine wp_region_noPanic ?_
 refine wp_region_held_drew (S := fun w' => VA w' p [.map (some bm), sv] 154 ∧ VA w' pk [.int .i64 x.id, .int .i64 x.day] 208 ∧ VA w' w.heap.size (x.cells tv) 162) (by kernel_rfl) ⟨a1.drew, VK.drew, V3.drew⟩ (fun hh_ => ?_)
 clear a1 VK V3 hh_
 refine wpAnyH_take (i := 0) (v := .pointer (some ⟨p, 0, none⟩)) (by exact rfl) (by kernel_rfl) (by kernel_rfl) (by kernel_rfl) (fun _ _ _ h => h) (Or.inl ⟨by rfl, ?_⟩) ⟨HA1.out.drew, HVK.out.drew, HV3.out.drew⟩ ?_
 ·intro wq hS
  go_simp
 refine wpAnyH_take (i := 1) (v := .pointer (some ⟨p, 0, none⟩)) (by exact rfl) (by kernel_rfl) (by kernel_rfl) (by kernel_rfl) (fun _ _ _ h => h) (Or.inl ⟨by rfl, ?_⟩) ⟨HA1.out.drew, HVK.out.drew, HV3.out.drew⟩ ?_
 ·intro wq hS
  go_simp
 refine wpAnyH_take (i := 2) (v := .pointer (some ⟨p, 0, none⟩)) (by exact rfl) (by kernel_rfl) (by kernel_rfl) (by kernel_rfl) (fun _ _ _ h => h) (Or.inl ⟨by rfl, ?_⟩) ⟨HA1.out.drew, HVK.out.drew, HV3.out.drew⟩ ?_
 ·intro wq hS
  go_simp
 refine wpAnyH_take (i := 3) (v := .map (some bm)) (by exact rfl) (by kernel_rfl) (by kernel_rfl) (by kernel_rfl) (fun _ _ _ h => h) (Or.inl ⟨by rfl, ?_⟩) ⟨HA1.out.drew, HVK.out.drew, HV3.out.drew⟩ ?_
 ·intro wq hS
  have c := hS.1.cell 0 (v := .map (some bm)) rfl
  go_simp
 refine wpAnyH_take (i := 4) (v := .agg #[.int .i64 x.id, .int .i64 x.day]) (by exact rfl) (by kernel_rfl) (by kernel_rfl) (by kernel_rfl) (fun _ _ _ h => h) (Or.inl ⟨by rfl, ?_⟩) ⟨HA1.out.drew, HVK.out.drew, HV3.out.drew⟩ ?_
 ·intro wq hS
  have c := hS.2.1.cell 0 (v := .int .i64 x.id) rfl
  have d := hS.2.1.cell 1 (v := .int .i64 x.day) rfl
  go_simp
 refine wpAnyH_take (i := 5) (v := .agg (x.cells tv).toArray) (by exact rfl) (by kernel_rfl) (by kernel_rfl) (by kernel_rfl) (fun _ _ _ h => h) (yieldsIf_load_mid (by rfl) _ _ rfl _ _ rfl _ _ (fun wq hS => (fun j u hj => by rw [Nat.zero_add]; exact hS.2.2.cell j hj)) underlying162 rfl infoP) ⟨HA1.out.drew, HVK.out.drew, HV3.out.drew⟩ ?_
 refine rdy 6 (fun K hK => ?_)
 go_simp
 refine (ed x tv _ (T3.out.step (Below.refl w3.heap.size w3).drew) HN.out (by have := HL8.out; omega)).mono ?_
 rintro e w4 ⟨⟨v4, rfl, o4⟩, b4⟩
 have b4 : Below w3.heap.size w3 w4 := ((Below.refl w3.heap.size w3).drew).trans b4
 have O4 := hI_ o4
 have HB4 := hI_ b4
 clear o4 b4
 go_wp2_with fail
 refine hK.out _ _ ⟨HA1.out.step HB4.out, HVK.out.step HB4.out, HV3.out.step HB4.out⟩ (fun hh_ => ?_)
 clear hK K hh_
 refine rdy 7 (fun K hK => ?_)
 refine xX (by rfl) _ _ _ 151 (by rfl) 208 162 keyedP underlying151 bm m f (by rfl) (HF4.out.step HB4.out) (by have := HMM.out.2.2.2.2.2.1; have := HMM.out.2.2.1; unfold maxLen; omega) (.agg #[.int .i64 x.id, .int .i64 x.day]) (.agg (x.cells v4).toArray) (kl x.id x.day) (by rfl) (by rfl) (dB hx.id hx.day) ?_
 intro w5 m5 t5
 have A5 := (HA1.out.step HB4.out).turned (HF4.out.step HB4.out) t5
 have K5 := (HVK.out.step HB4.out).turned (HF4.out.step HB4.out) t5
 have X5 := (HV3.out.step HB4.out).turned (HF4.out.step HB4.out) t5
 refine hK.out _ _ ⟨A5, K5, X5⟩ (fun hh_ => ?_)
 clear hK K hh_
 refine dN ?_
 have OK5 := (HK6.out.step HB4.out).turned (HF4.out.step HB4.out) t5
 have OT5 := hI_ (O4.out.turned (HF4.out.step HB4.out) t5)
 have HM5 : Hid (MapF w5 208 bm (m + 1) (upF f (kl x.id x.day) (.agg (x.cells v4).toArray))) := m5
 have HT5 : Hid (World.mapTurned w4 w5 bm) := t5
 clear m5 t5 X5
 go_upto_region 13 with fail
 obtain ⟨sa', sn', sk', rfl⟩ := OK5.form
 have BA := (Below.refl w5.heap.size w5).alloc (Nat.le_refl _) (.cells #[.int .i64 x.id, .int .i64 x.day] 208)
 have c1 := A5.cell 1 (v := .slice sa' sn' sk') rfl
 have c2 := (A5.step BA).cell 1 (v := .slice sa' sn' sk') rfl
 have q0 := K5.cell 0 (v := .int .i64 x.id) rfl
 have q1 := K5.cell 1 (v := .int .i64 x.day) rfl
 have OA := hI_ (OK5.step BA)
 have VA6 := hI_ (A5.step BA)
 have WF1 : Hid (∀ t ∈ [(x.id, x.day)], I64 t.1 ∧ I64 t.2) := by
  intro t ht
  simp only [List.mem_cons, List.not_mem_nil, or_false] at ht
  subst ht
  exact ⟨hx.id, hx.day⟩
 have CE1 : Hid (∀ k, k < [(x.id, x.day)].length → (w5.alloc (.cells #[.int .i64 x.id, .int .i64 x.day] 208)).cell? ⟨w5.heap.size, 0 + 2 * k, none⟩ = some (.int .i64 ([(x.id, x.day)].getD k (0, 0)).1) ∧ (w5.alloc (.cells #[.int .i64 x.id, .int .i64 x.day] 208)).cell? ⟨w5.heap.size, 0 + 2 * k + 1, none⟩ = some (.int .i64 ([(x.id, x.day)].getD k (0, 0)).2)) := by
  intro k hk
  have VT := aa w5 [.int .i64 x.id, .int .i64 x.day] 208
  obtain rfl : k = 0 := by simpa using hk
  exact ⟨VT.cell 0 rfl, VT.cell 1 rfl⟩
 have lp5 : p < w5.heap.size := A5.lt
 have SZ1 : Hid (B ≤ (w5.alloc (.cells #[.int .i64 x.id, .int .i64 x.day] 208)).heap.size) := by
  show B ≤ _
  have := HBp.out.1
  rw [World.size_alloc]
  omega
 have LN1 : Hid ((keysOf vs).length + [(x.id, x.day)].length ≤ 8796093022208) := by
  show (keysOf vs).length + 1 ≤ _
  have := HNL.out
  simp [keysOf]
  omega
 clear BA A5 K5 OK5
 go_region_law (refine uC (by rfl) _ _ rfl B (keysOf vs) [(x.id, x.day)] (.slice sa' sn' sk') w5.heap.size 0 1 (by rfl) (by rfl) (OwnK.mk OA.out.wf OA.out.own) WF1.out CE1.out SZ1.out LN1.out ?_; intro v6 w6 o6 b6 g6; obtain ⟨va, vn, vc, rfl⟩ := o6.form; have V6 := VA6.out.drew.grownK g6 (OwnK.mk OA.out.wf OA.out.own) (by decide); have cz := V6.cell 1 (v := .slice sa' sn' sk') rfl; have fz := V6.free 1)
 all_goals (
  go_wp2_with fail
  go_ret
  obtain ⟨h1, h2, h3, a2, a3, a5, a7, a8⟩ := HMM.out
  have l3 := D3.out.size
  have hp := HBp.out
  have W4 : KeepO w3 w4 := cm HB4.out
  have W6 : KeepO (w5.alloc (.cells #[.int .i64 x.id, .int .i64 x.day] 208)).drew w6 := jv g6 (OwnK.mk OA.out.wf OA.out.own)
  have W5 : KeepO w5 (w5.alloc (.cells #[.int .i64 x.id, .int .i64 x.day] 208)).drew := cm (((Below.refl w5.heap.size w5).alloc (Nat.le_refl _) _).drew)
  have b56 : Below B w5 w6 := (((Below.refl B w5).alloc (by omega) (.cells #[.int .i64 x.id, .int .i64 x.day] 208)).drew).trans b6
  have b35 : Below B w3 w5 := (HB4.out.mono (by omega)).trans (gH HT5.out a3)
  have b03 : Below B w w3 := D3.out.mono (by omega)
  exact ⟨rfl, iN hx HCK.out h1 h2 (by have := HNL.out; omega) a2 a3 a5 a7 a8 HTH.out HF4.out HB4.out (OwnT.mk O4.out.wf O4.out.own) l3 (by omega) HM5.out HT5.out (OwnK.mk OA.out.wf OA.out.own) g6 o6 V6, ((b03.trans b35).trans b56).setCell (p := ⟨p, 1, none⟩) a2 _,
   ((((cm D3.out).trans W4).trans (jw HT5.out)).trans (W5.trans W6)).trans (om V6 _)⟩)
theorem jZ {p B : Nat} {S : Nat → Prop} {vs : List PV} (x : PV) (tv : Value) (w : World) (hC : Cat w p B S vs) (hx : x.wf) (h : Tr w tv x.ts) (hno : ∀ n c, tv = .slice none n c → c = 0) :
  Calls prog 83 #[.pointer (some ⟨p, 0, none⟩), .agg (x.cells tv).toArray] w fun e w' => e = .returned (.int .i64 (addE vs x)) ∧ ((addE vs x = 0 ∧ Cat w' p B (fun k => S k ∨ w.heap.size ≤ k) (vs ++ [x])) ∨ (addE vs x ≠ 0 ∧ Cat w' p B S vs)) ∧ Below B w w' ∧ KeepO w w' := by
 by_cases h0 : addE vs x = 0
 ·have h1 : chk x = 0 := by
   by_cases e : chk x = 0
   ·exact e
   ·unfold addE at h0
    rw [if_pos e] at h0
    exact h0
  have h2 : fol vs x = 0 := by
   by_cases e : fol vs x = 0
   ·exact e
   ·unfold addE at h0
    rw [if_neg (fun h => h h1), if_pos e] at h0
    exact h0
  have h3 : vs.length < 64 := by
   unfold addE at h0
   rw [if_neg (fun h => h h1), if_neg (fun h => h h2)] at h0
   by_cases e : 64 ≤ vs.length
   ·rw [if_pos e] at h0; cases h0
   ·omega
  refine (pf x tv w hC hx h hno h1 h2 h3).mono ?_
  rintro e w' ⟨rfl, a, b, c⟩
  exact ⟨by rw [h0], Or.inl ⟨h0, a⟩, b, c⟩
 ·refine (uU x tv w hC hx h h0).mono ?_
  rintro e w' ⟨rfl, b⟩
  exact ⟨rfl, Or.inr ⟨h0, hC.step b⟩, b.mono (by have := hC.le; have := hC.lt; omega), cm b⟩
end Go.Proofs.YtjkiplndbcmmbaaGreatDoor