/- texts of the model: Mqb Mqc Mqd Mqe Mqf Moq Mor Mqh Mqi Mqj Mqk Mql Moy Mqm -/
import Derived.Test.YtjkiplndbcmmbaaGreatDoorV33
import Derived.Test.YtjkiplndbcmmbaaGreatDoorV28
import Derived.Test.YtjkiplndbcmmbaaGreatDoorV32
import Derived.Test.YtjkiplndbcmmbaaGreatDoorV13
set_option linter.unusedVariables false
set_option linter.unusedSimpArgs false
set_option maxHeartbeats 16000000
namespace Go.Proofs.YtjkiplndbcmmbaaGreatDoor
open Tryz
open Go.RowKit Go.Maps
def FB.reach (w : World) (B : Nat) (F : FB) (j : Nat) : Prop := F.core j ∨ j = F.pc ∨ j = F.bm ∨ (B ≤ j ∧ ∃ cs fr, w.heap[j]? = some (Obj.cells cs 81 fr)) ∨ (B ≤ j ∧ ∃ cs fr, w.heap[j]? = some (Obj.cells cs 208 fr))
theorem mh {w : World} {k : TypeId} {b n : Nat} {f : Lit → Option Value} (h : MapF w k b n f) : ∃ es clock, w.heap[b]? = some (.map es clock) := by
 obtain ⟨D, ⟨es, clock, hb, _⟩, _⟩ := h
 exact ⟨es, clock, hb⟩
theorem MD.catO {w : World} {B : Nat} {F : FB} {M : PM} (h : MD w B F M) {svA : Value} (hA : VA w F.pc [.map (some F.bm), svA] 154) : (∃ es clock, w.heap[F.bm]? = some (.map es clock)) ∧ ∀ g, svA.ownBlock = some g → ∃ cs, w.heap[g]? = some (.cells cs 208 (0, 0)) := by
 obtain ⟨S, hC⟩ := h.cat
 obtain ⟨bm', sv', n, f, a1, a2, a3, a4, a5, a6, a7, a8⟩ := hC.mem
 have e := a1.blk.symm.trans hA.blk
 simp only [Option.some.injEq, Obj.cells.injEq, Array.mk.injEq, List.cons.injEq, Value.map.injEq] at e
 obtain rfl := e.1.1
 obtain rfl := e.1.2.1
 exact ⟨mh a4, fun g hg => a6.blkT hg⟩
theorem MD.catL {w : World} {B : Nat} {F : FB} {M : PM} (h : MD w B F M) {svA : Value} (hA : VA w F.pc [.map (some F.bm), svA] 154) : B ≤ F.pc ∧ B ≤ F.bm ∧ ∀ g, svA.ownBlock = some g → B ≤ g := by
 obtain ⟨S, hC⟩ := h.cat
 obtain ⟨bm', sv', n, f, a1, a2, a3, a4, a5, a6, a7, a8⟩ := hC.mem
 have e := a1.blk.symm.trans hA.blk
 simp only [Option.some.injEq, Obj.cells.injEq, Array.mk.injEq, List.cons.injEq, Value.map.injEq] at e
 obtain rfl := e.1.1
 obtain rfl := e.1.2.1
 exact ⟨a2, a3, fun g hg => a6.block g hg⟩
theorem MD.reach_low {w w1 : World} {B : Nat} {F : FB} {M : PM} (h : MD w B F M) {j : Nat} (hj : F.reach w1 B j) : B ≤ j := by
 obtain ⟨sv, hV⟩ := h.cbm
 rcases hj with hj | hj | hj | hj | hj
 ·exact h.core_low hj
 ·rw [hj]; exact (h.catL hV).1
 ·rw [hj]; exact (h.catL hV).2.1
 ·exact hj.1
 ·exact hj.1
theorem MD.addV {w w' : World} {B : Nat} {F : FB} {M : PM} {x : PV} {S' : Nat → Prop} {svA : Value} (h : MD w B F M) (hA : VA w F.pc [.map (some F.bm), svA] 154) (k : But (fun j => j = F.pc ∨ j = F.bm ∨ svA.ownBlock = some j) w w') (C : Cat w' F.pc B S' (M.vs ++ [x])) (V : ∃ sv', VA w' F.pc [.map (some F.bm), sv'] 154) (hx : addE M.vs x = 0) : MD w' B F { M with vs := M.vs ++ [x] } := by
 obtain ⟨hm, hO⟩ := h.catO hA
 have m := h.maps
 have nv : ∀ {p : Nat} {cs : List Value} {T : TypeId}, VA w p cs T → T ≠ 154 → T ≠ 208 → ¬ (p = F.pc ∨ p = F.bm ∨ svA.ownBlock = some p) := fun v h1 h2 e => by
  rcases e with e | e | e
  ·exact v.ne hA h1 e
  ·exact v.neM hm e
  ·obtain ⟨cs, e3⟩ := hO _ e
   have := v.blk.symm.trans e3
   simp only [Option.some.injEq, Obj.cells.injEq] at this
   exact h2 this.2.1
 have nm : ∀ {p : Nat}, (∃ es c, w.heap[p]? = some (Obj.map es c)) → p ≠ F.bm → ¬ (p = F.pc ∨ p = F.bm ∨ svA.ownBlock = some p) := fun hp hne e => by
  rcases e with e | e | e
  ·exact hA.neM hp e.symm
  ·exact hne e
  ·obtain ⟨cs, e3⟩ := hO _ e
   obtain ⟨es, c, e4⟩ := hp
   have := e3.symm.trans e4
   cases this
 refine ⟨h.va.but k (nv h.va (by decide) (by decide)), ⟨S', C⟩, V, h.led.but k (nv h.led.va (by decide) (by decide)) (nm (bP h.led.map) (fun e => m.1 e.symm)), h.rts.but k (nm h.rts.isMap (fun e => m.2.1 e.symm)), h.kys.but k (nm h.kys.isMap (fun e => m.2.2.1 e.symm)), h.row.but k (fun g hg hx => ?_), h.len, fun j a y ha hy => ?_, h.low, h.mps, h.abs, ⟨h.wf.day, h.wf.acs, h.wf.sort, h.wf.len, h.wf.rats, h.wf.seq, h.wf.run, fun i y hy => ?_⟩⟩
 ·obtain ⟨cs, e⟩ := h.row.blkT hg
  rcases hx with rfl | rfl | hx
  ·have := e.symm.trans hA.blk
   simp only [Option.some.injEq, Obj.cells.injEq] at this
   exact absurd this.2.1 (by decide)
  ·obtain ⟨es, c, e2⟩ := hm
   have := e.symm.trans e2
   cases this
  ·obtain ⟨cs2, e2⟩ := hO _ hx
   have := e.symm.trans e2
   simp only [Option.some.injEq, Obj.cells.injEq] at this
   exact absurd this.2.1 (by decide)
 ·have hb' := h.acs j a y ha hy
  exact ⟨hb'.1.but k (nv hb'.1 (by decide) (by decide)), hb'.2.but k (nm hb'.2.isMap (fun e => (h.maps_ne hy).1 e.symm))⟩
 ·show addE ((M.vs ++ [x]).take i) y = 0
  have hy : (M.vs ++ [x])[i]? = some y := hy
  rcases Nat.lt_or_ge i M.vs.length with hi | hi
  ·rw [List.getElem?_append_left hi] at hy
   rw [List.take_append_of_le_length (by omega)]
   exact h.wf.adds i y hy
  ·rw [List.getElem?_append_right hi] at hy
   obtain ⟨e1, e2⟩ : i = M.vs.length ∧ x = y := by
    cases hd : i - M.vs.length with
    | zero => rw [hd] at hy; simp at hy; exact ⟨by omega, hy⟩
    | succ n => rw [hd] at hy; simp at hy
   subst e1 e2
   rw [List.take_append_of_le_length (Nat.le_refl _), List.take_length]
   exact hx
theorem tt {vs : List PV} {x : PV} (h0 : addE vs x = 0) : chk x = 0 ∧ fol vs x = 0 ∧ vs.length < 64 := by
 have h1 : chk x = 0 := by
  by_cases e : chk x = 0
  ·exact e
  ·unfold addE at h0
   rw [if_pos e] at h0
   exact h0
 have h2 : fol vs x = 0 := by
  by_cases e : fol vs x = 0
  ·exact e
  ·unfold addE at h0
   rw [if_neg (fun h => h h1), if_pos e] at h0
   exact h0
 refine ⟨h1, h2, ?_⟩
 unfold addE at h0
 rw [if_neg (fun h => h h1), if_neg (fun h => h h2)] at h0
 by_cases e : 64 ≤ vs.length
 ·rw [if_pos e] at h0; cases h0
 ·omega
theorem s7 (w : World) (B : Nat) (F : FB) (M : PM) (h : MD w B F M) (x : PV) (tv : Value) (hx : x.wf) (R : Tr w tv x.ts) (hno : ∀ n c, tv = .slice none n c → c = 0) (h0 : addE M.vs x = 0) :
  Calls prog 83 #[.pointer (some ⟨F.pc, 0, none⟩), .agg (x.cells tv).toArray] w fun e w' => e = .returned (.int .i64 0) ∧ MD w' B F { M with vs := M.vs ++ [x] } ∧ But (fun j => j = F.pc ∨ j = F.bm ∨ (B ≤ j ∧ ∃ cs fr, w.heap[j]? = some (Obj.cells cs 208 fr))) w w' := by
 obtain ⟨S, hC⟩ := h.cat
 obtain ⟨sv, hV⟩ := h.cbm
 obtain ⟨h1, h2, h3⟩ := tt h0
 refine (oh x tv w hC hV hx R hno h1 h2 h3).mono ?_
 rintro e w' ⟨rfl, C, b, _, V, k⟩
 refine ⟨rfl, h.addV hV k C V h0, k.mono (fun j hj => ?_)⟩
 rcases hj with hj | hj | hj
 ·exact Or.inl hj
 ·exact Or.inr (Or.inl hj)
 ·obtain ⟨cs, e⟩ := (h.catO hV).2 j hj
  exact Or.inr (Or.inr ⟨(h.catL hV).2.2 j hj, _, _, e⟩)
set_option maxRecDepth 100000 in
theorem oI (w : World) (B : Nat) (F : FB) (M : PM) (hM : MD w B F M) (T : TBL w) (hB : 6 ≤ B) (e : EV) (tv : Value) (hop : e.op = 1) (he : e.ok) (R : Tr w tv e.ts) (hno : ∀ n c, tv = .slice none n c → c = 0) (h0 : addE M.vs e.pv = 0) :
  Calls prog 55 #[.pointer (some ⟨F.pm, 0, none⟩), .agg (e.cells tv).toArray] w fun r w' => r = .returned (.tuple #[]) ∧ MD w' B F ({ M with vs := M.vs ++ [e.pv] }) ∧ But (F.reach w B) w w' := by
 have b0 := (Below.refl w.heap.size w).alloc (Nat.le_refl _) (.cells (e.cells tv).toArray 31)
 have b1 := b0.alloc (by simp) (.cells #[.int .i64 0, .int .i64 0, .int .i64 0, .int .i64 0, .int .i64 0, .int .i64 0, .int .i64 0, .int .i64 0] 28)
 have V00 := aa w (e.cells tv) 31
 have V0 := V00.alloc (.cells #[.int .i64 0, .int .i64 0, .int .i64 0, .int .i64 0, .int .i64 0, .int .i64 0, .int .i64 0, .int .i64 0] 28)
 have hn0 := aa (w.alloc (.cells (e.cells tv).toArray 31)) ([.int .i64 0, .int .i64 0, .int .i64 0, .int .i64 0, .int .i64 0, .int .i64 0, .int .i64 0, .int .i64 0] : List Value) 28
 rw [World.size_alloc] at hn0
 have HN0 := hI_ hn0
 have y0 := V00.cell 2 (v := .int .i64 e.n0) rfl
 have y1 := V00.cell 3 (v := .int .i64 e.n1) rfl
 have y2 := V00.cell 4 (v := .int .i64 e.n2) rfl
 have y3 := V00.cell 5 (v := .int .i64 e.n3) rfl
 have y4 := V00.cell 6 (v := .int .i64 e.n4) rfl
 have y5 := V00.cell 7 (v := .int .i64 e.n5) rfl
 have y6 := V00.cell 8 (v := .int .i64 e.n6) rfl
 have y7 := V00.cell 9 (v := .int .i64 e.n7) rfl
 have HTF : Hid (∃ a n c, tv = Value.slice a n c) := (show ∃ a n c, tv = Value.slice a n c from by obtain ⟨a, c, e, _⟩ := R.form; exact ⟨a, _, c, e⟩)
 have HSZ := (show Hid (∀ j, w.heap.size ≤ j → ¬ F.reach w B j) from fun j hj hr => by
  obtain ⟨sv, hV⟩ := hM.cbm
  rcases hr with hr | hr | hr | ⟨_, cs, fr, hr⟩ | ⟨_, cs, fr, hr⟩
  ·have := hM.core_lt hr; omega
  ·have := hV.lt; omega
  ·obtain ⟨es, c, e⟩ := (hM.catO hV).1
   have := (Array.getElem?_eq_some_iff.1 e).1
   omega
  ·have := (Array.getElem?_eq_some_iff.1 hr).1
   omega
  ·have := (Array.getElem?_eq_some_iff.1 hr).1
   omega)
 have HPC : Hid (∀ j, (j = F.pc ∨ j = F.bm) → F.reach w B j) := fun j hj => hj.elim (fun e => Or.inr (Or.inl e)) (fun e => Or.inr (Or.inr (Or.inl e)))
 have HE0 := hI_ V0
 have HB0 := hI_ b1
 have HH : Hid (MD w B F M ∧ TBL w) := ⟨hM, T⟩
 have HQ : Hid (6 ≤ B ∧ ∀ j, F.core j → j < w.heap.size) := ⟨hB, fun j hj => hM.core_lt hj⟩
 have HOP : Hid (e.op = 1) := hop
 have H_he := hI_ he
 have H_R := hI_ R
 have H_hno := hI_ hno
 have H_h0 := hI_ h0
 clear he R hno h0
 clear b0 b1 V00 V0 hn0 hM T hB hop
 go_enter func55, ntmps55
 go_upto_region 2 with (refine stA rfl 28 _ _ rfl (w.heap.size + 1) (by rfl) ([.int .i64 0, .int .i64 0, .int .i64 0, .int .i64 0, .int .i64 0, .int .i64 0, .int .i64 0, .int .i64 0] : List Value) [.int .i64 e.n0, .int .i64 e.n1, .int .i64 e.n2, .int .i64 e.n3, .int .i64 e.n4, .int .i64 e.n5, .int .i64 e.n6, .int .i64 e.n7] (by rfl) 28 HN0.out bg rfl (aD e) ?_; intro w1 hv1 hu1)
 have hb1 := hu1.bel HB0.out (by omega)
 have HM_1 : Hid (MD w1 B F M) := HH.out.1.step hb1
 have HT_1 : Hid (TBL w1) := HH.out.2.step hb1
 have BB_1 := hI_ hb1
 have HE_1 : Hid (VA w1 w.heap.size (e.cells tv) 31) := HE0.out.upd hu1 (by omega)
 have HTR_1 : Hid (Tr w1 tv e.ts) := H_R.out.step hb1
 have HN_1 : Hid (VA w1 (w.heap.size + 1) [.int .i64 e.n0, .int .i64 e.n1, .int .i64 e.n2, .int .i64 e.n3, .int .i64 e.n4, .int .i64 e.n5, .int .i64 e.n6, .int .i64 e.n7] 28) := hv1
 have y : w1.cell? ⟨w.heap.size, 0, none⟩ = some (.int .u8 1) := by have := HE_1.out.cell 0 (v := .int .u8 (e.op : Int)) rfl; rw [HOP.out] at this; exact this
 clear hb1 hv1 hu1 HN0 HE0 HB0 HH y0 y1 y2 y3 y4 y5 y6 y7
 go_upto_region 4 with fail
 clear y
 refine wp_region_noPanic ?_
 refine wp_region_held_drew (S := fun V => (∃ cs : List Value, VA V (w.heap.size + 1) cs 28) ∧ VA V w.heap.size (e.cells tv) 31 ∧ VA V F.pm (mcells F M) 100) (by kernel_rfl) (⟨⟨_, HN_1.out.drew⟩, HE_1.out.drew, HM_1.out.va.drew⟩) ?_
 intro hh_
 have bz := (Below.refl w1.heap.size w1).drew
 have HM_z := hI_ (HM_1.out.step bz)
 have HT_z := hI_ (HT_1.out.step bz)
 have HN_z := hI_ (HN_1.out.step bz)
 have HE_z := hI_ (HE_1.out.step bz)
 have HTR_z := hI_ (HTR_1.out.step bz)
 have BB_z := hI_ (BB_1.out.trans (bz.mono BB_1.out.size))
 generalize w1.drew = wz at *
 clear bz
 refine tK 0 12 (.pointer (some ⟨F.pm, 0, none⟩)) (by exact rfl) (Or.inl ⟨by rfl, ?_⟩) ?_
 ·intro wq hS
  go_simp
 try simp only [nrm]
 refine tK 1 13 (.pointer (some ⟨F.pm, 0, none⟩)) (by exact rfl) (Or.inl ⟨by rfl, ?_⟩) ?_
 ·intro wq hS
  go_simp
 try simp only [nrm]
 refine tK 2 14 (.pointer (some ⟨F.pm, 1, none⟩)) (by exact rfl) (Or.inl ⟨by rfl, ?_⟩) ?_
 ·intro wq hS
  go_simp
 try simp only [nrm]
 refine tK 3 15 (.pointer (some ⟨F.pc, 0, none⟩)) (by exact rfl) (Or.inl ⟨by rfl, ?_⟩) ?_
 ·intro wq hS
  have c := VA.cell hS.2.2 1 (v := .pointer (some ⟨F.pc, 0, none⟩)) rfl
  go_simp
 try simp only [nrm]
 refine tK 4 16 (.agg (e.cells tv).toArray) (by exact rfl) (yieldsIf_load_mid (by rfl) _ _ rfl _ _ rfl _ _ (fun wq hS => (fun j u hj => by rw [Nat.zero_add]; exact VA.cell hS.2.1 j hj)) underlying31 rfl ao) ?_
 try simp only [nrm]
 clear hh_
 refine rdy 5 (fun K hK => ?_)
 go_simp
 refine Calls.mono (fm e tv wz HTF.out) ?_
 rintro e wu ⟨rfl, bu⟩
 have HM_u := hI_ (HM_z.out.step bu)
 have HT_u := hI_ (HT_z.out.step bu)
 have HN_u := hI_ (HN_z.out.step bu)
 have HE_u := hI_ (HE_z.out.step bu)
 have HTR_u := hI_ (HTR_z.out.step bu)
 have BB_u := hI_ (BB_z.out.trans (bu.mono BB_z.out.size))
 clear bu
 go_wp2_with fail
 refine hK.out _ _ (⟨⟨_, HN_u.out⟩, HE_u.out, HM_u.out.va⟩) (fun hh_ => ?_)
 try simp only [nrm]
 clear hK K
 clear hh_
 refine rdy 6 (fun K hK => ?_)
 go_simp
 refine Calls.mono (s7 wu B F M HM_u.out e.pv tv (EV.pvwf H_he.out) HTR_u.out H_hno.out H_h0.out) ?_
 rintro r w4 ⟨rfl, h1, h2⟩
 have HM_4 : Hid (MD w4 B F _) := h1
 have hn : ∀ {p : Nat} {cs : List Value} {T : TypeId}, VA wu p cs T → T ≠ 154 → T ≠ 208 → ¬ (p = F.pc ∨ p = F.bm ∨ (B ≤ p ∧ ∃ cs fr, wu.heap[p]? = some (Obj.cells cs 208 fr))) := fun v n1 n2 hj => by
  obtain ⟨sv, hV⟩ := HM_u.out.cbm
  rcases hj with e | e | ⟨hBj, cs, fr, e⟩
  ·exact v.ne hV n1 e
  ·exact v.neM (HM_u.out.catO hV).1 e
  ·have := v.blk.symm.trans e
   simp only [Option.some.injEq, Obj.cells.injEq] at this
   exact n2 this.2.1
 have HN_4 := hI_ (HN_u.out.but h2 (hn HN_u.out (by decide) (by decide)))
 have HE_4 := hI_ (HE_u.out.but h2 (hn HE_u.out (by decide) (by decide)))
 have HB_4 : Hid (But (F.reach w B) w w4) := (af BB_u.out (F.reach w B)).trans h2 (fun j hl hj => by
  rcases hj with e | e | ⟨hBj, cs, fr, e⟩
  ·exact HPC.out j (Or.inl e)
  ·exact HPC.out j (Or.inr e)
  ·exact Or.inr (Or.inr (Or.inr (Or.inr ⟨hBj, cs, fr, by rw [← BB_u.out.block j hl]; exact e⟩))))
 clear h1 h2 hn
 go_wp2_with fail
 refine hK.out _ _ ⟨⟨_, HN_4.out⟩, HE_4.out, HM_4.out.va⟩ (fun hh_ => ?_)
 try simp only [nrm]
 clear hK K hh_
 refine wpAnyH_done (by kernel_rfl) ?_ _
 refine NoPanic.normal ?_
 go_wp2_with fail
 exact bodyPost_end (v := .tuple #[]) (by simp [results, results55, go_sem]) rfl ⟨rfl, HM_4.out, HB_4.out⟩
set_option maxRecDepth 100000 in
theorem gI (w : World) (B : Nat) (v u : Value) (xs : List Nat) (y : Nat) (h : Own KP w B v xs) (hu : Sl KP w u [y]) (hno : ∀ n c, u = .slice none n c → c = 0) (hB : B ≤ w.heap.size) (hl : xs.length ≤ 256) :
    Calls prog 139 #[v, .int .i64 (xs.length : Int), u] w fun e w' => ∃ v', e = .returned v' ∧ Own KP w' B v' (xs ++ [y]) ∧ Below B w w' ∧ w.grownBy w' v.ownBlock := by
  obtain ⟨sa, sc, rfl, hc1, hc2⟩ := h.form
  obtain ⟨ua, uc, rfl, hd1, hd2, hd3⟩ := hu.form
  have HX := hI_ h
  have HU := hI_ hu
  have HNO := hI_ hno
  have HBB := hI_ hB
  have HLL := hI_ hl
  obtain ⟨n, hn⟩ : ∃ n, n = xs.length := ⟨_, rfl⟩
  have HN := hI_ hn
  rw [← hn] at hc1 hl ⊢
  clear h hu hno hB hn hd1 hd2 hd3
  have g1 : (n : Int) ≤ sc := by omega
  have g2 : (sc : Int) ≤ 9223372036854775807 := by omega
  have g3 : (n : Int) ≤ 256 := by omega
  go_enter func139, ntmps139
  go_wp2_with (at_builtin; refine wJ (K := KP) rfl _ _ rfl B xs [y] (.slice sa n sc) (.slice ua 1 uc) (by rfl) (by rfl) (by rw [HN.out]; exact HX.out) HU.out HNO.out HBB.out (by have := HLL.out; show (xs.length + 1) * 8 ≤ _; omega) (by have := HLL.out; show xs.length + 1 ≤ _; omega) ?_; intro v1 w1 o1 b1 q1)
  all_goals (refine bodyPost_ret (v := v1) (by simp [results, results139, go_sem]) rfl ⟨v1, rfl, o1, b1, ?_⟩)
  all_goals first
    | exact q1
    | (have e : sc = n := by assumption
       rw [e] at q1
       exact q1)
end Go.Proofs.YtjkiplndbcmmbaaGreatDoor
namespace Go.Proofs.YtjkiplndbcmmbaaGreatDoor
open Go.RowKit Go.Maps
def FB.more (F : FB) (v : Value) (p hb : Nat) : FB := { F with sv := v, ab := F.ab ++ [(p, hb)] }
theorem MD.maps_lt {w : World} {B : Nat} {F : FB} {M : PM} (h : MD w B F M) {j : Nat} (hj : j ∈ F.maps) : j < w.heap.size := by
 unfold FB.maps at hj
 simp only [List.mem_cons, List.mem_map] at hj
 rcases hj with rfl | rfl | rfl | rfl | ⟨x, hx, rfl⟩
 ·obtain ⟨sv, hV⟩ := h.cbm
  obtain ⟨es, c, e⟩ := (h.catO hV).1
  exact (Array.getElem?_eq_some_iff.1 e).1
 ·exact h.core_lt (Or.inr (Or.inr (Or.inl rfl)))
 ·exact h.rts.lt
 ·exact h.kys.lt
 ·exact h.core_lt (Or.inr (Or.inr (Or.inr (Or.inr (Or.inr ⟨x, hx, Or.inr rfl⟩)))))
theorem gN {l : List Nat} {n : Nat} (h : l.Nodup) (hn : n ∉ l) : (l ++ [n]).Nodup := by
 refine List.nodup_append.2 ⟨h, by simp, fun a ha b hb e => ?_⟩
 simp at hb
 subst hb
 subst e
 exact hn ha
theorem MD.addA {w w' : World} {B : Nat} {F : FB} {M : PM} {a : PA} {p hb : Nat} {v : Value} (h : MD w B F M) (k : But (fun j => j = F.pm ∨ F.sv.ownBlock = some j) w w') (hp : w.heap.size ≤ p) (hh : w.heap.size ≤ hb) (V : VA w' F.pm (mcells (F.more v p hb) M) 100) (R : Own KP w' B v ((F.ab ++ [(p, hb)]).map (·.1))) (W : VA w' p (a.cells hb) 85) (A : AM KI encI w' hb a.hs) (hw : a.wf) (hid : ∀ b ∈ M.al, b.id < a.id) (hl : M.al.length < 256) : MD w' B (F.more v p hb) { M with al := M.al ++ [a] } := by
 obtain ⟨S, hC⟩ := h.cat
 obtain ⟨sv, hV⟩ := h.cbm
 have hlt := h.lt
 have nv : ∀ {q : Nat} {cs : List Value} {T : TypeId}, VA w q cs T → T ≠ 100 → T ≠ 81 → ¬ (q = F.pm ∨ F.sv.ownBlock = some q) := fun u h1 h2 e => by
  rcases e with e | e
  ·exact u.ne h.va h1 e
  ·obtain ⟨cs, e3⟩ := h.row.blkT e
   have := u.blk.symm.trans e3
   simp only [Option.some.injEq, Obj.cells.injEq] at this
   exact h2 this.2.1
 have nm : ∀ {q : Nat}, (∃ es c, w.heap[q]? = some (Obj.map es c)) → ¬ (q = F.pm ∨ F.sv.ownBlock = some q) := fun hq e => by
  rcases e with e | e
  ·exact h.va.neM hq e.symm
  ·obtain ⟨cs, e3⟩ := h.row.blkT e
   obtain ⟨es, c, e4⟩ := hq
   have := e3.symm.trans e4
   cases this
 refine ⟨V, ⟨S, hC.butM hV k (fun j hj => ?_)⟩, ⟨sv, hV.but k (nv hV (by decide) (by decide))⟩, h.led.but k (nv h.led.va (by decide) (by decide)) (nm (bP h.led.map)), h.rts.but k (nm h.rts.isMap), h.kys.but k (nm h.kys.isMap), R, ?_, fun j b y hb' hy => ?_, ?_, ?_, ?_, ?_⟩
 ·rcases hj with rfl | hj
  ·exact NC.cells h.va (by decide) (by decide) (by decide)
  ·obtain ⟨cs, e3⟩ := h.row.blkT hj
   exact Or.inl ⟨_, _, _, e3, by decide, by decide, by decide⟩
 ·show (F.ab ++ [(p, hb)]).length = (M.al ++ [a]).length
  rw [List.length_append, List.length_append, h.len]
  rfl
 ·have hb' : (M.al ++ [a])[j]? = some b := hb'
  have hy : (F.ab ++ [(p, hb)])[j]? = some y := hy
  rcases Nat.lt_or_ge j M.al.length with hj | hj
  ·rw [List.getElem?_append_left hj] at hb'
   rw [List.getElem?_append_left (by rw [h.len]; exact hj)] at hy
   have o := h.acs j b y hb' hy
   exact ⟨o.1.but k (nv o.1 (by decide) (by decide)), o.2.but k (nm o.2.isMap)⟩
  ·rw [List.getElem?_append_right hj] at hb'
   rw [List.getElem?_append_right (by rw [h.len]; exact hj), h.len] at hy
   cases hd : j - M.al.length with
   | zero =>
    rw [hd] at hb' hy
    simp at hb' hy
    subst hb' hy
    exact ⟨W, A⟩
   | succ n => rw [hd] at hb'; simp at hb'
 ·obtain ⟨l1, l2, l3, l4, l5, l6⟩ := h.low
  refine ⟨l1, l2, l3, l4, l5, fun x hx => ?_⟩
  rcases List.mem_append.1 hx with hx | hx
  ·exact l6 x hx
  ·simp at hx
   subst hx
   exact ⟨by show B ≤ p; omega, by show B ≤ hb; omega⟩
 ·have e : (F.more v p hb).maps = F.maps ++ [hb] := by
   unfold FB.maps FB.more
   simp
  rw [e]
  exact gN h.mps (fun hm => by have := h.maps_lt hm; omega)
 ·have e : (F.more v p hb).ab.map (·.1) = F.ab.map (·.1) ++ [p] := by
   unfold FB.more
   simp
  rw [e]
  refine gN h.abs (fun hm => ?_)
  obtain ⟨x, hx, rfl⟩ := List.mem_map.1 hm
  have := h.core_lt (Or.inr (Or.inr (Or.inr (Or.inr (Or.inr ⟨x, hx, Or.inl rfl⟩)))))
  omega
 ·have hw0 := h.wf
  refine ⟨hw0.day, fun b hb' => ?_, ?_, ?_, hw0.rats, hw0.seq, hw0.run, hw0.adds⟩
  ·rcases List.mem_append.1 hb' with hb' | hb'
   ·exact hw0.acs b hb'
   ·simp at hb'
    subst hb'
    exact hw
  ·show (M.al ++ [a]).Pairwise _
   refine List.pairwise_append.2 ⟨hw0.sort, by simp, fun b hb' c hc => ?_⟩
   simp at hc
   subst hc
   exact hid b hb'
  ·show (M.al ++ [a]).length ≤ 256
   rw [List.length_append]
   simp
   omega
end Go.Proofs.YtjkiplndbcmmbaaGreatDoor
namespace Go.Proofs.YtjkiplndbcmmbaaGreatDoor
open Tryz
open Go.RowKit Go.Maps
def newA (M : PM) (id p : Int) : PA := ⟨id, p, (ver M p).cur, (ver M p).kind, true, 0, 0, 0, []⟩
set_option maxRecDepth 100000 in
theorem pD (w : World) (B : Nat) (F : FB) (M : PM) (h : MD w B F M) (id p : Int) (hi : I64 id) (hpl : plc M.al id = M.al.length) (hw : (newA M id p).wf) (hids : ∀ b ∈ M.al, b.id < id) (hl : M.al.length < 256) :
  Calls prog 85 #[.pointer (some ⟨F.pm, 0, none⟩), .int .i64 id, .int .i64 p] w fun e w' => ∃ v q hb, e = .returned (.tuple #[]) ∧ MD w' B (F.more v q hb) { M with al := M.al ++ [newA M id p] } ∧ But (fun j => j = F.pm ∨ F.sv.ownBlock = some j) w w' ∧ w.heap.size ≤ q ∧ w.heap.size ≤ hb := by
 obtain ⟨er, her⟩ : ∃ er : Int, er = if (verO M p).isSome then 0 else 7 := ⟨_, rfl⟩
 have HER : Hid (er = if (verO M p).isSome then 0 else 7) := her
 have HM_ : Hid (MD w B F M) := h
 have BB_ := hI_ (Below.refl w.heap.size w)
 have HPL := hI_ hpl
 have HWF := hI_ hw
 have HIDS := hI_ hids
 have HLL := hI_ hl
 clear h her hpl hw hids hl
 go_enter func85, ntmps85
 go_upto_region 0 with fail
 refine wp_region_noPanic ?_
 refine wp_region_held_drew (S := fun V => VA V F.pm (mcells F M) 100) (by kernel_rfl) (HM_.out.va.drew) ?_
 intro hh_
 have bz := (Below.refl w.heap.size w).drew
 have HM_z := hI_ (HM_.out.step bz)
 have BB_z := hI_ (BB_.out.trans (bz.mono BB_.out.size))
 generalize w.drew = wz at *
 clear bz
 refine tK 0 12 (.pointer (some ⟨F.pm, 0, none⟩)) (by exact rfl) (Or.inl ⟨by rfl, ?_⟩) ?_
 ·intro wq hS
  go_simp
 try simp only [nrm]
 refine tK 1 13 (.pointer (some ⟨F.pm, 0, none⟩)) (by exact rfl) (Or.inl ⟨by rfl, ?_⟩) ?_
 ·intro wq hS
  go_simp
 try simp only [nrm]
 refine tK 2 14 (.pointer (some ⟨F.pm, 1, none⟩)) (by exact rfl) (Or.inl ⟨by rfl, ?_⟩) ?_
 ·intro wq hS
  go_simp
 try simp only [nrm]
 refine tK 3 15 (.pointer (some ⟨F.pc, 0, none⟩)) (by exact rfl) (Or.inl ⟨by rfl, ?_⟩) ?_
 ·intro wq hS
  have c := VA.cell hS 1 (v := .pointer (some ⟨F.pc, 0, none⟩)) rfl
  go_simp
 try simp only [nrm]
 refine tK 4 16 (.int .i64 p) (by exact rfl) (Or.inl ⟨by rfl, ?_⟩) ?_
 ·intro wq hS
  go_simp
 try simp only [nrm]
 refine tK 5 17 (.pointer (some ⟨F.pm, 0, none⟩)) (by exact rfl) (Or.inl ⟨by rfl, ?_⟩) ?_
 ·intro wq hS
  go_simp
 try simp only [nrm]
 refine tK 6 18 (.pointer (some ⟨F.pm, 0, none⟩)) (by exact rfl) (Or.inl ⟨by rfl, ?_⟩) ?_
 ·intro wq hS
  go_simp
 try simp only [nrm]
 refine tK 7 19 (.pointer (some ⟨F.pm, 0, none⟩)) (by exact rfl) (Or.inl ⟨by rfl, ?_⟩) ?_
 ·intro wq hS
  go_simp
 try simp only [nrm]
 refine tK 8 20 (.int .i64 M.day) (by exact rfl) (Or.inl ⟨by rfl, ?_⟩) ?_
 ·intro wq hS
  have c := VA.cell hS 0 (v := .int .i64 M.day) rfl
  go_simp
 try simp only [nrm]
 clear hh_
 refine wpAnyH_ready (rs := [9, 13]) (by kernel_rfl) (by simp) ?_
 refine AllReadyH.cons (by exact rfl) (fun K hK => ?_) (AllReadyH.cons (by exact rfl) (fun K hK => ?_) AllReadyH.nil)
 ·go_simp
  refine Calls.mono (cY wz B F M HM_z.out p) ?_
  rintro e wa ⟨⟨v, rfl, o1⟩, ba⟩
  have HM_a := hI_ (HM_z.out.step ba)
  have BB_a := hI_ (BB_z.out.trans (ba.mono BB_z.out.size))
  rw [← HER.out]
  have OF : Hid (∃ a n c, v = .slice a n c) := by obtain ⟨a, c, e, _⟩ := o1.tr.form; exact ⟨a, _, c, e⟩
  clear o1
  clear ba
  go_wp2_with fail
  refine hK.out _ _ (HM_a.out.va) (fun hh_ => ?_)
  try simp only [nrm]
  clear hK K
  refine tK 10 11 (.tuple #[.agg ((ver M p).cells v).toArray, .int .i64 er]) (by exact rfl) (Or.inl ⟨by rfl, ?_⟩) ?_
  ·intro wq hS
   go_simp
  try simp only [nrm]
  refine tK 11 22 (.agg ((ver M p).cells v).toArray) (by exact rfl) (Or.inl ⟨by rfl, ?_⟩) ?_
  ·intro wq hS
   go_simp
  try simp only [nrm]
  refine tK 12 23 (.int .i64 er) (by exact rfl) (Or.inl ⟨by rfl, ?_⟩) ?_
  ·intro wq hS
   go_simp
  try simp only [nrm]
  clear hh_
  refine rdy 13 (fun K hK => ?_)
  go_simp
  have bb := (Below.refl wa.heap.size wa).alloc (Nat.le_refl _) (.cells #[.int .i64 0, .int .i64 0, .int .i64 0, .int .i64 0, .int .i64 0, .int .i64 0, .int .i64 0, .int .i64 0, .slice none 0 0] 162)
  have HM_b := hI_ (HM_a.out.step bb)
  have BB_b := hI_ (BB_a.out.trans (bb.mono BB_a.out.size))
  have HN_b := hI_ (aa wa ([.int .i64 0, .int .i64 0, .int .i64 0, .int .i64 0, .int .i64 0, .int .i64 0, .int .i64 0, .int .i64 0, .slice none 0 0] : List Value) 162)
  have QLqn : Hid (w.heap.size ≤ wa.heap.size) := BB_a.out.size
  refine hK.out _ _ (HM_b.out.va) (fun hh_ => ?_)
  try simp only [nrm]
  clear hK K bb
  generalize wa.alloc (.cells #[.int .i64 0, .int .i64 0, .int .i64 0, .int .i64 0, .int .i64 0, .int .i64 0, .int .i64 0, .int .i64 0, .slice none 0 0] 162) = wb at *
  generalize wa.heap.size = qn at *
  refine rdy 14 (fun K hK => ?_)
  refine dM (by rfl) rfl 162 _ _ rfl qn (by rfl) ([.int .i64 0, .int .i64 0, .int .i64 0, .int .i64 0, .int .i64 0, .int .i64 0, .int .i64 0, .int .i64 0, .slice none 0 0]) ((ver M p).cells v) (by rfl) 162 HN_b.out infoP rfl (bD _ OF.out) ?_
  intro wf vf uf
  have hfo : ∀ i, i = qn → Fo wb i := fun i hi => by rw [hi]; exact dI HN_b.out (by decide)
  have HM_2 : Hid (MD wf B F M) := HM_b.out.but uf.but hfo
  have HP_2 : Hid (VA wf qn ((ver M p).cells v) 162) := vf
  have BB_2 : Hid (Below w.heap.size w wf) := uf.bel BB_b.out QLqn.out
  refine hK.out _ _ HM_2.out.va (fun hh_ => ?_)
  clear hK K uf vf hfo
  try simp only [nrm]
  refine tK 15 7 (.int .i64 er) (by exact rfl) (Or.inl ⟨by rfl, ?_⟩) ?_
  ·intro wq hS
   go_simp
  try simp only [nrm]
  refine wpAnyH_done (by kernel_rfl) ?_ _
  refine NoPanic.normal ?_
  clear hh_
  generalize wf = w2 at *
  have z2 := HP_2.out.cell 2 (v := .int .i64 (ver M p).cur) rfl
  have z1 := HP_2.out.cell 1 (v := .int .i64 (ver M p).kind) rfl
  have hmm := @run_makeMap prog
  go_upto_region 2 with fail
  clear z1 z2 hmm
  have b3 := ((Below.refl w2.heap.size w2).alloc (Nat.le_refl _) (.map #[] 0)).alloc (by simp) (.cells ((newA M id p).cells w2.heap.size).toArray 85)
  have HA_3 := hI_ ((fV KI encI w2).step ((Below.refl _ _).alloc (Nat.le_refl _) (.cells ((newA M id p).cells w2.heap.size).toArray 85)))
  have ha3 := aa (w2.alloc (.map #[] 0)) ((newA M id p).cells w2.heap.size) 85
  rw [World.size_alloc] at ha3
  have HN_3 := hI_ ha3
  have HM_3 := hI_ (HM_2.out.step b3)
  have BB_3 := hI_ (BB_2.out.trans (b3.mono BB_2.out.size))
  clear ha3 b3 HP_2
  have hsz := BB_2.out.size
  have hW : (w2.alloc (.map #[] 0)).alloc (.cells ((newA M id p).cells w2.heap.size).toArray 85) = (w2.alloc (.map #[] 0)).alloc (.cells #[.int .i64 id, .int .i64 p, .int .i64 (ver M p).cur, .int .i64 (ver M p).kind, .bool true, .int .i64 0, .int .i64 0, .int .i64 0, .map (some w2.heap.size)] 85) := rfl
  rw [hW] at HA_3 HN_3 HM_3 BB_3
  clear hW
  generalize (w2.alloc (.map #[] 0)).alloc (.cells #[.int .i64 id, .int .i64 p, .int .i64 (ver M p).cur, .int .i64 (ver M p).kind, .bool true, .int .i64 0, .int .i64 0, .int .i64 0, .map (some w2.heap.size)] 85) = w3 at *
  have HSV : Hid (∃ sa sc, F.sv = .slice sa M.al.length sc) := by obtain ⟨sa, sc, e, _⟩ := HM_3.out.form; exact ⟨sa, sc, e⟩
  go_wp2_with fail
  refine (ff w3 B F M HM_3.out id).mono ?_
  rintro e wq ⟨rfl, hwq⟩
  obtain rfl := hwq.symm
  clear hwq
  rw [HPL.out]
  have c2 := HM_3.out.va.cell 2 (v := F.sv) rfl
  go_wp2_with fail
  have b4 := (Below.refl w3.heap.size w3).alloc (Nat.le_refl _) (.cells #[.pointer (some ⟨w2.heap.size + 1, 0, none⟩)] 81)
  have HU_4 : Hid (Sl KP (w3.alloc (.cells #[.pointer (some ⟨w2.heap.size + 1, 0, none⟩)] 81)) (.slice (some ⟨w3.heap.size, 0, none⟩) 1 1) [w2.heap.size + 1]) := lE (K := KP) (xs := [w2.heap.size + 1]) (aa w3 (KP.cells [w2.heap.size + 1]) 81) (by show 1 ≤ _; decide)
  have HM_4 := hI_ (HM_3.out.step b4)
  have HA_4 := hI_ (HA_3.out.step b4)
  have HN_4 := hI_ (HN_3.out.step b4)
  have BB_4 := hI_ (BB_3.out.trans (b4.mono BB_3.out.size))
  have hlen : (F.ab.map (·.1)).length = M.al.length := by rw [List.length_map, HM_.out.len]
  clear b4 c2
  generalize w3.alloc (.cells #[.pointer (some ⟨w2.heap.size + 1, 0, none⟩)] 81) = w4 at *
  generalize w3.heap.size = us at *
  have HI := gI w4 B F.sv (.slice (some ⟨us, 0, none⟩) 1 1) (F.ab.map (·.1)) (w2.heap.size + 1) HM_4.out.row HU_4.out (fun n c e => by cases e) HM_4.out.lt (by rw [hlen]; have := HLL.out; omega)
  rw [hlen] at HI
  refine HI.mono ?_
  rintro e w5 ⟨v5, rfl, o5, b5, g5⟩
  clear HI
  have k5 : Hid (But (fun j => F.sv.ownBlock = some j) w4 w5) := eG g5
  have ho : ∀ {q : Nat} {cs : List Value} {T : TypeId}, VA w4 q cs T → T ≠ 81 → ¬ (F.sv.ownBlock = some q) := fun u h2 e => by
   obtain ⟨cs, e3⟩ := HM_4.out.row.blkT e
   have := u.blk.symm.trans e3
   simp only [Option.some.injEq, Obj.cells.injEq] at this
   exact h2 this.2.1
  have V5 := hI_ (HM_4.out.va.but k5.out (ho HM_4.out.va (by decide)))
  have N5 := hI_ (HN_4.out.but k5.out (ho HN_4.out (by decide)))
  have A5 := (show Hid _ from HA_4.out.but k5.out (fun e => by
   obtain ⟨cs, e3⟩ := HM_4.out.row.blkT e
   obtain ⟨es, c, e4⟩ := HA_4.out.isMap
   have := e3.symm.trans e4
   cases this))
  obtain ⟨va, vc, rfl, _, _⟩ := o5.form
  have O5 := hI_ o5
  clear o5 b5 g5 ho
  generalize (F.ab.map (·.1) ++ [w2.heap.size + 1]).length = vn at *
  have c2 := V5.out.cell 2 (v := F.sv) rfl
  have f2 := V5.out.free 2
  have hbk := V5.out.blk
  go_wp2_with fail
  have U6 := av w5 F.pm 2 (.slice va vn vc)
  have V6 : VA (w5.setCell ⟨F.pm, 2, none⟩ (.slice va vn vc)) F.pm (mcells (F.more (.slice va vn vc) (w2.heap.size + 1) w2.heap.size) M) 100 := V5.out.set 2 (.slice va vn vc)
  have K6 : But (fun j => j = F.pm ∨ F.sv.ownBlock = some j) w (w5.setCell ⟨F.pm, 2, none⟩ (.slice va vn vc)) := ((af BB_4.out _).trans k5.out (fun _ _ e => Or.inr e)).trans U6.but (fun _ _ e => Or.inl e)
  have hl1 : w.heap.size ≤ w2.heap.size + 1 := by omega
  refine bodyPost_end (v := .tuple #[]) (by simp [results, results85, go_sem]) rfl ⟨_, _, _, rfl, HM_.out.addA K6 hl1 hsz V6 ?_ (N5.out.upd U6 (N5.out.ne V5.out (by decide))) (A5.out.but U6.but (fun e => V5.out.neM A5.out.isMap e.symm)) HWF.out HIDS.out HLL.out, K6, hl1, hsz⟩
  rw [List.map_append]
  exact O5.out.but U6.but (fun g hg hx => by
   obtain ⟨cs, e⟩ := O5.out.blkT hg
   subst hx
   have := e.symm.trans V5.out.blk
   simp only [Option.some.injEq, Obj.cells.injEq] at this
   exact absurd this.2.1 (by decide))

 ·go_simp
  have ba := (Below.refl wz.heap.size wz).alloc (Nat.le_refl _) (.cells #[.int .i64 0, .int .i64 0, .int .i64 0, .int .i64 0, .int .i64 0, .int .i64 0, .int .i64 0, .int .i64 0, .slice none 0 0] 162)
  have HM_a := hI_ (HM_z.out.step ba)
  have BB_a := hI_ (BB_z.out.trans (ba.mono BB_z.out.size))
  have HN_a := hI_ (aa wz ([.int .i64 0, .int .i64 0, .int .i64 0, .int .i64 0, .int .i64 0, .int .i64 0, .int .i64 0, .int .i64 0, .slice none 0 0] : List Value) 162)
  have QLqn : Hid (w.heap.size ≤ wz.heap.size) := BB_z.out.size
  refine hK.out _ _ (HM_a.out.va) (fun hh_ => ?_)
  try simp only [nrm]
  clear hK K ba
  generalize wz.alloc (.cells #[.int .i64 0, .int .i64 0, .int .i64 0, .int .i64 0, .int .i64 0, .int .i64 0, .int .i64 0, .int .i64 0, .slice none 0 0] 162) = wa at *
  generalize wz.heap.size = qn at *
  clear hh_
  refine rdy 9 (fun K hK => ?_)
  go_simp
  refine Calls.mono (cY wa B F M HM_a.out p) ?_
  rintro e wb ⟨⟨v, rfl, o1⟩, bb⟩
  have HM_b := hI_ (HM_a.out.step bb)
  have HN_b := hI_ (HN_a.out.step bb)
  have BB_b := hI_ (BB_a.out.trans (bb.mono BB_a.out.size))
  rw [← HER.out]
  have OF : Hid (∃ a n c, v = .slice a n c) := by obtain ⟨a, c, e, _⟩ := o1.tr.form; exact ⟨a, _, c, e⟩
  clear o1
  clear bb
  go_wp2_with fail
  refine hK.out _ _ (HM_b.out.va) (fun hh_ => ?_)
  try simp only [nrm]
  clear hK K
  refine tK 10 11 (.tuple #[.agg ((ver M p).cells v).toArray, .int .i64 er]) (by exact rfl) (Or.inl ⟨by rfl, ?_⟩) ?_
  ·intro wq hS
   go_simp
  try simp only [nrm]
  refine tK 11 22 (.agg ((ver M p).cells v).toArray) (by exact rfl) (Or.inl ⟨by rfl, ?_⟩) ?_
  ·intro wq hS
   go_simp
  try simp only [nrm]
  refine tK 12 23 (.int .i64 er) (by exact rfl) (Or.inl ⟨by rfl, ?_⟩) ?_
  ·intro wq hS
   go_simp
  try simp only [nrm]
  refine rdy 14 (fun K hK => ?_)
  refine dM (by rfl) rfl 162 _ _ rfl qn (by rfl) ([.int .i64 0, .int .i64 0, .int .i64 0, .int .i64 0, .int .i64 0, .int .i64 0, .int .i64 0, .int .i64 0, .slice none 0 0]) ((ver M p).cells v) (by rfl) 162 HN_b.out infoP rfl (bD _ OF.out) ?_
  intro wf vf uf
  have hfo : ∀ i, i = qn → Fo wb i := fun i hi => by rw [hi]; exact dI HN_b.out (by decide)
  have HM_2 : Hid (MD wf B F M) := HM_b.out.but uf.but hfo
  have HP_2 : Hid (VA wf qn ((ver M p).cells v) 162) := vf
  have BB_2 : Hid (Below w.heap.size w wf) := uf.bel BB_b.out QLqn.out
  refine hK.out _ _ HM_2.out.va (fun hh_ => ?_)
  clear hK K uf vf hfo
  try simp only [nrm]
  refine tK 15 7 (.int .i64 er) (by exact rfl) (Or.inl ⟨by rfl, ?_⟩) ?_
  ·intro wq hS
   go_simp
  try simp only [nrm]
  refine wpAnyH_done (by kernel_rfl) ?_ _
  refine NoPanic.normal ?_
  clear hh_
  generalize wf = w2 at *
  have z2 := HP_2.out.cell 2 (v := .int .i64 (ver M p).cur) rfl
  have z1 := HP_2.out.cell 1 (v := .int .i64 (ver M p).kind) rfl
  have hmm := @run_makeMap prog
  go_upto_region 2 with fail
  clear z1 z2 hmm
  have b3 := ((Below.refl w2.heap.size w2).alloc (Nat.le_refl _) (.map #[] 0)).alloc (by simp) (.cells ((newA M id p).cells w2.heap.size).toArray 85)
  have HA_3 := hI_ ((fV KI encI w2).step ((Below.refl _ _).alloc (Nat.le_refl _) (.cells ((newA M id p).cells w2.heap.size).toArray 85)))
  have ha3 := aa (w2.alloc (.map #[] 0)) ((newA M id p).cells w2.heap.size) 85
  rw [World.size_alloc] at ha3
  have HN_3 := hI_ ha3
  have HM_3 := hI_ (HM_2.out.step b3)
  have BB_3 := hI_ (BB_2.out.trans (b3.mono BB_2.out.size))
  clear ha3 b3 HP_2
  have hsz := BB_2.out.size
  have hW : (w2.alloc (.map #[] 0)).alloc (.cells ((newA M id p).cells w2.heap.size).toArray 85) = (w2.alloc (.map #[] 0)).alloc (.cells #[.int .i64 id, .int .i64 p, .int .i64 (ver M p).cur, .int .i64 (ver M p).kind, .bool true, .int .i64 0, .int .i64 0, .int .i64 0, .map (some w2.heap.size)] 85) := rfl
  rw [hW] at HA_3 HN_3 HM_3 BB_3
  clear hW
  generalize (w2.alloc (.map #[] 0)).alloc (.cells #[.int .i64 id, .int .i64 p, .int .i64 (ver M p).cur, .int .i64 (ver M p).kind, .bool true, .int .i64 0, .int .i64 0, .int .i64 0, .map (some w2.heap.size)] 85) = w3 at *
  have HSV : Hid (∃ sa sc, F.sv = .slice sa M.al.length sc) := by obtain ⟨sa, sc, e, _⟩ := HM_3.out.form; exact ⟨sa, sc, e⟩
  go_wp2_with fail
  refine (ff w3 B F M HM_3.out id).mono ?_
  rintro e wq ⟨rfl, hwq⟩
  obtain rfl := hwq.symm
  clear hwq
  rw [HPL.out]
  have c2 := HM_3.out.va.cell 2 (v := F.sv) rfl
  go_wp2_with fail
  have b4 := (Below.refl w3.heap.size w3).alloc (Nat.le_refl _) (.cells #[.pointer (some ⟨w2.heap.size + 1, 0, none⟩)] 81)
  have HU_4 : Hid (Sl KP (w3.alloc (.cells #[.pointer (some ⟨w2.heap.size + 1, 0, none⟩)] 81)) (.slice (some ⟨w3.heap.size, 0, none⟩) 1 1) [w2.heap.size + 1]) := lE (K := KP) (xs := [w2.heap.size + 1]) (aa w3 (KP.cells [w2.heap.size + 1]) 81) (by show 1 ≤ _; decide)
  have HM_4 := hI_ (HM_3.out.step b4)
  have HA_4 := hI_ (HA_3.out.step b4)
  have HN_4 := hI_ (HN_3.out.step b4)
  have BB_4 := hI_ (BB_3.out.trans (b4.mono BB_3.out.size))
  have hlen : (F.ab.map (·.1)).length = M.al.length := by rw [List.length_map, HM_.out.len]
  clear b4 c2
  generalize w3.alloc (.cells #[.pointer (some ⟨w2.heap.size + 1, 0, none⟩)] 81) = w4 at *
  generalize w3.heap.size = us at *
  have HI := gI w4 B F.sv (.slice (some ⟨us, 0, none⟩) 1 1) (F.ab.map (·.1)) (w2.heap.size + 1) HM_4.out.row HU_4.out (fun n c e => by cases e) HM_4.out.lt (by rw [hlen]; have := HLL.out; omega)
  rw [hlen] at HI
  refine HI.mono ?_
  rintro e w5 ⟨v5, rfl, o5, b5, g5⟩
  clear HI
  have k5 : Hid (But (fun j => F.sv.ownBlock = some j) w4 w5) := eG g5
  have ho : ∀ {q : Nat} {cs : List Value} {T : TypeId}, VA w4 q cs T → T ≠ 81 → ¬ (F.sv.ownBlock = some q) := fun u h2 e => by
   obtain ⟨cs, e3⟩ := HM_4.out.row.blkT e
   have := u.blk.symm.trans e3
   simp only [Option.some.injEq, Obj.cells.injEq] at this
   exact h2 this.2.1
  have V5 := hI_ (HM_4.out.va.but k5.out (ho HM_4.out.va (by decide)))
  have N5 := hI_ (HN_4.out.but k5.out (ho HN_4.out (by decide)))
  have A5 := (show Hid _ from HA_4.out.but k5.out (fun e => by
   obtain ⟨cs, e3⟩ := HM_4.out.row.blkT e
   obtain ⟨es, c, e4⟩ := HA_4.out.isMap
   have := e3.symm.trans e4
   cases this))
  obtain ⟨va, vc, rfl, _, _⟩ := o5.form
  have O5 := hI_ o5
  clear o5 b5 g5 ho
  generalize (F.ab.map (·.1) ++ [w2.heap.size + 1]).length = vn at *
  have c2 := V5.out.cell 2 (v := F.sv) rfl
  have f2 := V5.out.free 2
  have hbk := V5.out.blk
  go_wp2_with fail
  have U6 := av w5 F.pm 2 (.slice va vn vc)
  have V6 : VA (w5.setCell ⟨F.pm, 2, none⟩ (.slice va vn vc)) F.pm (mcells (F.more (.slice va vn vc) (w2.heap.size + 1) w2.heap.size) M) 100 := V5.out.set 2 (.slice va vn vc)
  have K6 : But (fun j => j = F.pm ∨ F.sv.ownBlock = some j) w (w5.setCell ⟨F.pm, 2, none⟩ (.slice va vn vc)) := ((af BB_4.out _).trans k5.out (fun _ _ e => Or.inr e)).trans U6.but (fun _ _ e => Or.inl e)
  have hl1 : w.heap.size ≤ w2.heap.size + 1 := by omega
  refine bodyPost_end (v := .tuple #[]) (by simp [results, results85, go_sem]) rfl ⟨_, _, _, rfl, HM_.out.addA K6 hl1 hsz V6 ?_ (N5.out.upd U6 (N5.out.ne V5.out (by decide))) (A5.out.but U6.but (fun e => V5.out.neM A5.out.isMap e.symm)) HWF.out HIDS.out HLL.out, K6, hl1, hsz⟩
  rw [List.map_append]
  exact O5.out.but U6.but (fun g hg hx => by
   obtain ⟨cs, e⟩ := O5.out.blkT hg
   subst hx
   have := e.symm.trans V5.out.blk
   simp only [Option.some.injEq, Obj.cells.injEq] at this
   exact absurd this.2.1 (by decide))

set_option maxRecDepth 100000 in
theorem oJ (w : World) (B : Nat) (F : FB) (M : PM) (hM : MD w B F M) (T : TBL w) (hB : 6 ≤ B) (e : EV) (tv : Value) (hop : e.op = 2) (hi : I64 e.n0) (hpl : plc M.al e.n0 = M.al.length) (hw : (newA M e.n0 e.n1).wf) (hids : ∀ b ∈ M.al, b.id < e.n0) (hl : M.al.length < 256) :
  Calls prog 55 #[.pointer (some ⟨F.pm, 0, none⟩), .agg (e.cells tv).toArray] w fun r w' => ∃ v q hb, r = .returned (.tuple #[]) ∧ MD w' B (F.more v q hb) { M with al := M.al ++ [newA M e.n0 e.n1] } ∧ But (F.reach w B) w w' ∧ w.heap.size ≤ q ∧ w.heap.size ≤ hb := by
 have b0 := (Below.refl w.heap.size w).alloc (Nat.le_refl _) (.cells (e.cells tv).toArray 31)
 have b1 := b0.alloc (by simp) (.cells #[.int .i64 0, .int .i64 0, .int .i64 0, .int .i64 0, .int .i64 0, .int .i64 0, .int .i64 0, .int .i64 0] 28)
 have V00 := aa w (e.cells tv) 31
 have V0 := V00.alloc (.cells #[.int .i64 0, .int .i64 0, .int .i64 0, .int .i64 0, .int .i64 0, .int .i64 0, .int .i64 0, .int .i64 0] 28)
 have hn0 := aa (w.alloc (.cells (e.cells tv).toArray 31)) ([.int .i64 0, .int .i64 0, .int .i64 0, .int .i64 0, .int .i64 0, .int .i64 0, .int .i64 0, .int .i64 0] : List Value) 28
 rw [World.size_alloc] at hn0
 have HN0 := hI_ hn0
 have y0 := V00.cell 2 (v := .int .i64 e.n0) rfl
 have y1 := V00.cell 3 (v := .int .i64 e.n1) rfl
 have y2 := V00.cell 4 (v := .int .i64 e.n2) rfl
 have y3 := V00.cell 5 (v := .int .i64 e.n3) rfl
 have y4 := V00.cell 6 (v := .int .i64 e.n4) rfl
 have y5 := V00.cell 7 (v := .int .i64 e.n5) rfl
 have y6 := V00.cell 8 (v := .int .i64 e.n6) rfl
 have y7 := V00.cell 9 (v := .int .i64 e.n7) rfl
 have HRW : Hid (∀ g, F.sv.ownBlock = some g → B ≤ g ∧ ∃ cs, w.heap[g]? = some (.cells cs 81 (0, 0))) := fun g hg => ⟨hM.row.block g hg, hM.row.blkT hg⟩
 have HE0 := hI_ V0
 have HB0 := hI_ b1
 have HH : Hid (MD w B F M ∧ TBL w) := ⟨hM, T⟩
 have HQ : Hid (6 ≤ B ∧ ∀ j, F.core j → j < w.heap.size) := ⟨hB, fun j hj => hM.core_lt hj⟩
 have HOP : Hid (e.op = 2) := hop
 have H_hi := hI_ hi
 have H_hpl := hI_ hpl
 have H_hw := hI_ hw
 have H_hids := hI_ hids
 have H_hl := hI_ hl
 clear hi hpl hw hids hl
 clear b0 b1 V00 V0 hn0 hM T hB hop
 go_enter func55, ntmps55
 go_upto_region 2 with (refine stA rfl 28 _ _ rfl (w.heap.size + 1) (by rfl) ([.int .i64 0, .int .i64 0, .int .i64 0, .int .i64 0, .int .i64 0, .int .i64 0, .int .i64 0, .int .i64 0] : List Value) [.int .i64 e.n0, .int .i64 e.n1, .int .i64 e.n2, .int .i64 e.n3, .int .i64 e.n4, .int .i64 e.n5, .int .i64 e.n6, .int .i64 e.n7] (by rfl) 28 HN0.out bg rfl (aD e) ?_; intro w1 hv1 hu1)
 have hb1 := hu1.bel HB0.out (by omega)
 have HM_1 : Hid (MD w1 B F M) := HH.out.1.step hb1
 have HT_1 : Hid (TBL w1) := HH.out.2.step hb1
 have BB_1 := hI_ hb1
 have HE_1 : Hid (VA w1 w.heap.size (e.cells tv) 31) := HE0.out.upd hu1 (by omega)
 have HN_1 : Hid (VA w1 (w.heap.size + 1) [.int .i64 e.n0, .int .i64 e.n1, .int .i64 e.n2, .int .i64 e.n3, .int .i64 e.n4, .int .i64 e.n5, .int .i64 e.n6, .int .i64 e.n7] 28) := hv1
 have y : w1.cell? ⟨w.heap.size, 0, none⟩ = some (.int .u8 2) := by have := HE_1.out.cell 0 (v := .int .u8 (e.op : Int)) rfl; rw [HOP.out] at this; exact this
 clear hb1 hv1 hu1 HN0 HE0 HB0 HH y0 y1 y2 y3 y4 y5 y6 y7
 have m0 := HN_1.out.cell 0 (v := .int .i64 e.n0) rfl
 have m1 := HN_1.out.cell 1 (v := .int .i64 e.n1) rfl
 have hsz := BB_1.out.size
 go_wp2_with fail
 refine (pD w1 B F M HM_1.out e.n0 e.n1 H_hi.out H_hpl.out H_hw.out H_hids.out H_hl.out).mono ?_
 rintro r w4 ⟨v, q, hb, rfl, h1, h2, h3, h4⟩
 have HM_4 := hI_ h1
 have HB_4 : Hid (But (F.reach w B) w w4) := (af BB_1.out (F.reach w B)).trans h2 (fun j hl hj => hj.elim (fun e => Or.inl (Or.inl e)) (fun e => Or.inr (Or.inr (Or.inr (Or.inl (by obtain ⟨eB, cs, e2⟩ := HRW.out j e; exact ⟨eB, _, _, e2⟩))))))
 have l3 : w.heap.size ≤ q := by omega
 have l4 : w.heap.size ≤ hb := by omega
 clear h1 h2 h3 h4 m0 m1 y
 go_wp2_with fail
 exact bodyPost_end (v := .tuple #[]) (by simp [results, results55, go_sem]) rfl ⟨v, q, hb, rfl, HM_4.out, HB_4.out, l3, l4⟩
def askL (M : PM) (l : Int) (e : EV) : Int :=
 if e.op = 1 then wth l (addE M.vs e.pv) else
 if e.op = 2 then openL M l e.n0 e.n1 else
 if e.op = 3 then whn (namedK M l e.n0 0) (emptyO (acctO M e.n0)) 15 else
 if e.op = 4 then whn (namedK M (whn l (beyond e.n1 10000000000000) 1) e.n0 1) (roomO (acctO M e.n0) e.n1) 4 else
 if e.op = 5 then whn (namedK M (whn l (beyond e.n1 10000000000000) 1) e.n0 1) (fundsO M (acctO M e.n0) e.n1) 13 else
 if e.op = 6 then transferL M l e.n0 e.n1 e.n2 else
 if e.op = 7 then holdL M l e.n0 e.n1 e.n2 else
 if e.op = 8 then freeL M l e.n0 e.n1 else
 if e.op = 9 then lendL M l e.n0 e.n1 e.n2 e.n3 else
 if e.op = 10 then repayL M l e.n0 e.n1 e.n2 else
 if e.op = 11 then rateL l e.n0 e.n1 e.n2 else exchL M l e.n0 e.n1 e.n2
theorem tG (w : World) (B : Nat) (F : FB) (M : PM) (hM : MD w B F M) (rp : Nat) (l : Int) (h : RO w rp F.pm l) (e : EV) (he : e.ok) (tv : Value) (R : Tr w tv e.ts) (hno : ∀ n c, tv = .slice none n c → c = 0) (T : TBL w) (hrp : 6 ≤ rp) (h1 : 1 ≤ e.op ∧ e.op ≤ 12) :
  Calls prog 74 #[.pointer (some ⟨rp, 0, none⟩), .agg (e.cells tv).toArray] w fun r w' => r = .returned (.tuple #[]) ∧ RO w' rp F.pm (askL M l e) ∧ But (fun i => i = rp) w w' := by
 have hc : e.op = 1 ∨ e.op = 2 ∨ e.op = 3 ∨ e.op = 4 ∨ e.op = 5 ∨ e.op = 6 ∨ e.op = 7 ∨ e.op = 8 ∨ e.op = 9 ∨ e.op = 10 ∨ e.op = 11 ∨ e.op = 12 := by omega
 unfold askL
 rcases hc with k | k | k | k | k | k | k | k | k | k | k | k
 ·rw [if_pos k]
  exact vm w B F M hM rp l h e he tv R hno T hrp k
 ·rw [if_neg (by omega), if_pos k]
  exact vo w B F M hM rp l h e he tv R hno T hrp k
 ·rw [if_neg (by omega), if_neg (by omega), if_pos k]
  exact vp w B F M hM rp l h e he tv R hno T hrp k
 ·rw [if_neg (by omega), if_neg (by omega), if_neg (by omega), if_pos k]
  exact vq w B F M hM rp l h e he tv R hno T hrp k
 ·rw [if_neg (by omega), if_neg (by omega), if_neg (by omega), if_neg (by omega), if_pos k]
  exact vr w B F M hM rp l h e he tv R hno T hrp k
 ·rw [if_neg (by omega), if_neg (by omega), if_neg (by omega), if_neg (by omega), if_neg (by omega), if_pos k]
  exact vt w B F M hM rp l h e he tv R hno T hrp k
 ·rw [if_neg (by omega), if_neg (by omega), if_neg (by omega), if_neg (by omega), if_neg (by omega), if_neg (by omega), if_pos k]
  exact vu w B F M hM rp l h e he tv R hno T hrp k
 ·rw [if_neg (by omega), if_neg (by omega), if_neg (by omega), if_neg (by omega), if_neg (by omega), if_neg (by omega), if_neg (by omega), if_pos k]
  exact vv w B F M hM rp l h e he tv R hno T hrp k
 ·rw [if_neg (by omega), if_neg (by omega), if_neg (by omega), if_neg (by omega), if_neg (by omega), if_neg (by omega), if_neg (by omega), if_neg (by omega), if_pos k]
  exact vw w B F M hM rp l h e he tv R hno T hrp k
 ·rw [if_neg (by omega), if_neg (by omega), if_neg (by omega), if_neg (by omega), if_neg (by omega), if_neg (by omega), if_neg (by omega), if_neg (by omega), if_neg (by omega), if_pos k]
  exact tD w B F M hM rp l h e he tv R hno T hrp k
 ·rw [if_neg (by omega), if_neg (by omega), if_neg (by omega), if_neg (by omega), if_neg (by omega), if_neg (by omega), if_neg (by omega), if_neg (by omega), if_neg (by omega), if_neg (by omega), if_pos k]
  exact tE w B F M hM rp l h e he tv R hno T hrp k
 ·rw [if_neg (by omega), if_neg (by omega), if_neg (by omega), if_neg (by omega), if_neg (by omega), if_neg (by omega), if_neg (by omega), if_neg (by omega), if_neg (by omega), if_neg (by omega), if_neg (by omega)]
  exact tF w B F M hM rp l h e he tv R hno T hrp k
theorem vd {e : EV} (h : e.e8.form) : zeros e.e8 := h.zero
theorem cC (e : EV) (tv : Value) (w : World) (he : e.ok) (T : Tc w) (R : Tr w tv e.ts) (b : Int) (hb : (e.e8.form ∧ b = 0) ∨ (¬ e.e8.form ∧ b = 3)) :
  Calls prog 71 #[.agg #[.int .u8 (e.op : Int), .int .u64 (e.key : Int), .int .i64 e.n0, .int .i64 e.n1, .int .i64 e.n2, .int .i64 e.n3, .int .i64 e.n4, .int .i64 e.n5, .int .i64 e.n6, .int .i64 e.n7, tv]] w fun r w' => r = .returned (.int .i64 b) ∧ Below w.heap.size w w' := by
 rcases hb with ⟨h, rfl⟩ | ⟨h, rfl⟩
 ·exact jA e.e8 tv w (EV.ok8 he) T R h.lo h.hi h.tiers 0 (Or.inl ⟨vd h, rfl⟩)
 ·exact n9 e.e8 tv w (EV.ok8 he) T R h
def refL (M : PM) (e : EV) (f : Bool) : Int :=
 if f = false ∨ (e.op = 12 ∧ e.n3 ≠ 0) then 3 else
 if ofDay e.op = true then 1 else
 if usedK M e.key = true then 16 else
 if M.uw = true then 14 else askL M 0 e
theorem uz : (prog.info? 148).map (·.size) = some 2 := by kernel_rfl
set_option maxRecDepth 100000 in
theorem eI (w : World) (B : Nat) (F : FB) (M : PM) (hM : MD w B F M) (e : EV) (he : e.ok) (tv : Value) (R : Tr w tv e.ts) (hno : ∀ n c, tv = .slice none n c → c = 0) (T : TBL w) (f : Bool) (hform : f = true ↔ e.e8.form) :
  Calls prog 38 #[.pointer (some ⟨F.pm, 0, none⟩), .agg (e.cells tv).toArray] w fun r w' => r = .returned (.int .i64 (refL M e f)) ∧ Below w.heap.size w w' := by
 have V := aa w (e.cells tv) 31
 have y0 := V.cell 0 (v := .int .u8 (e.op : Int)) rfl
 have y1 := V.cell 1 (v := .int .u64 (e.key : Int)) rfl
 have y2 := V.cell 2 (v := .int .i64 e.n0) rfl
 have y3 := V.cell 3 (v := .int .i64 e.n1) rfl
 have y4 := V.cell 4 (v := .int .i64 e.n2) rfl
 have y5 := V.cell 5 (v := .int .i64 e.n3) rfl
 have y6 := V.cell 6 (v := .int .i64 e.n4) rfl
 have y7 := V.cell 7 (v := .int .i64 e.n5) rfl
 have y8 := V.cell 8 (v := .int .i64 e.n6) rfl
 have y9 := V.cell 9 (v := .int .i64 e.n7) rfl
 have y10 := V.cell 10 (v := tv) rfl
 have b0 := (Below.refl w.heap.size w).alloc (Nat.le_refl _) (.cells (e.cells tv).toArray 31)
 have BB_0 := hI_ b0
 have HM_0 : Hid (MD _ B F M) := hM.step b0
 have HE_0 := hI_ V
 have HTR_0 : Hid (Tr _ tv e.ts) := R.step b0
 have HT_0 : Hid (TBL _) := T.step b0
 have HQ : Hid (e.ok ∧ ∀ n c, tv = .slice none n c → c = 0) := ⟨he, hno⟩
 clear V b0 hM R T he hno
 unfold refL
 by_cases hf : e.e8.form
 ·by_cases h12 : e.op = 12 ∧ e.n3 ≠ 0
  ·rw [if_pos (Or.inr h12)]
   have e12 : ((e.op : Int) == 12) = true := by rw [h12.1]; rfl
   have e3 : (e.n3 != 0) = true := by simpa using h12.2
   clear h12
   go_enter func38, ntmps38
   go_wp2_with fail
   generalize hW : w.alloc (.cells (e.cells tv).toArray 31) = w0 at *
   clear hW
   refine (cC e tv w0 HQ.out.1 HT_0.out.tc HTR_0.out 0 (Or.inl ⟨hf, rfl⟩)).mono ?_
   rintro r w1 ⟨rfl, b1⟩
   have HM_1 : Hid (MD w1 B F M) := HM_0.out.step b1
   have HE_1 : Hid (VA w1 w.heap.size (e.cells tv) 31) := HE_0.out.step b1
   have HTR_1 : Hid (Tr w1 tv e.ts) := HTR_0.out.step b1
   have HT_1 : Hid (TBL w1) := HT_0.out.step b1
   have BB_1 := hI_ (BB_0.out.trans (b1.mono BB_0.out.size))
   clear b1 y0 y1 y2 y3 y4 y5 y6 y7 y8 y9 y10 HM_0 HE_0 HTR_0 HT_0 BB_0
   have z0 := HE_1.out.cell 0 (v := .int .u8 (e.op : Int)) rfl
   have z1 := HE_1.out.cell 1 (v := .int .u64 (e.key : Int)) rfl
   have z2 := HE_1.out.cell 2 (v := .int .i64 e.n0) rfl
   have z3 := HE_1.out.cell 3 (v := .int .i64 e.n1) rfl
   have z4 := HE_1.out.cell 4 (v := .int .i64 e.n2) rfl
   have z5 := HE_1.out.cell 5 (v := .int .i64 e.n3) rfl
   have z6 := HE_1.out.cell 6 (v := .int .i64 e.n4) rfl
   have z7 := HE_1.out.cell 7 (v := .int .i64 e.n5) rfl
   have z8 := HE_1.out.cell 8 (v := .int .i64 e.n6) rfl
   have z9 := HE_1.out.cell 9 (v := .int .i64 e.n7) rfl
   have z10 := HE_1.out.cell 10 (v := tv) rfl
   go_wp2_with fail
   go_ret
   exact ⟨rfl, BB_1.out⟩
  ·rw [if_neg (by rintro (h | h); rw [hform.2 hf] at h; cases h; exact h12 h)]
   have e123 : ((e.op : Int) == 12) = false ∨ ((e.op : Int) == 12) = true ∧ (e.n3 != 0) = false := by
    by_cases h : e.op = 12
    ·refine Or.inr ⟨by rw [h]; rfl, ?_⟩
     have : e.n3 = 0 := Decidable.byContradiction (fun h3 => h12 ⟨h, h3⟩)
     simpa using this
    ·exact Or.inl (by simpa using fun h2 : (e.op : Int) = 12 => h (by omega))
   have HOP0 : Hid (1 ≤ e.op ∧ e.op ≤ 15) := ⟨hf.lo, hf.hi⟩
   clear h12
   rcases e123 with e12 | ⟨e12, e3⟩
   all_goals (
    cases hd : ofDay e.op with
    | true =>
     rw [if_pos rfl]
     go_enter func38, ntmps38
     go_wp2_with fail
     generalize hW : w.alloc (.cells (e.cells tv).toArray 31) = w0 at *
     clear hW
     refine (cC e tv w0 HQ.out.1 HT_0.out.tc HTR_0.out 0 (Or.inl ⟨hf, rfl⟩)).mono ?_
     rintro r w1 ⟨rfl, b1⟩
     have HM_1 : Hid (MD w1 B F M) := HM_0.out.step b1
     have HE_1 : Hid (VA w1 w.heap.size (e.cells tv) 31) := HE_0.out.step b1
     have HTR_1 : Hid (Tr w1 tv e.ts) := HTR_0.out.step b1
     have HT_1 : Hid (TBL w1) := HT_0.out.step b1
     have BB_1 := hI_ (BB_0.out.trans (b1.mono BB_0.out.size))
     clear b1 y0 y1 y2 y3 y4 y5 y6 y7 y8 y9 y10 HM_0 HE_0 HTR_0 HT_0 BB_0
     have z0 := HE_1.out.cell 0 (v := .int .u8 (e.op : Int)) rfl
     have z1 := HE_1.out.cell 1 (v := .int .u64 (e.key : Int)) rfl
     have z2 := HE_1.out.cell 2 (v := .int .i64 e.n0) rfl
     have z3 := HE_1.out.cell 3 (v := .int .i64 e.n1) rfl
     have z4 := HE_1.out.cell 4 (v := .int .i64 e.n2) rfl
     have z5 := HE_1.out.cell 5 (v := .int .i64 e.n3) rfl
     have z6 := HE_1.out.cell 6 (v := .int .i64 e.n4) rfl
     have z7 := HE_1.out.cell 7 (v := .int .i64 e.n5) rfl
     have z8 := HE_1.out.cell 8 (v := .int .i64 e.n6) rfl
     have z9 := HE_1.out.cell 9 (v := .int .i64 e.n7) rfl
     have z10 := HE_1.out.cell 10 (v := tv) rfl
     go_wp2_with fail
     refine (dL e.op w1).mono ?_
     rintro r wq ⟨rfl, hwq⟩
     obtain rfl := hwq.symm
     clear hwq
     rw [hd]
     go_wp2_with fail
     go_ret
     exact ⟨rfl, BB_1.out⟩
    | false =>
     rw [if_neg (by simp)]
     have HOP : Hid (1 ≤ e.op ∧ e.op ≤ 12) := (show 1 ≤ e.op ∧ e.op ≤ 12 from by have h1 := HOP0.out; have h2 : ¬ (e.op = 13 ∨ e.op = 14 ∨ e.op = 15) := of_decide_eq_false hd; omega)
     cases hu : usedK M e.key with
     | true =>
      rw [if_pos rfl]
      go_enter func38, ntmps38
      go_wp2_with fail
      generalize hW : w.alloc (.cells (e.cells tv).toArray 31) = w0 at *
      clear hW
      refine (cC e tv w0 HQ.out.1 HT_0.out.tc HTR_0.out 0 (Or.inl ⟨hf, rfl⟩)).mono ?_
      rintro r w1 ⟨rfl, b1⟩
      have HM_1 : Hid (MD w1 B F M) := HM_0.out.step b1
      have HE_1 : Hid (VA w1 w.heap.size (e.cells tv) 31) := HE_0.out.step b1
      have HTR_1 : Hid (Tr w1 tv e.ts) := HTR_0.out.step b1
      have HT_1 : Hid (TBL w1) := HT_0.out.step b1
      have BB_1 := hI_ (BB_0.out.trans (b1.mono BB_0.out.size))
      clear b1 y0 y1 y2 y3 y4 y5 y6 y7 y8 y9 y10 HM_0 HE_0 HTR_0 HT_0 BB_0
      have z0 := HE_1.out.cell 0 (v := .int .u8 (e.op : Int)) rfl
      have z1 := HE_1.out.cell 1 (v := .int .u64 (e.key : Int)) rfl
      have z2 := HE_1.out.cell 2 (v := .int .i64 e.n0) rfl
      have z3 := HE_1.out.cell 3 (v := .int .i64 e.n1) rfl
      have z4 := HE_1.out.cell 4 (v := .int .i64 e.n2) rfl
      have z5 := HE_1.out.cell 5 (v := .int .i64 e.n3) rfl
      have z6 := HE_1.out.cell 6 (v := .int .i64 e.n4) rfl
      have z7 := HE_1.out.cell 7 (v := .int .i64 e.n5) rfl
      have z8 := HE_1.out.cell 8 (v := .int .i64 e.n6) rfl
      have z9 := HE_1.out.cell 9 (v := .int .i64 e.n7) rfl
      have z10 := HE_1.out.cell 10 (v := tv) rfl
      go_wp2_with fail
      refine (dL e.op w1).mono ?_
      rintro r wq ⟨rfl, hwq⟩
      obtain rfl := hwq.symm
      clear hwq
      rw [hd]
      go_wp2_with fail
      refine (jr w1 B F M HM_1.out e.key HQ.out.1.key).mono ?_
      rintro r w2 ⟨rfl, b2⟩
      rw [hu]
      have HM_2 : Hid (MD w2 B F M) := HM_1.out.step b2
      have HE_2 : Hid (VA w2 w.heap.size (e.cells tv) 31) := HE_1.out.step b2
      have HTR_2 : Hid (Tr w2 tv e.ts) := HTR_1.out.step b2
      have HT_2 : Hid (TBL w2) := HT_1.out.step b2
      have BB_2 := hI_ (BB_1.out.trans (b2.mono BB_1.out.size))
      clear b2 z0 z1 z2 z3 z4 z5 z6 z7 z8 z9 z10 HM_1 HE_1 HTR_1 HT_1 BB_1
      have z0 := HE_2.out.cell 0 (v := .int .u8 (e.op : Int)) rfl
      have z1 := HE_2.out.cell 1 (v := .int .u64 (e.key : Int)) rfl
      have z2 := HE_2.out.cell 2 (v := .int .i64 e.n0) rfl
      have z3 := HE_2.out.cell 3 (v := .int .i64 e.n1) rfl
      have z4 := HE_2.out.cell 4 (v := .int .i64 e.n2) rfl
      have z5 := HE_2.out.cell 5 (v := .int .i64 e.n3) rfl
      have z6 := HE_2.out.cell 6 (v := .int .i64 e.n4) rfl
      have z7 := HE_2.out.cell 7 (v := .int .i64 e.n5) rfl
      have z8 := HE_2.out.cell 8 (v := .int .i64 e.n6) rfl
      have z9 := HE_2.out.cell 9 (v := .int .i64 e.n7) rfl
      have z10 := HE_2.out.cell 10 (v := tv) rfl
      have c6 := HM_2.out.va.cell 6 (v := .bool M.uw) rfl
      go_wp2_with fail
      go_ret
      exact ⟨rfl, BB_2.out⟩
     | false =>
      rw [if_neg (by simp)]
      cases hw : M.uw with
      | true =>
       rw [if_pos rfl]
       go_enter func38, ntmps38
       go_wp2_with fail
       generalize hW : w.alloc (.cells (e.cells tv).toArray 31) = w0 at *
       clear hW
       refine (cC e tv w0 HQ.out.1 HT_0.out.tc HTR_0.out 0 (Or.inl ⟨hf, rfl⟩)).mono ?_
       rintro r w1 ⟨rfl, b1⟩
       have HM_1 : Hid (MD w1 B F M) := HM_0.out.step b1
       have HE_1 : Hid (VA w1 w.heap.size (e.cells tv) 31) := HE_0.out.step b1
       have HTR_1 : Hid (Tr w1 tv e.ts) := HTR_0.out.step b1
       have HT_1 : Hid (TBL w1) := HT_0.out.step b1
       have BB_1 := hI_ (BB_0.out.trans (b1.mono BB_0.out.size))
       clear b1 y0 y1 y2 y3 y4 y5 y6 y7 y8 y9 y10 HM_0 HE_0 HTR_0 HT_0 BB_0
       have z0 := HE_1.out.cell 0 (v := .int .u8 (e.op : Int)) rfl
       have z1 := HE_1.out.cell 1 (v := .int .u64 (e.key : Int)) rfl
       have z2 := HE_1.out.cell 2 (v := .int .i64 e.n0) rfl
       have z3 := HE_1.out.cell 3 (v := .int .i64 e.n1) rfl
       have z4 := HE_1.out.cell 4 (v := .int .i64 e.n2) rfl
       have z5 := HE_1.out.cell 5 (v := .int .i64 e.n3) rfl
       have z6 := HE_1.out.cell 6 (v := .int .i64 e.n4) rfl
       have z7 := HE_1.out.cell 7 (v := .int .i64 e.n5) rfl
       have z8 := HE_1.out.cell 8 (v := .int .i64 e.n6) rfl
       have z9 := HE_1.out.cell 9 (v := .int .i64 e.n7) rfl
       have z10 := HE_1.out.cell 10 (v := tv) rfl
       go_wp2_with fail
       refine (dL e.op w1).mono ?_
       rintro r wq ⟨rfl, hwq⟩
       obtain rfl := hwq.symm
       clear hwq
       rw [hd]
       go_wp2_with fail
       refine (jr w1 B F M HM_1.out e.key HQ.out.1.key).mono ?_
       rintro r w2 ⟨rfl, b2⟩
       rw [hu]
       have HM_2 : Hid (MD w2 B F M) := HM_1.out.step b2
       have HE_2 : Hid (VA w2 w.heap.size (e.cells tv) 31) := HE_1.out.step b2
       have HTR_2 : Hid (Tr w2 tv e.ts) := HTR_1.out.step b2
       have HT_2 : Hid (TBL w2) := HT_1.out.step b2
       have BB_2 := hI_ (BB_1.out.trans (b2.mono BB_1.out.size))
       clear b2 z0 z1 z2 z3 z4 z5 z6 z7 z8 z9 z10 HM_1 HE_1 HTR_1 HT_1 BB_1
       have z0 := HE_2.out.cell 0 (v := .int .u8 (e.op : Int)) rfl
       have z1 := HE_2.out.cell 1 (v := .int .u64 (e.key : Int)) rfl
       have z2 := HE_2.out.cell 2 (v := .int .i64 e.n0) rfl
       have z3 := HE_2.out.cell 3 (v := .int .i64 e.n1) rfl
       have z4 := HE_2.out.cell 4 (v := .int .i64 e.n2) rfl
       have z5 := HE_2.out.cell 5 (v := .int .i64 e.n3) rfl
       have z6 := HE_2.out.cell 6 (v := .int .i64 e.n4) rfl
       have z7 := HE_2.out.cell 7 (v := .int .i64 e.n5) rfl
       have z8 := HE_2.out.cell 8 (v := .int .i64 e.n6) rfl
       have z9 := HE_2.out.cell 9 (v := .int .i64 e.n7) rfl
       have z10 := HE_2.out.cell 10 (v := tv) rfl
       have c6 := HM_2.out.va.cell 6 (v := .bool M.uw) rfl
       rw [hw] at c6
       go_wp2_with fail
       go_ret
       exact ⟨rfl, BB_2.out⟩
      | false =>
       rw [if_neg (by simp)]
       go_enter func38, ntmps38
       go_wp2_with fail
       generalize hW : w.alloc (.cells (e.cells tv).toArray 31) = w0 at *
       clear hW
       refine (cC e tv w0 HQ.out.1 HT_0.out.tc HTR_0.out 0 (Or.inl ⟨hf, rfl⟩)).mono ?_
       rintro r w1 ⟨rfl, b1⟩
       have HM_1 : Hid (MD w1 B F M) := HM_0.out.step b1
       have HE_1 : Hid (VA w1 w.heap.size (e.cells tv) 31) := HE_0.out.step b1
       have HTR_1 : Hid (Tr w1 tv e.ts) := HTR_0.out.step b1
       have HT_1 : Hid (TBL w1) := HT_0.out.step b1
       have BB_1 := hI_ (BB_0.out.trans (b1.mono BB_0.out.size))
       clear b1 y0 y1 y2 y3 y4 y5 y6 y7 y8 y9 y10 HM_0 HE_0 HTR_0 HT_0 BB_0
       have z0 := HE_1.out.cell 0 (v := .int .u8 (e.op : Int)) rfl
       have z1 := HE_1.out.cell 1 (v := .int .u64 (e.key : Int)) rfl
       have z2 := HE_1.out.cell 2 (v := .int .i64 e.n0) rfl
       have z3 := HE_1.out.cell 3 (v := .int .i64 e.n1) rfl
       have z4 := HE_1.out.cell 4 (v := .int .i64 e.n2) rfl
       have z5 := HE_1.out.cell 5 (v := .int .i64 e.n3) rfl
       have z6 := HE_1.out.cell 6 (v := .int .i64 e.n4) rfl
       have z7 := HE_1.out.cell 7 (v := .int .i64 e.n5) rfl
       have z8 := HE_1.out.cell 8 (v := .int .i64 e.n6) rfl
       have z9 := HE_1.out.cell 9 (v := .int .i64 e.n7) rfl
       have z10 := HE_1.out.cell 10 (v := tv) rfl
       go_wp2_with fail
       refine (dL e.op w1).mono ?_
       rintro r wq ⟨rfl, hwq⟩
       obtain rfl := hwq.symm
       clear hwq
       rw [hd]
       go_wp2_with fail
       refine (jr w1 B F M HM_1.out e.key HQ.out.1.key).mono ?_
       rintro r w2 ⟨rfl, b2⟩
       rw [hu]
       have HM_2 : Hid (MD w2 B F M) := HM_1.out.step b2
       have HE_2 : Hid (VA w2 w.heap.size (e.cells tv) 31) := HE_1.out.step b2
       have HTR_2 : Hid (Tr w2 tv e.ts) := HTR_1.out.step b2
       have HT_2 : Hid (TBL w2) := HT_1.out.step b2
       have BB_2 := hI_ (BB_1.out.trans (b2.mono BB_1.out.size))
       clear b2 z0 z1 z2 z3 z4 z5 z6 z7 z8 z9 z10 HM_1 HE_1 HTR_1 HT_1 BB_1
       have z0 := HE_2.out.cell 0 (v := .int .u8 (e.op : Int)) rfl
       have z1 := HE_2.out.cell 1 (v := .int .u64 (e.key : Int)) rfl
       have z2 := HE_2.out.cell 2 (v := .int .i64 e.n0) rfl
       have z3 := HE_2.out.cell 3 (v := .int .i64 e.n1) rfl
       have z4 := HE_2.out.cell 4 (v := .int .i64 e.n2) rfl
       have z5 := HE_2.out.cell 5 (v := .int .i64 e.n3) rfl
       have z6 := HE_2.out.cell 6 (v := .int .i64 e.n4) rfl
       have z7 := HE_2.out.cell 7 (v := .int .i64 e.n5) rfl
       have z8 := HE_2.out.cell 8 (v := .int .i64 e.n6) rfl
       have z9 := HE_2.out.cell 9 (v := .int .i64 e.n7) rfl
       have z10 := HE_2.out.cell 10 (v := tv) rfl
       have c6 := HM_2.out.va.cell 6 (v := .bool M.uw) rfl
       rw [hw] at c6
       have HV0 := hI_ (aa w2 ([.pointer none, .int .i64 0] : List Value) 148)
       have HBA := hI_ ((Below.refl w2.heap.size w2).alloc (Nat.le_refl _) (.cells #[.pointer none, .int .i64 0] 148))
       go_upto_region 12 with (refine stA rfl 148 _ _ rfl w2.heap.size (by rfl) ([.pointer none, .int .i64 0] : List Value) ([.pointer (some ⟨F.pm, 0, none⟩), .int .i64 0] : List Value) (by rfl) 148 HV0.out uz rfl (by intro v hv; simp at hv; rcases hv with rfl | rfl <;> rfl) ?_; intro w3 hv3 hu3)
       have b3 := hu3.bel HBA.out (Nat.le_refl _)
       have HM_3 : Hid (MD w3 B F M) := HM_2.out.step b3
       have HE_3 : Hid (VA w3 w.heap.size (e.cells tv) 31) := HE_2.out.step b3
       have HTR_3 : Hid (Tr w3 tv e.ts) := HTR_2.out.step b3
       have HT_3 : Hid (TBL w3) := HT_2.out.step b3
       have BB_3 := hI_ (BB_2.out.trans (b3.mono BB_2.out.size))
       have HR_3 : Hid (RO w3 w2.heap.size F.pm 0) := hv3
       have HSZ : Hid (6 ≤ w2.heap.size) := (show 6 ≤ w2.heap.size from by have := HT_2.out.lt; omega)
       have HLW : Hid (w.heap.size ≤ w2.heap.size) := BB_2.out.size
       clear b3 hv3 hu3 HV0 HBA c6 z0 z1 z2 z3 z4 z5 z6 z7 z8 z9 z10 HM_2 HE_2 HTR_2 HT_2 BB_2
       generalize w2.heap.size = rp at *
       have z0 := HE_3.out.cell 0 (v := .int .u8 (e.op : Int)) rfl
       have z1 := HE_3.out.cell 1 (v := .int .u64 (e.key : Int)) rfl
       have z2 := HE_3.out.cell 2 (v := .int .i64 e.n0) rfl
       have z3 := HE_3.out.cell 3 (v := .int .i64 e.n1) rfl
       have z4 := HE_3.out.cell 4 (v := .int .i64 e.n2) rfl
       have z5 := HE_3.out.cell 5 (v := .int .i64 e.n3) rfl
       have z6 := HE_3.out.cell 6 (v := .int .i64 e.n4) rfl
       have z7 := HE_3.out.cell 7 (v := .int .i64 e.n5) rfl
       have z8 := HE_3.out.cell 8 (v := .int .i64 e.n6) rfl
       have z9 := HE_3.out.cell 9 (v := .int .i64 e.n7) rfl
       have z10 := HE_3.out.cell 10 (v := tv) rfl
       go_wp2_with fail
       refine (tG w3 B F M HM_3.out rp 0 HR_3.out e HQ.out.1 tv HTR_3.out HQ.out.2 HT_3.out HSZ.out HOP.out).mono ?_
       rintro r w4 ⟨rfl, h1, h2⟩
       have HR_4 : Hid (RO w4 rp F.pm (askL M 0 e)) := h1
       have BB_4 : Hid (Below w.heap.size w w4) := BB_3.out.trans (h2.below (by have := BB_3.out.size; omega) (fun i hi => by have := HLW.out; omega))
       have c1 := VA.cell HR_4.out 1 (v := .int .i64 (askL M 0 e)) rfl
       clear h1 h2 z0 z1 z2 z3 z4 z5 z6 z7 z8 z9 z10
       go_wp2_with fail
       go_ret
       exact ⟨rfl, BB_4.out⟩)
 ·rw [if_pos (Or.inl (by cases f; rfl; exact absurd (hform.1 rfl) hf))]
  go_enter func38, ntmps38
  go_wp2_with fail
  generalize hW : w.alloc (.cells (e.cells tv).toArray 31) = w0 at *
  clear hW
  refine (cC e tv w0 HQ.out.1 HT_0.out.tc HTR_0.out 3 (Or.inr ⟨hf, rfl⟩)).mono ?_
  rintro r w1 ⟨rfl, b1⟩
  have HM_1 : Hid (MD w1 B F M) := HM_0.out.step b1
  have HE_1 : Hid (VA w1 w.heap.size (e.cells tv) 31) := HE_0.out.step b1
  have HTR_1 : Hid (Tr w1 tv e.ts) := HTR_0.out.step b1
  have HT_1 : Hid (TBL w1) := HT_0.out.step b1
  have BB_1 := hI_ (BB_0.out.trans (b1.mono BB_0.out.size))
  clear b1 y0 y1 y2 y3 y4 y5 y6 y7 y8 y9 y10 HM_0 HE_0 HTR_0 HT_0 BB_0
  have z0 := HE_1.out.cell 0 (v := .int .u8 (e.op : Int)) rfl
  have z1 := HE_1.out.cell 1 (v := .int .u64 (e.key : Int)) rfl
  have z2 := HE_1.out.cell 2 (v := .int .i64 e.n0) rfl
  have z3 := HE_1.out.cell 3 (v := .int .i64 e.n1) rfl
  have z4 := HE_1.out.cell 4 (v := .int .i64 e.n2) rfl
  have z5 := HE_1.out.cell 5 (v := .int .i64 e.n3) rfl
  have z6 := HE_1.out.cell 6 (v := .int .i64 e.n4) rfl
  have z7 := HE_1.out.cell 7 (v := .int .i64 e.n5) rfl
  have z8 := HE_1.out.cell 8 (v := .int .i64 e.n6) rfl
  have z9 := HE_1.out.cell 9 (v := .int .i64 e.n7) rfl
  have z10 := HE_1.out.cell 10 (v := tv) rfl
  go_wp2_with fail
  go_ret
  exact ⟨rfl, BB_1.out⟩
theorem vb : ∀ v ∈ ([.int .u8 0, .int .u64 0, .int .i64 0, .int .i64 0, .int .i64 0, .int .i64 0, .int .i64 0, .int .i64 0, .int .i64 0, .int .i64 0, .slice none 0 0] : List Value), v.oneCell' = true := by
 intro v hv
 simp at hv
 rcases hv with rfl | rfl | rfl | rfl <;> rfl
set_option maxRecDepth 100000 in
theorem mq (w : World) (B : Nat) (F : FB) (M : PM) (hM : MD w B F M) (e : EV) (he : e.ok) (tv : Value) (R : Tr w tv e.ts) (hno : ∀ n c, tv = .slice none n c → c = 0) (T : TBL w) (f : Bool) (hform : f = true ↔ e.e8.form) (hno2 : refL M e f ≠ 0) :
  Calls prog 19 #[.pointer (some ⟨F.pm, 0, none⟩), .agg (e.cells tv).toArray] w fun r w' => r = .returned (.tuple #[.agg ([.int .u8 0, .int .u64 0, .int .i64 0, .int .i64 0, .int .i64 0, .int .i64 0, .int .i64 0, .int .i64 0, .int .i64 0, .int .i64 0, .slice none 0 0] : List Value).toArray, .int .i64 0, .int .i64 (refL M e f)]) ∧ Below w.heap.size w w' := by
 obtain ⟨er, her⟩ : ∃ x, x = refL M e f := ⟨_, rfl⟩
 have e1 : (er != 0) = true := by rw [her]; simpa using hno2
 rw [← her]
 have HER : Hid (er = refL M e f) := her
 clear her hno2
 have b0 := (Below.refl w.heap.size w).alloc (Nat.le_refl _) (.cells (e.cells tv).toArray 31)
 have b1 := b0.alloc (by simp) (.cells #[.int .u8 0, .int .u64 0, .int .i64 0, .int .i64 0, .int .i64 0, .int .i64 0, .int .i64 0, .int .i64 0, .int .i64 0, .int .i64 0, .slice none 0 0] 31)
 have V0 := (aa w (e.cells tv) 31).alloc (.cells #[.int .u8 0, .int .u64 0, .int .i64 0, .int .i64 0, .int .i64 0, .int .i64 0, .int .i64 0, .int .i64 0, .int .i64 0, .int .i64 0, .slice none 0 0] 31)
 have hv1 := aa (w.alloc (.cells (e.cells tv).toArray 31)) ([.int .u8 0, .int .u64 0, .int .i64 0, .int .i64 0, .int .i64 0, .int .i64 0, .int .i64 0, .int .i64 0, .int .i64 0, .int .i64 0, .slice none 0 0] : List Value) 31
 rw [World.size_alloc] at hv1
 have BB_0 := hI_ b1
 have HM_0 : Hid (MD _ B F M) := hM.step b1
 have HE_0 := hI_ V0
 have HV_0 := hI_ hv1
 have HTR_0 : Hid (Tr _ tv e.ts) := R.step b1
 have HT_0 : Hid (TBL _) := T.step b1
 have HQ : Hid (e.ok ∧ (∀ n c, tv = .slice none n c → c = 0) ∧ (f = true ↔ e.e8.form)) := ⟨he, hno, hform⟩
 clear b0 b1 V0 hv1 hM R T he hno hform
 go_enter func19, ntmps19
 go_upto_region 1 with fail
 generalize hW : (w.alloc (.cells (e.cells tv).toArray 31)).alloc (.cells #[.int .u8 0, .int .u64 0, .int .i64 0, .int .i64 0, .int .i64 0, .int .i64 0, .int .i64 0, .int .i64 0, .int .i64 0, .int .i64 0, .slice none 0 0] 31) = w0 at *
 clear hW
 have y0 := HE_0.out.cell 0 (v := .int .u8 (e.op : Int)) rfl
 have y1 := HE_0.out.cell 1 (v := .int .u64 (e.key : Int)) rfl
 have y2 := HE_0.out.cell 2 (v := .int .i64 e.n0) rfl
 have y3 := HE_0.out.cell 3 (v := .int .i64 e.n1) rfl
 have y4 := HE_0.out.cell 4 (v := .int .i64 e.n2) rfl
 have y5 := HE_0.out.cell 5 (v := .int .i64 e.n3) rfl
 have y6 := HE_0.out.cell 6 (v := .int .i64 e.n4) rfl
 have y7 := HE_0.out.cell 7 (v := .int .i64 e.n5) rfl
 have y8 := HE_0.out.cell 8 (v := .int .i64 e.n6) rfl
 have y9 := HE_0.out.cell 9 (v := .int .i64 e.n7) rfl
 have y10 := HE_0.out.cell 10 (v := tv) rfl
 go_wp2_with fail
 refine (eI w0 B F M HM_0.out e HQ.out.1 tv HTR_0.out HQ.out.2.1 HT_0.out f HQ.out.2.2).mono ?_
 rintro r w1 ⟨rfl, b1⟩
 have HM_1 : Hid (MD w1 B F M) := HM_0.out.step b1
 have HE_1 : Hid (VA w1 w.heap.size (e.cells tv) 31) := HE_0.out.step b1
 have HV_1 : Hid (VA w1 (w.heap.size + 1) ([.int .u8 0, .int .u64 0, .int .i64 0, .int .i64 0, .int .i64 0, .int .i64 0, .int .i64 0, .int .i64 0, .int .i64 0, .int .i64 0, .slice none 0 0] : List Value) 31) := HV_0.out.step b1
 have HTR_1 : Hid (Tr w1 tv e.ts) := HTR_0.out.step b1
 have HT_1 : Hid (TBL w1) := HT_0.out.step b1
 have BB_1 := hI_ (BB_0.out.trans (b1.mono BB_0.out.size))
 clear b1 HM_0 HE_0 HV_0 HTR_0 HT_0 BB_0
 clear y0 y1 y2 y3 y4 y5 y6 y7 y8 y9 y10
 rw [← HER.out]
 go_wp2_with (refine stA rfl 31 _ _ rfl (w.heap.size + 1) (by rfl) ([.int .u8 0, .int .u64 0, .int .i64 0, .int .i64 0, .int .i64 0, .int .i64 0, .int .i64 0, .int .i64 0, .int .i64 0, .int .i64 0, .slice none 0 0] : List Value) ([.int .u8 0, .int .u64 0, .int .i64 0, .int .i64 0, .int .i64 0, .int .i64 0, .int .i64 0, .int .i64 0, .int .i64 0, .int .i64 0, .slice none 0 0] : List Value) (by rfl) 31 HV_1.out ao rfl vb ?_; intro wf vf uf)
 have hld := run_loadVar_row (P := prog) wf (w.heap.size + 1) 31 31 _ (0, 0) _ vf.blk underlying31 rfl ao
 exact bodyPost_ret (v := .tuple #[.agg ([.int .u8 0, .int .u64 0, .int .i64 0, .int .i64 0, .int .i64 0, .int .i64 0, .int .i64 0, .int .i64 0, .int .i64 0, .int .i64 0, .slice none 0 0] : List Value).toArray, .int .i64 0, .int .i64 er]) (by simp [results, results19, asAddr, hld]) rfl ⟨rfl, uf.bel BB_1.out (by omega)⟩
set_option maxRecDepth 100000 in
theorem gQ (w : World) (B : Nat) (F : FB) (M : PM) (hM : MD w B F M) (e : EV) (he : e.ok) (tv : Value) (R : Tr w tv e.ts) (hno : ∀ n c, tv = .slice none n c → c = 0) (T : TBL w) (f : Bool) (hform : f = true ↔ e.e8.form) (hyes : refL M e f = 0) (h12 : e.op ≠ 12) (hlen : e.ts.length ≤ 8796093022208) :
  Calls prog 19 #[.pointer (some ⟨F.pm, 0, none⟩), .agg (e.cells tv).toArray] w fun r w' => (∃ u, r = .returned (.tuple #[.agg (e.cells u).toArray, .int .i64 e.mv, .int .i64 0]) ∧ OwnT w' w.heap.size u e.ts) ∧ Below w.heap.size w w' := by
 have e12 : ((e.op : Int) == 12) = false := by simpa using fun h2 : (e.op : Int) = 12 => h12 (by omega)
 have HLEN : Hid (e.ts.length ≤ 8796093022208) := hlen
 clear h12 hlen
 have b0 := (Below.refl w.heap.size w).alloc (Nat.le_refl _) (.cells (e.cells tv).toArray 31)
 have b1 := b0.alloc (by simp) (.cells #[.int .u8 0, .int .u64 0, .int .i64 0, .int .i64 0, .int .i64 0, .int .i64 0, .int .i64 0, .int .i64 0, .int .i64 0, .int .i64 0, .slice none 0 0] 31)
 have V0 := (aa w (e.cells tv) 31).alloc (.cells #[.int .u8 0, .int .u64 0, .int .i64 0, .int .i64 0, .int .i64 0, .int .i64 0, .int .i64 0, .int .i64 0, .int .i64 0, .int .i64 0, .slice none 0 0] 31)
 have hv1 := aa (w.alloc (.cells (e.cells tv).toArray 31)) ([.int .u8 0, .int .u64 0, .int .i64 0, .int .i64 0, .int .i64 0, .int .i64 0, .int .i64 0, .int .i64 0, .int .i64 0, .int .i64 0, .slice none 0 0] : List Value) 31
 rw [World.size_alloc] at hv1
 have BB_0 := hI_ b1
 have HM_0 : Hid (MD _ B F M) := hM.step b1
 have HE_0 := hI_ V0
 have HV_0 := hI_ hv1
 have HTR_0 : Hid (Tr _ tv e.ts) := R.step b1
 have HT_0 : Hid (TBL _) := T.step b1
 have HQ : Hid (e.ok ∧ (∀ n c, tv = .slice none n c → c = 0) ∧ (f = true ↔ e.e8.form)) := ⟨he, hno, hform⟩
 clear b0 b1 V0 hv1 hM R T he hno hform
 go_enter func19, ntmps19
 go_upto_region 1 with fail
 generalize hW : (w.alloc (.cells (e.cells tv).toArray 31)).alloc (.cells #[.int .u8 0, .int .u64 0, .int .i64 0, .int .i64 0, .int .i64 0, .int .i64 0, .int .i64 0, .int .i64 0, .int .i64 0, .int .i64 0, .slice none 0 0] 31) = w0 at *
 clear hW
 have y0 := HE_0.out.cell 0 (v := .int .u8 (e.op : Int)) rfl
 have y1 := HE_0.out.cell 1 (v := .int .u64 (e.key : Int)) rfl
 have y2 := HE_0.out.cell 2 (v := .int .i64 e.n0) rfl
 have y3 := HE_0.out.cell 3 (v := .int .i64 e.n1) rfl
 have y4 := HE_0.out.cell 4 (v := .int .i64 e.n2) rfl
 have y5 := HE_0.out.cell 5 (v := .int .i64 e.n3) rfl
 have y6 := HE_0.out.cell 6 (v := .int .i64 e.n4) rfl
 have y7 := HE_0.out.cell 7 (v := .int .i64 e.n5) rfl
 have y8 := HE_0.out.cell 8 (v := .int .i64 e.n6) rfl
 have y9 := HE_0.out.cell 9 (v := .int .i64 e.n7) rfl
 have y10 := HE_0.out.cell 10 (v := tv) rfl
 go_wp2_with fail
 refine (eI w0 B F M HM_0.out e HQ.out.1 tv HTR_0.out HQ.out.2.1 HT_0.out f HQ.out.2.2).mono ?_
 rintro r w1 ⟨rfl, b1⟩
 have HM_1 : Hid (MD w1 B F M) := HM_0.out.step b1
 have HE_1 : Hid (VA w1 w.heap.size (e.cells tv) 31) := HE_0.out.step b1
 have HV_1 : Hid (VA w1 (w.heap.size + 1) ([.int .u8 0, .int .u64 0, .int .i64 0, .int .i64 0, .int .i64 0, .int .i64 0, .int .i64 0, .int .i64 0, .int .i64 0, .int .i64 0, .slice none 0 0] : List Value) 31) := HV_0.out.step b1
 have HTR_1 : Hid (Tr w1 tv e.ts) := HTR_0.out.step b1
 have HT_1 : Hid (TBL w1) := HT_0.out.step b1
 have BB_1 := hI_ (BB_0.out.trans (b1.mono BB_0.out.size))
 clear b1 HM_0 HE_0 HV_0 HTR_0 HT_0 BB_0
 clear y0 y1 y2 y3 y4 y5 y6 y7 y8 y9 y10
 rw [hyes]
 have c10 := HE_1.out.cell 10 (v := tv) rfl
 go_wp2_with fail
 refine (gr tv e.ts w1 HTR_1.out HQ.out.2.1 HLEN.out).mono ?_
 rintro r w2 ⟨⟨u, rfl, ou⟩, b2⟩
 obtain ⟨ua, un, uc, rfl⟩ := ou.form
 have OU_2 : Hid (OwnT w2 w.heap.size (.slice ua un uc) e.ts) := ou.lower BB_1.out.size
 clear ou c10
 have HM_2 : Hid (MD w2 B F M) := HM_1.out.step b2
 have HE_2 : Hid (VA w2 w.heap.size (e.cells tv) 31) := HE_1.out.step b2
 have HV_2 : Hid (VA w2 (w.heap.size + 1) ([.int .u8 0, .int .u64 0, .int .i64 0, .int .i64 0, .int .i64 0, .int .i64 0, .int .i64 0, .int .i64 0, .int .i64 0, .int .i64 0, .slice none 0 0] : List Value) 31) := HV_1.out.step b2
 have HTR_2 : Hid (Tr w2 tv e.ts) := HTR_1.out.step b2
 have HT_2 : Hid (TBL w2) := HT_1.out.step b2
 have BB_2 := hI_ (BB_1.out.trans (b2.mono BB_1.out.size))
 clear b2 HM_1 HE_1 HV_1 HTR_1 HT_1 BB_1
 have hUF : Hid (∃ a n c, Value.slice ua un uc = Value.slice a n c) := ⟨_, _, _, rfl⟩
 have f10 := HE_2.out.free 10
 have hbk := HE_2.out.blk
 have c10b := HE_2.out.cell 10 (v := tv) rfl
 have hset : VA (w2.setCell ⟨w.heap.size, 10, none⟩ (.slice ua un uc)) w.heap.size (e.cells (.slice ua un uc)) 31 := HE_2.out.set 10 (.slice ua un uc)
 have huq := av w2 w.heap.size 10 (.slice ua un uc)
 have HE_3 := hI_ hset
 have HV_3 : Hid (VA (w2.setCell ⟨w.heap.size, 10, none⟩ (.slice ua un uc)) (w.heap.size + 1) ([.int .u8 0, .int .u64 0, .int .i64 0, .int .i64 0, .int .i64 0, .int .i64 0, .int .i64 0, .int .i64 0, .int .i64 0, .int .i64 0, .slice none 0 0] : List Value) 31) := HV_2.out.upd huq (by omega)
 have BB_3 := hI_ (huq.bel BB_2.out (Nat.le_refl _))
 have OU_3 : Hid (OwnT (w2.setCell ⟨w.heap.size, 10, none⟩ (.slice ua un uc)) w.heap.size (.slice ua un uc) e.ts) := OwnT.updV OU_2.out HE_2.out (by decide) huq
 have z0 := HE_3.out.cell 0 (v := .int .u8 (e.op : Int)) rfl
 clear hset huq
 go_upto_region 7 with fail
 generalize hW3 : w2.setCell ⟨w.heap.size, 10, none⟩ (.slice ua un uc) = w3 at *
 clear hW3 f10 hbk c10b z0 HM_2 HE_2 HV_2 HTR_2 HT_2 BB_2 OU_2
 refine wp_region_noPanic ?_
 refine wp_region_held_drew (S := fun V => VA V w.heap.size (e.cells (.slice ua un uc)) 31) (by kernel_rfl) (VA.drew HE_3.out) ?_
 intro hh_
 have bz := (Below.refl w3.heap.size w3).drew
 have HE_z := hI_ (HE_3.out.step bz)
 have HV_z := hI_ (HV_3.out.step bz)
 have OU_z := hI_ (OU_3.out.step bz)
 have BB_z := hI_ (BB_3.out.trans (bz.mono BB_3.out.size))
 generalize w3.drew = wz at *
 clear bz
 refine tK 0 43 (.agg (e.cells (.slice ua un uc)).toArray) (by exact rfl) (yieldsIf_load_mid (by rfl) _ _ rfl _ _ rfl _ _ (fun wq hS => (fun j v hj => by rw [Nat.zero_add]; exact VA.cell hS j hj)) underlying31 rfl ao) ?_
 try simp only [nrm]
 refine tK 1 44 (.agg (e.cells (.slice ua un uc)).toArray) (by exact rfl) (yieldsIf_load_mid (by rfl) _ _ rfl _ _ rfl _ _ (fun wq hS => (fun j v hj => by rw [Nat.zero_add]; exact VA.cell hS j hj)) underlying31 rfl ao) ?_
 try simp only [nrm]
 clear hh_
 refine rdy 2 (fun K hK => ?_)
 go_simp
 refine Calls.mono (jX e (.slice ua un uc) wz) ?_
 rintro e wm ⟨rfl, bm⟩
 have HE_m := hI_ (HE_z.out.step bm)
 have HV_m := hI_ (HV_z.out.step bm)
 have OU_m := hI_ (OU_z.out.step bm)
 have BB_m := hI_ (BB_z.out.trans (bm.mono BB_z.out.size))
 clear bm
 go_wp2_with fail
 refine hK.out _ _ (HE_m.out) (fun hh_ => ?_)
 try simp only [nrm]
 clear hK K
 refine rdy 3 (fun K hK => ?_)
 refine dM (by rfl) rfl 31 _ _ rfl (w.heap.size + 1) (by rfl) ([.int .u8 0, .int .u64 0, .int .i64 0, .int .i64 0, .int .i64 0, .int .i64 0, .int .i64 0, .int .i64 0, .int .i64 0, .int .i64 0, .slice none 0 0] : List Value) (e.cells (.slice ua un uc)) (by rfl) 31 HV_m.out ao rfl (EV.one e hUF.out) ?_
 intro wf vf uf
 have BB_f := hI_ (uf.bel BB_m.out (by omega))
 have OU_f : Hid (OwnT wf w.heap.size (.slice ua un uc) e.ts) := OwnT.updV OU_m.out HV_m.out (by decide) uf
 refine hK.out _ _ (HE_m.out.upd uf (by omega)) (fun hh_2 => ?_)
 clear hK K hh_
 try simp only [nrm]
 refine tK 4 5 (.int .i64 e.mv) (by exact rfl) (Or.inl ⟨by rfl, ?_⟩) ?_
 ·intro wq hS
  go_simp
 try simp only [nrm]
 refine tK 5 6 (.int .i64 0) (by exact rfl) (Or.inl ⟨by rfl, ?_⟩) ?_
 ·intro wq hS
  go_simp
 try simp only [nrm]
 refine wpAnyH_done (by kernel_rfl) ?_ _
 refine NoPanic.normal ?_
 clear hh_2
 go_wp2_with fail
 have hld := run_loadVar_row (P := prog) wf (w.heap.size + 1) 31 31 _ (0, 0) _ vf.blk underlying31 rfl ao
 exact bodyPost_ret (v := .tuple #[.agg (e.cells (.slice ua un uc)).toArray, .int .i64 e.mv, .int .i64 0]) (by simp [results, results19, asAddr, Act.put, hld]) rfl ⟨⟨(.slice ua un uc), rfl, OU_f.out⟩, BB_f.out⟩
theorem MD.reach_no {w w1 : World} {B : Nat} {F : FB} {M : PM} (h : MD w B F M) {p : Nat} {cs : List Value} {T : TypeId} (v : VA w1 p cs T) (hp : w.heap.size ≤ p) (h1 : T ≠ 208) (h2 : T ≠ 81) : ¬ F.reach w1 B p := fun hr => by
 obtain ⟨sv, hV⟩ := h.cbm
 rcases hr with hr | hr | hr | ⟨_, cs', fr, hr⟩ | ⟨_, cs', fr, hr⟩
 ·have := h.core_lt hr; omega
 ·have := hV.lt; omega
 ·obtain ⟨es, c, e⟩ := (h.catO hV).1
  have := (Array.getElem?_eq_some_iff.1 e).1
  omega
 ·have := v.blk.symm.trans hr
  simp only [Option.some.injEq, Obj.cells.injEq] at this
  exact h2 this.2.1
 ·have := v.blk.symm.trans hr
  simp only [Option.some.injEq, Obj.cells.injEq] at this
  exact h1 this.2.1
theorem FB.reach_back {w w1 : World} {B : Nat} {F : FB} {j : Nat} (b : Below w.heap.size w w1) (hl : j < w.heap.size) (h : F.reach w1 B j) : F.reach w B j := by
 rcases h with h | h | h | ⟨hB, cs, fr, h⟩ | ⟨hB, cs, fr, h⟩
 ·exact Or.inl h
 ·exact Or.inr (Or.inl h)
 ·exact Or.inr (Or.inr (Or.inl h))
 ·exact Or.inr (Or.inr (Or.inr (Or.inl ⟨hB, cs, fr, by rw [← b.block j hl]; exact h⟩)))
 ·exact Or.inr (Or.inr (Or.inr (Or.inr ⟨hB, cs, fr, by rw [← b.block j hl]; exact h⟩)))
set_option maxRecDepth 100000 in
theorem mI (w : World) (B : Nat) (F : FB) (M M' : PM) (hM : MD w B F M) (e : EV) (he : e.ok) (tv : Value) (R : Tr w tv e.ts) (hno : ∀ n c, tv = .slice none n c → c = 0) (T : TBL w) (f : Bool) (hform : f = true ↔ e.e8.form) (hday : ofDay e.op = false) (h12 : e.op ≠ 12) (hyes : refL M e f = 0) (hlen : e.ts.length ≤ 8796093022208)
  (hch : ∀ w1, Below w.heap.size w w1 → Calls prog 55 #[.pointer (some ⟨F.pm, 0, none⟩), .agg (e.cells tv).toArray] w1 fun r w' => ∃ F', r = .returned (.tuple #[]) ∧ MD w' B F' M' ∧ F'.pm = F.pm ∧ F'.km = F.km ∧ But (F.reach w1 B) w1 w') (hkl : M'.keys.length < 1000000000000) (hs1 : 0 ≤ M'.seq) (hs2 : M'.seq < 1000000000000000) :
  Calls prog 29 #[.pointer (some ⟨F.pm, 0, none⟩), .agg (e.cells tv).toArray] w fun r w' => ∃ F', r = .returned (.int .i64 0) ∧ MD w' B F' { M' with keys := useL M'.keys e.key, seq := M'.seq + 1 } ∧ F'.pm = F.pm ∧ F'.km = F.km ∧ But (F.reach w B) w w' := by
 have HTF : Hid (∃ a n c, tv = Value.slice a n c) := (show ∃ a n c, tv = Value.slice a n c from by obtain ⟨a, c, e, _⟩ := R.form; exact ⟨a, _, c, e⟩)
 have HP : Hid (∀ w1, Below w.heap.size w w1 → _) := fun w1 (b : Below w.heap.size w w1) => gQ w1 B F M (hM.step b) e he tv (R.step b) hno (T.step b) f hform hyes h12 hlen
 have HCH := hI_ hch
 have HR : Hid (∀ w1, Below w.heap.size w w1 → Tr w1 tv e.ts) := fun w1 b => R.step b
 have HW : Hid (MD w B F M) := hM
 have HOK : Hid (e.ok ∧ M'.keys.length < 1000000000000) := ⟨he, hkl⟩
 have e12 : ((e.op : Int) == 12) = false := by simpa using fun h2 : (e.op : Int) = 12 => h12 (by omega)
 have b0 := (Below.refl w.heap.size w).alloc (Nat.le_refl _) (.cells (e.cells tv).toArray 31)
 have b1 := b0.alloc (by simp) (.cells #[.int .u8 0, .int .u64 0, .int .i64 0, .int .i64 0, .int .i64 0, .int .i64 0, .int .i64 0, .int .i64 0, .int .i64 0, .int .i64 0, .slice none 0 0] 31)
 have V0 := aa w (e.cells tv) 31
 have hv1 := aa (w.alloc (.cells (e.cells tv).toArray 31)) ([.int .u8 0, .int .u64 0, .int .i64 0, .int .i64 0, .int .i64 0, .int .i64 0, .int .i64 0, .int .i64 0, .int .i64 0, .int .i64 0, .slice none 0 0] : List Value) 31
 rw [World.size_alloc] at hv1
 have y := V0.cell 0 (v := .int .u8 (e.op : Int)) rfl
 have HE_0 := hI_ V0
 have HF_0 := hI_ (V0.alloc (.cells #[.int .u8 0, .int .u64 0, .int .i64 0, .int .i64 0, .int .i64 0, .int .i64 0, .int .i64 0, .int .i64 0, .int .i64 0, .int .i64 0, .slice none 0 0] 31))
 have HV_0 := hI_ hv1
 have BB_0 := hI_ b1
 clear b0 b1 V0 hv1 hM R hno T hform hyes h12 hch hkl he
 go_enter func29, ntmps29
 go_wp2_with fail
 refine (dL e.op _).mono ?_
 rintro r wq ⟨rfl, hq⟩
 obtain rfl := hq.symm
 clear hq
 rw [hday]
 go_upto_region 4 with (first | (refine ldA rfl 31 _ rfl w.heap.size (by rfl) _ _ HE_0.out _ underlying31 rfl ao ?_) | (refine stA rfl 31 _ _ rfl (w.heap.size + 1) (by rfl) ([.int .u8 0, .int .u64 0, .int .i64 0, .int .i64 0, .int .i64 0, .int .i64 0, .int .i64 0, .int .i64 0, .int .i64 0, .int .i64 0, .slice none 0 0] : List Value) (e.cells tv) (by rfl) 31 HV_0.out ao rfl (EV.one e HTF.out) ?_; intro w1 v1 u1))
 have BB_1 : Hid (Below w.heap.size w w1) := u1.bel BB_0.out (by omega)
 have HV_1 := hI_ v1
 have HE_1 : Hid (VA w1 w.heap.size (e.cells tv) 31) := HF_0.out.upd u1 (by omega)
 have z := HV_1.out.cell 0 (v := .int .u8 (e.op : Int)) rfl
 clear v1 u1 y HE_0 HF_0 HV_0 BB_0
 go_wp2_with (refine ldA rfl 31 _ rfl (w.heap.size + 1) (by rfl) _ _ HV_1.out _ underlying31 rfl ao ?_)
 refine (HP.out w1 BB_1.out).mono ?_
 rintro r w2 ⟨⟨u, rfl, ou⟩, b2⟩
 obtain ⟨ua, un, uc, rfl⟩ := ou.form
 have BB_2 : Hid (Below w.heap.size w w2) := BB_1.out.trans (b2.mono BB_1.out.size)
 have V2 := aa w2 ([.int .u8 0, .int .u64 0, .int .i64 0, .int .i64 0, .int .i64 0, .int .i64 0, .int .i64 0, .int .i64 0, .int .i64 0, .int .i64 0, .slice none 0 0] : List Value) 31
 have B2 := (Below.refl w2.heap.size w2).alloc (Nat.le_refl _) (.cells #[.int .u8 0, .int .u64 0, .int .i64 0, .int .i64 0, .int .i64 0, .int .i64 0, .int .i64 0, .int .i64 0, .int .i64 0, .int .i64 0, .slice none 0 0] 31)
 have HV_2 := hI_ V2
 have HO_2 : Hid (OwnT _ w1.heap.size (.slice ua un uc) e.ts) := ou.step B2
 have HE_2 := hI_ ((HE_1.out.step b2).step B2)
 have BB_3 := hI_ (BB_2.out.trans (B2.mono BB_2.out.size))
 have s2 := BB_2.out.size
 have l2 := (HE_1.out.step b2).lt
 clear b2 V2 B2 z HV_1 BB_1 ou HE_1
 go_upto_region 9 with (refine stA rfl 31 _ _ rfl w2.heap.size (by rfl) ([.int .u8 0, .int .u64 0, .int .i64 0, .int .i64 0, .int .i64 0, .int .i64 0, .int .i64 0, .int .i64 0, .int .i64 0, .int .i64 0, .slice none 0 0] : List Value) (e.cells (.slice ua un uc)) (by rfl) 31 HV_2.out ao rfl (EV.one e ⟨ua, un, uc, rfl⟩) ?_; intro w3 v3 u3)
 have BB_4 : Hid (Below w.heap.size w w3) := u3.bel BB_3.out s2
 have HV_3 := hI_ v3
 have HO_3 : Hid (OwnT w3 w1.heap.size (.slice ua un uc) e.ts) := OwnT.updV HO_2.out HV_2.out (by decide) u3
 have HE_3 : Hid (VA w3 w.heap.size (e.cells tv) 31) := HE_2.out.upd u3 (by omega)
 clear v3 u3 HV_2 HO_2 HE_2 BB_3 BB_2
 go_wp2_with (first | (refine ldA rfl 31 _ rfl w2.heap.size (by rfl) _ _ HV_3.out _ underlying31 rfl ao ?_) | (refine ldA rfl 31 _ rfl w.heap.size (by rfl) _ _ HE_3.out _ underlying31 rfl ao ?_))
 refine Calls.mono (kZ e.e8 (.slice ua un uc) tv w3 (EV.ok8 HOK.out.1) HO_3.out.tr (HR.out w3 BB_4.out)) ?_
 rintro r w4 ⟨rfl, b4⟩
 have BB_5 : Hid (Below w.heap.size w w4) := BB_4.out.trans (b4.mono BB_4.out.size)
 have HE_4 : Hid (VA w4 w.heap.size (e.cells tv) 31) := HE_3.out.step b4
 clear b4 HV_3 HO_3 HE_3 BB_4
 go_wp2_with (refine ldA rfl 31 _ rfl w.heap.size (by rfl) _ _ HE_4.out _ underlying31 rfl ao ?_)
 refine (HCH.out w4 BB_5.out).mono ?_
 rintro r w5 ⟨F', rfl, h1, h2, h3, h4⟩
 have HM_5 : Hid (MD w5 B F' M') := h1
 have HPK : Hid (F'.pm = F.pm ∧ F'.km = F.km) := ⟨h2, h3⟩
 have HB_5 : Hid (But (F.reach w B) w w5) := (af BB_5.out _).trans h4 (fun j hl hj => FB.reach_back BB_5.out hl hj)
 have HE_5 : Hid (VA w5 w.heap.size (e.cells tv) 31) := HE_4.out.but h4 (HW.out.reach_no HE_4.out (Nat.le_refl _) (by decide) (by decide))
 have y := HE_5.out.cell 1 (v := .int .u64 (e.key : Int)) rfl
 rw [← h2]
 clear h1 h2 h3 h4 HE_4 BB_5
 go_wp2_with fail
 refine (sk w5 B F' M' HM_5.out e.key (by have := HOK.out.1.key; omega) HOK.out.2).mono ?_
 rintro r w6 ⟨rfl, h1, h2⟩
 have HM_6 := hI_ h1
 have HB_6 : Hid (But (F.reach w B) w w6) := HB_5.out.trans h2 (fun j _ hj => Or.inl (Or.inr (Or.inr (Or.inr (Or.inr (Or.inl (hj.trans HPK.out.2)))))))
 clear h1 h2 y HE_5
 have c9 := HM_6.out.va.cell 9 (v := .int .i64 M'.seq) rfl
 have f9 := HM_6.out.va.free 9
 have hbk := HM_6.out.va.blk
 have U7 := av w6 F'.pm 9 (.int .i64 (M'.seq + 1))
 have V7 : VA (w6.setCell ⟨F'.pm, 9, none⟩ (.int .i64 (M'.seq + 1))) F'.pm (mcells F' { M' with keys := useL M'.keys e.key, seq := M'.seq + 1 }) 100 := HM_6.out.va.set 9 (.int .i64 (M'.seq + 1))
 go_wp2_with fail
 have hw := HM_6.out.wf
 refine bodyPost_ret (v := .int .i64 0) (by simp [results, results29, go_sem]) rfl ⟨F', rfl, HM_6.out.setM U7 V7 ⟨rfl, rfl, rfl, rfl, rfl, rfl⟩ ⟨hw.day, hw.acs, hw.sort, hw.len, hw.rats, ⟨by show 0 ≤ M'.seq + 1; omega, by show M'.seq + 1 ≤ _; omega⟩, hw.run, hw.adds⟩, HPK.out.1, HPK.out.2, HB_6.out.trans U7.but (fun j _ hj => Or.inl (Or.inl (hj.trans HPK.out.1)))⟩
set_option maxRecDepth 100000 in
theorem si (w : World) (B : Nat) (F : FB) (M : PM) (h : MD w B F M) : Calls prog 20 #[.pointer (some ⟨F.pm, 0, none⟩)] w fun e w' => e = .returned (.int .i64 M.seq) ∧ w' = w := by
 have c := h.va.cell 9 (v := .int .i64 M.seq) rfl
 clear h
 go_enter func20, ntmps20
 go_wp2_with fail
 exact bodyPost_ret (v := .int .i64 M.seq) (by simp [results, results20, go_sem]) rfl ⟨rfl, rfl⟩
set_option maxRecDepth 100000 in
theorem s8 (w : World) (B : Nat) (F : FB) (M : PM) (h : MD w B F M) : Calls prog 33 #[.pointer (some ⟨F.pm, 0, none⟩)] w fun e w' => e = .returned (.int .i64 M.day) ∧ w' = w := by
 have c := h.va.cell 0 (v := .int .i64 M.day) rfl
 clear h
 go_enter func33, ntmps33
 go_wp2_with fail
 exact bodyPost_ret (v := .int .i64 M.day) (by simp [results, results33, go_sem]) rfl ⟨rfl, rfl⟩
def ZA : List Value := [.int .i64 0, .int .i64 0, .int .i64 0, .int .i64 0, .bool false, .int .i64 0, .int .i64 0, .int .i64 0]
set_option maxRecDepth 100000 in
theorem jT (w : World) (B : Nat) (F : FB) (M : PM) (h : MD w B F M) {i : Nat} {a : PA} {x : Nat × Nat} (hi : IsA F M i a x) {n : Int} (hn : a.id = n) : Calls prog 14 #[.pointer (some ⟨F.pm, 0, none⟩), .int .i64 n] w fun e w' => e = .returned (.tuple #[.agg a.told.toArray, .int .i64 0]) ∧ Below w.heap.size w w' := by
 have b0 := (Below.refl w.heap.size w).alloc (Nat.le_refl _) (.cells #[.int .i64 0, .int .i64 0, .int .i64 0, .int .i64 0, .bool false, .int .i64 0, .int .i64 0, .int .i64 0] 36)
 have HM := hI_ (h.step b0)
 have HV := hI_ (aa w ZA 36)
 have BB := hI_ b0
 have HI := hI_ hi
 have HN := hI_ hn
 have HX := hI_ ((h.aw hi).step b0)
 have HT : Hid (∀ j u, a.told[j]? = some u → (a.cells x.2)[j]? = some u) := fun j u hj => by
  have e : a.cells x.2 = a.told ++ [.map (some x.2)] := rfl
  rw [e, List.getElem?_append_left (List.getElem?_eq_some_iff.1 hj).1]
  exact hj
 clear b0 h hi hn
 go_enter func14, ntmps14
 go_wp2_with fail
 refine (bE _ B F M HM.out HI.out HN.out).mono ?_
 rintro e wq ⟨rfl, hq⟩
 obtain rfl := hq.symm
 clear hq
 go_wp2_with (first | (refine wpList_load_mid rfl 36 _ rfl x.1 0 (by rfl) a.told _ (fun j u hj => by rw [Nat.zero_add]; exact HX.out.cell j (HT.out j u hj)) underlying36 rfl dq ?_) | (refine stA rfl 36 _ _ rfl w.heap.size (by rfl) ZA a.told (by rfl) 36 HV.out dq rfl (PA.told_one a) ?_; intro wf vf uf))
 have hld := run_loadVar_row (P := prog) wf w.heap.size 36 36 _ (0, 0) _ vf.blk underlying36 rfl dq
 exact bodyPost_ret (v := .tuple #[.agg a.told.toArray, .int .i64 0]) (by simp [results, results14, asAddr, hld]) rfl ⟨rfl, uf.bel BB.out (Nat.le_refl _)⟩
set_option maxRecDepth 100000 in
theorem jS (w : World) (B : Nat) (F : FB) (M : PM) (hM : MD w B F M) (e : EV) (he : e.ok) (tv : Value) (R : Tr w tv e.ts) (hno : ∀ n c, tv = .slice none n c → c = 0) (T : TBL w) (f : Bool) (hform : f = true ↔ e.e8.form) (want : Int) (hno2 : refL M e f = want) (hw : want ≠ 0) :
  Calls prog 13 #[.pointer (some ⟨F.pm, 0, none⟩), .agg (e.cells tv).toArray, .int .i64 want] w fun r w' => r = .returned (.bool true) ∧ Below w.heap.size w w' := by
 have HP : Hid (∀ w1, Below w.heap.size w w1 → _) := fun w1 (b : Below w.heap.size w w1) => mq w1 B F M (hM.step b) e he tv (R.step b) hno (T.step b) f hform (by rw [hno2]; exact hw)
 rw [hno2] at HP
 have b0 := (Below.refl w.heap.size w).alloc (Nat.le_refl _) (.cells (e.cells tv).toArray 31)
 have HE := hI_ (aa w (e.cells tv) 31)
 have BB_1 := hI_ b0
 clear b0 hM R hno T hform hno2 he
 go_enter func13, ntmps13
 go_wp2_with (refine ldA rfl 31 _ rfl w.heap.size (by rfl) _ _ HE.out _ underlying31 rfl ao ?_)
 refine (HP.out _ BB_1.out).mono ?_
 rintro r w2 ⟨rfl, b2⟩
 have BB_2 : Hid (Below w.heap.size w w2) := BB_1.out.trans (b2.mono BB_1.out.size)
 have V2 := aa w2 ([.int .u8 0, .int .u64 0, .int .i64 0, .int .i64 0, .int .i64 0, .int .i64 0, .int .i64 0, .int .i64 0, .int .i64 0, .int .i64 0, .slice none 0 0] : List Value) 31
 have B2 := (Below.refl w2.heap.size w2).alloc (Nat.le_refl _) (.cells #[.int .u8 0, .int .u64 0, .int .i64 0, .int .i64 0, .int .i64 0, .int .i64 0, .int .i64 0, .int .i64 0, .int .i64 0, .int .i64 0, .slice none 0 0] 31)
 have HV_2 := hI_ V2
 have BB_3 := hI_ (BB_2.out.trans (B2.mono BB_2.out.size))
 have s2 := BB_2.out.size
 clear b2 V2 B2 BB_1
 go_wp2_with (refine stA rfl 31 _ _ rfl w2.heap.size (by rfl) ([.int .u8 0, .int .u64 0, .int .i64 0, .int .i64 0, .int .i64 0, .int .i64 0, .int .i64 0, .int .i64 0, .int .i64 0, .int .i64 0, .slice none 0 0] : List Value) ([.int .u8 0, .int .u64 0, .int .i64 0, .int .i64 0, .int .i64 0, .int .i64 0, .int .i64 0, .int .i64 0, .int .i64 0, .int .i64 0, .slice none 0 0] : List Value) (by rfl) 31 HV_2.out ao rfl (by decide) ?_; intro w3 v3 u3)
 exact bodyPost_ret (v := .bool true) (by simp [results, results13, go_sem]) rfl ⟨rfl, u3.bel BB_3.out s2⟩
theorem th {w : World} {ops : Array Oper} {rest : List Oper} {o : Oper} {a : Act} {Q : Exit → Act → World → Prop} (hgd : Region.wanted o (yielded ops a.tmps) = true) (t : TypeId) (x : Operand) (ho : o.op = .load t x)
  (p : Nat) (hx : a.eval x = .pointer (some ⟨p, 0, none⟩)) (cs : List Value) (T : TypeId) (h : VA w p cs T) (d : TypeDesc) (hu : prog.underlying t = some d) (hd : d.isRow = true) (hi : (prog.info? t).map (·.size) = some cs.length)
  (k : wpList prog ops Q rest (a.put o.dst (.agg cs.toArray)) w) : wpList prog ops Q (o :: rest) a w := by
 refine wpList_step fun K hK => ?_
 rw [if_pos hgd]
 exact wp_load_mid t x ho p 0 hx cs d (fun j v hv => by rw [Nat.zero_add]; exact h.cell j hv) hu hd hi (hK _ _ k)
set_option maxRecDepth 100000 in
theorem nE (w : World) (F : FB) (e : EV) (tv : Value) (X : Nat → Prop) (G : World → Prop) (hTF : ∃ a n c, tv = Value.slice a n c) (mv : Int)
  (hp : ∀ w1, Below w.heap.size w w1 → Calls prog 19 #[.pointer (some ⟨F.pm, 0, none⟩), .agg (e.cells tv).toArray] w1 fun r w' => (∃ u, r = .returned (.tuple #[.agg (e.cells u).toArray, .int .i64 mv, .int .i64 0]) ∧ OwnT w' w1.heap.size u e.ts) ∧ Below w1.heap.size w1 w')
  (ha : ∀ w1 u, Below w.heap.size w w1 → OwnT w1 w.heap.size u e.ts → Calls prog 29 #[.pointer (some ⟨F.pm, 0, none⟩), .agg (e.cells u).toArray] w1 fun r w' => r = .returned (.int .i64 0) ∧ G w' ∧ But X w w') :
  Calls prog 11 #[.pointer (some ⟨F.pm, 0, none⟩), .agg (e.cells tv).toArray] w fun r w' => r = .returned (.bool true) ∧ G w' ∧ But X w w' := by
 have HP := hI_ hp
 have HA := hI_ ha
 have b0 := (Below.refl w.heap.size w).alloc (Nat.le_refl _) (.cells (e.cells tv).toArray 31)
 have HE := hI_ (aa w (e.cells tv) 31)
 have BB_1 := hI_ b0
 clear b0 hp ha
 go_enter func11, ntmps11
 go_wp2_with (refine ldA rfl 31 _ rfl w.heap.size (by rfl) _ _ HE.out _ underlying31 rfl ao ?_)
 refine (HP.out _ BB_1.out).mono ?_
 rintro r w2 ⟨⟨u, rfl, ou⟩, b2⟩
 obtain ⟨ua, un, uc, rfl⟩ := ou.form
 have BB_2 : Hid (Below w.heap.size w w2) := BB_1.out.trans (b2.mono BB_1.out.size)
 have V2 := aa w2 ([.int .u8 0, .int .u64 0, .int .i64 0, .int .i64 0, .int .i64 0, .int .i64 0, .int .i64 0, .int .i64 0, .int .i64 0, .int .i64 0, .slice none 0 0] : List Value) 31
 have B2 := (Below.refl w2.heap.size w2).alloc (Nat.le_refl _) (.cells #[.int .u8 0, .int .u64 0, .int .i64 0, .int .i64 0, .int .i64 0, .int .i64 0, .int .i64 0, .int .i64 0, .int .i64 0, .int .i64 0, .slice none 0 0] 31)
 have HV_2 := hI_ V2
 have HO_2 : Hid (OwnT _ w.heap.size (.slice ua un uc) e.ts) := (ou.lower BB_1.out.size).step B2
 have BB_3 := hI_ (BB_2.out.trans (B2.mono BB_2.out.size))
 have s2 := BB_2.out.size
 clear b2 V2 B2 BB_1 ou HP HE
 go_upto_region 2 with (refine stA rfl 31 _ _ rfl w2.heap.size (by rfl) ([.int .u8 0, .int .u64 0, .int .i64 0, .int .i64 0, .int .i64 0, .int .i64 0, .int .i64 0, .int .i64 0, .int .i64 0, .int .i64 0, .slice none 0 0] : List Value) (e.cells (.slice ua un uc)) (by rfl) 31 HV_2.out ao rfl (EV.one e ⟨ua, un, uc, rfl⟩) ?_; intro w3 v3 u3)
 have BB_4 : Hid (Below w.heap.size w w3) := u3.bel BB_3.out s2
 have HV_3 := hI_ v3
 have HO_3 : Hid (OwnT w3 w.heap.size (.slice ua un uc) e.ts) := OwnT.updV HO_2.out HV_2.out (by decide) u3
 clear v3 u3 HV_2 HO_2 BB_2 BB_3
 go_wp2_with (refine th (by rfl) 31 _ rfl w2.heap.size (by rfl) _ _ HV_3.out _ underlying31 rfl ao ?_)
 refine (HA.out w3 _ BB_4.out HO_3.out).mono ?_
 rintro r w4 ⟨rfl, g4, k4⟩
 go_wp2_with fail
 exact bodyPost_ret (v := .bool true) (by simp [results, results11, go_sem]) rfl ⟨rfl, g4, k4⟩
def bank0 (d : Int) : PM := ⟨d, [], [], [], fun _ _ => 0, 0, [], false, 0, 0, 0⟩
set_option maxRecDepth 100000 in
theorem sg (w : World) (d : Int) (h1 : 1 ≤ d) (h2 : d ≤ 3652059) : Calls prog 27 #[.int .i64 d] w fun e w' => ∃ F : FB, e = .returned (.tuple #[.pointer (some ⟨F.pm, 0, none⟩), .int .i64 0]) ∧ MD w' w.heap.size F (bank0 d) ∧ F.sv = .slice none 0 0 ∧ F.ab = [] ∧ Below w.heap.size w w' := by
 have hmm := @run_makeMap prog
 go_enter func27, ntmps27
 go_wp2_with fail
 refine (kH d w h1 h2).mono ?_
 rintro e wq ⟨rfl, hq⟩
 obtain rfl := hq.symm
 clear hq
 go_wp2_with fail
 refine (pF w).mono ?_
 rintro e w1 ⟨⟨pc, rfl, C⟩, b1⟩
 obtain ⟨_, _, _, bm, sv, n, f, a1, a2, a3, a4, a5, a6, a7, a8⟩ := id C
 have HC := hI_ C
 have HV : Hid (VA w1 pc [.map (some bm), sv] 154) := a1
 have HB : Hid (bm < w1.heap.size ∧ w.heap.size ≤ bm) := ⟨by obtain ⟨es, c, e⟩ := mh a4; exact (Array.getElem?_eq_some_iff.1 e).1, a3⟩
 have BB_1 := hI_ b1
 clear C a1 a2 a3 a4 a5 a6 a7 a8 b1
 have A1 := hI_ (fV KR encI w1)
 have B1 := hI_ ((Below.refl w1.heap.size w1).alloc (Nat.le_refl _) (.map #[] 0))
 go_wp2_with fail
 refine (rE _).mono ?_
 rintro e w2 ⟨⟨pl, ml, rfl, l1, l2, L⟩, b2⟩
 have s1 := BB_1.out.size
 have s2 := b2.size
 rw [World.size_alloc] at l1 l2 s2
 have HL := hI_ L
 have B2 : Hid (Below w1.heap.size w1 w2) := B1.out.trans (b2.mono (by simp))
 have A2 := hI_ (A1.out.step b2)
 have A3 := hI_ (fV KU encS w2)
 have V3 := aa (w2.alloc (.map #[] 0)) [.int .i64 d, .pointer (some ⟨pc, 0, none⟩), .slice none 0 0, .map (some w1.heap.size), .pointer (some ⟨pl, 0, none⟩), .map (some w2.heap.size), .bool false, .int .i64 0, .int .i64 0, .int .i64 0] 100
 rw [World.size_alloc] at V3
 have HV3 := hI_ V3
 have B3 := hI_ (((Below.refl w2.heap.size w2).alloc (Nat.le_refl _) (.map #[] 0)).alloc (by simp) (.cells #[.int .i64 d, .pointer (some ⟨pc, 0, none⟩), .slice none 0 0, .map (some w1.heap.size), .pointer (some ⟨pl, 0, none⟩), .map (some w2.heap.size), .bool false, .int .i64 0, .int .i64 0, .int .i64 0] 100))
 have b3 := (Below.refl (w2.alloc (.map #[] 0)).heap.size (w2.alloc (.map #[] 0))).alloc (Nat.le_refl _) (.cells #[.int .i64 d, .pointer (some ⟨pc, 0, none⟩), .slice none 0 0, .map (some w1.heap.size), .pointer (some ⟨pl, 0, none⟩), .map (some w2.heap.size), .bool false, .int .i64 0, .int .i64 0, .int .i64 0] 100)
 have A4 := hI_ (A3.out.step b3)
 have ml2 : ml < w2.heap.size := by obtain ⟨es, c, e⟩ := bP HL.out.map; exact (Array.getElem?_eq_some_iff.1 e).1
 clear b2 L V3 b3
 go_wp2_with fail
 have hb := HB.out
 refine bodyPost_ret (v := .tuple #[.pointer (some ⟨w2.heap.size + 1, 0, none⟩), .int .i64 0]) (by simp [results, results27, go_sem]) rfl ⟨⟨w2.heap.size + 1, pc, bm, pl, ml, w1.heap.size, w2.heap.size, .slice none 0 0, []⟩, rfl, ⟨HV3.out, ⟨_, (HC.out.step B2.out).step B3.out⟩, ⟨sv, (HV.out.step B2.out).step B3.out⟩, HL.out.step B3.out, A2.out.step B3.out, A4.out, mn KP _ _, rfl, fun i a x ha _ => (by cases ha), ⟨by show _ ≤ w2.heap.size + 1; omega, by show _ ≤ pl; omega, by show _ ≤ ml; omega, by show _ ≤ w1.heap.size; omega, by show _ ≤ w2.heap.size; omega, fun x hx => (by cases hx)⟩, ?_, List.nodup_nil, ⟨⟨h1, h2⟩, fun a ha => (by cases ha), List.Pairwise.nil, by show 0 ≤ 256; decide, fun p hp => (by cases hp), ⟨by show (0 : Int) ≤ 0; decide, by show (0 : Int) ≤ _; decide⟩, ⟨⟨by show _ ≤ (0 : Int); decide, by show (0 : Int) ≤ _; decide⟩, ⟨by show _ ≤ (0 : Int); decide, by show (0 : Int) ≤ _; decide⟩⟩, fun k x hx => (by cases hx)⟩⟩, rfl, rfl, (BB_1.out.trans (B2.out.mono s1)).trans (B3.out.mono (by omega))⟩
 show [bm, ml, w1.heap.size, w2.heap.size].Nodup
 simp only [List.nodup_cons, List.mem_cons, List.not_mem_nil, or_false, not_or, not_false_eq_true, List.nodup_nil, and_true]
 omega
def closedA (a : PA) : PA := { a with opn := false, acc := 0 }
theorem PA.wf.closedA {a : PA} (h : a.wf) : (closedA a).wf := ⟨h.id, h.prod, h.cur, h.kind, h.bal, h.held, ⟨by show (0 : Int) ≤ 0; decide, by show (0 : Int) ≤ _; decide⟩, h.hs, h.hl, h.hv, h.sum⟩
set_option maxRecDepth 100000 in
theorem oK (w : World) (B : Nat) (F : FB) (M : PM) (hM : MD w B F M) (T : TBL w) (hB : 6 ≤ B) (e : EV) (tv : Value) (hop : e.op = 3) (i : Nat) (a : PA) (x : Nat × Nat) (hi : IsA F M i a x) (hid : a.id = e.n0)  :
  Calls prog 55 #[.pointer (some ⟨F.pm, 0, none⟩), .agg (e.cells tv).toArray] w fun r w' => r = .returned (.tuple #[]) ∧ MD w' B F ({ M with al := M.al.set i (closedA a) }) ∧ But F.core w w' := by
 have b0 := (Below.refl w.heap.size w).alloc (Nat.le_refl _) (.cells (e.cells tv).toArray 31)
 have b1 := b0.alloc (by simp) (.cells #[.int .i64 0, .int .i64 0, .int .i64 0, .int .i64 0, .int .i64 0, .int .i64 0, .int .i64 0, .int .i64 0] 28)
 have V00 := aa w (e.cells tv) 31
 have V0 := V00.alloc (.cells #[.int .i64 0, .int .i64 0, .int .i64 0, .int .i64 0, .int .i64 0, .int .i64 0, .int .i64 0, .int .i64 0] 28)
 have hn0 := aa (w.alloc (.cells (e.cells tv).toArray 31)) ([.int .i64 0, .int .i64 0, .int .i64 0, .int .i64 0, .int .i64 0, .int .i64 0, .int .i64 0, .int .i64 0] : List Value) 28
 rw [World.size_alloc] at hn0
 have HN0 := hI_ hn0
 have y0 := V00.cell 2 (v := .int .i64 e.n0) rfl
 have y1 := V00.cell 3 (v := .int .i64 e.n1) rfl
 have y2 := V00.cell 4 (v := .int .i64 e.n2) rfl
 have y3 := V00.cell 5 (v := .int .i64 e.n3) rfl
 have y4 := V00.cell 6 (v := .int .i64 e.n4) rfl
 have y5 := V00.cell 7 (v := .int .i64 e.n5) rfl
 have y6 := V00.cell 8 (v := .int .i64 e.n6) rfl
 have y7 := V00.cell 9 (v := .int .i64 e.n7) rfl
 have HE0 := hI_ V0
 have HB0 := hI_ b1
 have HH : Hid (MD w B F M ∧ TBL w) := ⟨hM, T⟩
 have HQ : Hid (6 ≤ B ∧ ∀ j, F.core j → j < w.heap.size) := ⟨hB, fun j hj => hM.core_lt hj⟩
 have HOP : Hid (e.op = 3) := hop
 have H_hi := hI_ hi
 have H_hid := hI_ hid
 clear hi hid
 clear b0 b1 V00 V0 hn0 hM T hB hop
 go_enter func55, ntmps55
 go_upto_region 2 with (refine stA rfl 28 _ _ rfl (w.heap.size + 1) (by rfl) ([.int .i64 0, .int .i64 0, .int .i64 0, .int .i64 0, .int .i64 0, .int .i64 0, .int .i64 0, .int .i64 0] : List Value) [.int .i64 e.n0, .int .i64 e.n1, .int .i64 e.n2, .int .i64 e.n3, .int .i64 e.n4, .int .i64 e.n5, .int .i64 e.n6, .int .i64 e.n7] (by rfl) 28 HN0.out bg rfl (aD e) ?_; intro w1 hv1 hu1)
 have hb1 := hu1.bel HB0.out (by omega)
 have HM_1 : Hid (MD w1 B F M) := HH.out.1.step hb1
 have HT_1 : Hid (TBL w1) := HH.out.2.step hb1
 have BB_1 := hI_ hb1
 have HE_1 : Hid (VA w1 w.heap.size (e.cells tv) 31) := HE0.out.upd hu1 (by omega)
 have HN_1 : Hid (VA w1 (w.heap.size + 1) [.int .i64 e.n0, .int .i64 e.n1, .int .i64 e.n2, .int .i64 e.n3, .int .i64 e.n4, .int .i64 e.n5, .int .i64 e.n6, .int .i64 e.n7] 28) := hv1
 have y : w1.cell? ⟨w.heap.size, 0, none⟩ = some (.int .u8 3) := by have := HE_1.out.cell 0 (v := .int .u8 (e.op : Int)) rfl; rw [HOP.out] at this; exact this
 clear hb1 hv1 hu1 HN0 HE0 HB0 HH y0 y1 y2 y3 y4 y5 y6 y7
 have m0 := HN_1.out.cell 0 (v := .int .i64 e.n0) rfl
 have HV_1 : Hid (VA w1 x.1 (a.cells x.2) 85) := HM_1.out.aw H_hi.out
 have f4 := HV_1.out.free 4
 have c4 := HV_1.out.cell 4 (v := .bool a.opn) rfl
 have c7 := HV_1.out.cell 7 (v := .int .i64 a.acc) rfl
 have hbk := HV_1.out.blk
 have HV_2 := hI_ (HV_1.out.set 4 (.bool false))
 have f7 := HV_2.out.free 7
 have hbk2 := HV_2.out.blk
 have HV_3 : Hid (VA ((w1.setCell ⟨x.1, 4, none⟩ (.bool false)).setCell ⟨x.1, 7, none⟩ (.int .i64 0)) x.1 ((closedA a).cells x.2) 85) := HV_2.out.set 7 (.int .i64 0)
 have HU := hI_ ((av w1 x.1 4 (.bool false)).trans (av (w1.setCell ⟨x.1, 4, none⟩ (.bool false)) x.1 7 (.int .i64 0)))
 have HM_4 := hI_ (HM_1.out.setA1 H_hi.out HU.out HV_3.out rfl (HM_1.out.awf H_hi.out).closedA rfl)
 have HB_4 : Hid (But F.core w _) := (af BB_1.out F.core).trans HU.out.but (fun j _ hj => fM H_hi.out.x (Or.inl hj))
 go_wp2_with fail
 refine (bE w1 B F M HM_1.out H_hi.out H_hid.out).mono ?_
 rintro r w2 ⟨rfl, hq⟩
 obtain rfl := hq.symm
 clear hq
 go_wp2_with fail
 exact bodyPost_end (v := .tuple #[]) (by simp [results, results55, go_sem]) rfl ⟨rfl, HM_4.out, HB_4.out⟩
set_option maxRecDepth 100000 in
theorem mR (w : World) (B : Nat) (F : FB) (M : PM) (hM : MD w B F M) (T : TBL w) (hB : 6 ≤ B) (e : EV) (tv : Value) (hop : e.op = 11) (hc : 0 ≤ e.n0 ∧ e.n0 ≤ 3) (hu : 0 ≤ e.n1 ∧ e.n1 ≤ 3) (hr : 1 ≤ e.n2 ∧ e.n2 ≤ 1000000000000) (hl : M.rates.length < 1000000000000) :
  Calls prog 55 #[.pointer (some ⟨F.pm, 0, none⟩), .agg (e.cells tv).toArray] w fun r w' => r = .returned (.tuple #[]) ∧ MD w' B F ({ M with rates := ((e.n0, e.n1), e.n2) :: M.rates }) ∧ But F.core w w' := by
 have b0 := (Below.refl w.heap.size w).alloc (Nat.le_refl _) (.cells (e.cells tv).toArray 31)
 have b1 := b0.alloc (by simp) (.cells #[.int .i64 0, .int .i64 0, .int .i64 0, .int .i64 0, .int .i64 0, .int .i64 0, .int .i64 0, .int .i64 0] 28)
 have V00 := aa w (e.cells tv) 31
 have V0 := V00.alloc (.cells #[.int .i64 0, .int .i64 0, .int .i64 0, .int .i64 0, .int .i64 0, .int .i64 0, .int .i64 0, .int .i64 0] 28)
 have hn0 := aa (w.alloc (.cells (e.cells tv).toArray 31)) ([.int .i64 0, .int .i64 0, .int .i64 0, .int .i64 0, .int .i64 0, .int .i64 0, .int .i64 0, .int .i64 0] : List Value) 28
 rw [World.size_alloc] at hn0
 have HN0 := hI_ hn0
 have y0 := V00.cell 2 (v := .int .i64 e.n0) rfl
 have y1 := V00.cell 3 (v := .int .i64 e.n1) rfl
 have y2 := V00.cell 4 (v := .int .i64 e.n2) rfl
 have y3 := V00.cell 5 (v := .int .i64 e.n3) rfl
 have y4 := V00.cell 6 (v := .int .i64 e.n4) rfl
 have y5 := V00.cell 7 (v := .int .i64 e.n5) rfl
 have y6 := V00.cell 8 (v := .int .i64 e.n6) rfl
 have y7 := V00.cell 9 (v := .int .i64 e.n7) rfl
 have HE0 := hI_ V0
 have HB0 := hI_ b1
 have HH : Hid (MD w B F M ∧ TBL w) := ⟨hM, T⟩
 have HQ : Hid (6 ≤ B ∧ ∀ j, F.core j → j < w.heap.size) := ⟨hB, fun j hj => hM.core_lt hj⟩
 have HOP : Hid (e.op = 11) := hop
 have H_hc := hI_ hc
 have H_hu := hI_ hu
 have H_hr := hI_ hr
 have H_hl := hI_ hl
 clear hc hu hr hl
 clear b0 b1 V00 V0 hn0 hM T hB hop
 go_enter func55, ntmps55
 go_upto_region 2 with (refine stA rfl 28 _ _ rfl (w.heap.size + 1) (by rfl) ([.int .i64 0, .int .i64 0, .int .i64 0, .int .i64 0, .int .i64 0, .int .i64 0, .int .i64 0, .int .i64 0] : List Value) [.int .i64 e.n0, .int .i64 e.n1, .int .i64 e.n2, .int .i64 e.n3, .int .i64 e.n4, .int .i64 e.n5, .int .i64 e.n6, .int .i64 e.n7] (by rfl) 28 HN0.out bg rfl (aD e) ?_; intro w1 hv1 hu1)
 have hb1 := hu1.bel HB0.out (by omega)
 have HM_1 : Hid (MD w1 B F M) := HH.out.1.step hb1
 have HT_1 : Hid (TBL w1) := HH.out.2.step hb1
 have BB_1 := hI_ hb1
 have HE_1 : Hid (VA w1 w.heap.size (e.cells tv) 31) := HE0.out.upd hu1 (by omega)
 have HN_1 : Hid (VA w1 (w.heap.size + 1) [.int .i64 e.n0, .int .i64 e.n1, .int .i64 e.n2, .int .i64 e.n3, .int .i64 e.n4, .int .i64 e.n5, .int .i64 e.n6, .int .i64 e.n7] 28) := hv1
 have y : w1.cell? ⟨w.heap.size, 0, none⟩ = some (.int .u8 11) := by have := HE_1.out.cell 0 (v := .int .u8 (e.op : Int)) rfl; rw [HOP.out] at this; exact this
 clear hb1 hv1 hu1 HN0 HE0 HB0 HH y0 y1 y2 y3 y4 y5 y6 y7
 go_upto_region 25 with fail
 clear y
 refine wp_region_noPanic ?_
 refine wp_region_held_drew (S := fun V => VA V (w.heap.size + 1) [.int .i64 e.n0, .int .i64 e.n1, .int .i64 e.n2, .int .i64 e.n3, .int .i64 e.n4, .int .i64 e.n5, .int .i64 e.n6, .int .i64 e.n7] 28 ∧ VA V F.pm (mcells F M) 100) (by kernel_rfl) (⟨HN_1.out.drew, HM_1.out.va.drew⟩) ?_
 intro hh_
 have bz := (Below.refl w1.heap.size w1).drew
 have HM_z := hI_ (HM_1.out.step bz)
 have HT_z := hI_ (HT_1.out.step bz)
 have HN_z := hI_ (HN_1.out.step bz)
 have BB_z := hI_ (BB_1.out.trans (bz.mono BB_1.out.size))
 generalize w1.drew = wz at *
 clear bz
 refine tK 0 127 (.pointer (some ⟨F.pm, 0, none⟩)) (by exact rfl) (Or.inl ⟨by rfl, ?_⟩) ?_
 ·intro wq hS
  go_simp
 try simp only [nrm]
 refine tK 1 128 (.pointer (some ⟨F.pm, 0, none⟩)) (by exact rfl) (Or.inl ⟨by rfl, ?_⟩) ?_
 ·intro wq hS
  go_simp
 try simp only [nrm]
 refine tK 2 129 (.pointer (some ⟨F.pm, 3, none⟩)) (by exact rfl) (Or.inl ⟨by rfl, ?_⟩) ?_
 ·intro wq hS
  go_simp
 try simp only [nrm]
 refine tK 3 130 (.map (some F.rm)) (by exact rfl) (Or.inl ⟨by rfl, ?_⟩) ?_
 ·intro wq hS
  have c := VA.cell hS.2 3 (v := .map (some F.rm)) rfl
  go_simp
 try simp only [nrm]
 refine tK 4 131 (.pointer (some ⟨w.heap.size + 1, 0, none⟩)) (by exact rfl) (Or.inl ⟨by rfl, ?_⟩) ?_
 ·intro wq hS
  go_simp
 try simp only [nrm]
 refine tK 5 132 (.int .i64 e.n0) (by exact rfl) (Or.inl ⟨by rfl, ?_⟩) ?_
 ·intro wq hS
  have c := VA.cell hS.1 0 (v := .int .i64 e.n0) rfl
  go_simp
 try simp only [nrm]
 refine tK 6 133 (.pointer (some ⟨w.heap.size + 1, 1, none⟩)) (by exact rfl) (Or.inl ⟨by rfl, ?_⟩) ?_
 ·intro wq hS
  go_simp
 try simp only [nrm]
 refine tK 7 134 (.int .i64 e.n1) (by exact rfl) (Or.inl ⟨by rfl, ?_⟩) ?_
 ·intro wq hS
  have c := VA.cell hS.1 1 (v := .int .i64 e.n1) rfl
  go_simp
 try simp only [nrm]
 refine tK 8 135 (.agg #[.int .i64 e.n0, .int .i64 e.n1]) (by exact rfl) (Or.inl ⟨by rfl, ?_⟩) ?_
 ·intro wq hS
  go_simp
 try simp only [nrm]
 refine tK 9 136 (.pointer (some ⟨w.heap.size + 1, 2, none⟩)) (by exact rfl) (Or.inl ⟨by rfl, ?_⟩) ?_
 ·intro wq hS
  go_simp
 try simp only [nrm]
 refine tK 10 137 (.int .i64 e.n2) (by exact rfl) (Or.inl ⟨by rfl, ?_⟩) ?_
 ·intro wq hS
  have c := VA.cell hS.1 2 (v := .int .i64 e.n2) rfl
  go_simp
 try simp only [nrm]
 clear hh_
 refine rdy 11 (fun K hK => ?_)
 refine ww (by rfl) _ _ _ 94 rfl KR encI 2 underlying94 F.rm M.rates (by rfl) HM_z.out.rts (by have := H_hl.out; unfold maxLen; omega) (e.n0, e.n1) e.n2 (by rfl) (by rfl) ⟨⟨by have := H_hc.out.1; simp only; omega, by have := H_hc.out.2; simp only; omega⟩, ⟨by have := H_hu.out.1; simp only; omega, by have := H_hu.out.2; simp only; omega⟩⟩ ?_
 intro w4 am tn
 have HM_4 := (show Hid (MD w4 B F { M with rates := ((e.n0, e.n1), e.n2) :: M.rates }) from HM_z.out.setR (aL tn) am (fun p hp => by
  rcases List.mem_cons.1 hp with rfl | hp
  ·exact ⟨H_hc.out, H_hu.out, H_hr.out⟩
  ·exact HM_z.out.wf.rats p hp))
 have HN_4 : Hid (VA w4 (w.heap.size + 1) [.int .i64 e.n0, .int .i64 e.n1, .int .i64 e.n2, .int .i64 e.n3, .int .i64 e.n4, .int .i64 e.n5, .int .i64 e.n6, .int .i64 e.n7] 28) := HN_z.out.but (aL tn) (fun hj => by have := HQ.out.2 _ (show F.core F.rm from Or.inr (Or.inr (Or.inr (Or.inl rfl)))); omega)
 have HB_4 : Hid (But F.core w w4) := (af BB_z.out F.core).trans (aL tn) (fun j _ hj => Or.inr (Or.inr (Or.inr (Or.inl hj))))
 clear am tn
 refine hK.out _ _ ⟨HN_4.out, HM_4.out.va⟩ (fun hh_ => ?_)
 try simp only [nrm]
 clear hK K hh_
 refine wpAnyH_done (by kernel_rfl) ?_ _
 refine NoPanic.normal ?_
 go_wp2_with fail
 exact bodyPost_end (v := .tuple #[]) (by simp [results, results55, go_sem]) rfl ⟨rfl, HM_4.out, HB_4.out⟩
end Go.Proofs.YtjkiplndbcmmbaaGreatDoor
namespace Go.Proofs.YtjkiplndbcmmbaaGreatDoor
open Go.RowKit Go.Maps
theorem wth_0 {l e : Int} : wth l e = 0 ↔ l = 0 ∧ e = 0 := by
 unfold wth
 constructor
 ·intro h
  split at h
  ·rename_i c; exact absurd h c.1
  ·rename_i c
   subst h
   refine ⟨rfl, ?_⟩
   by_cases he : e = 0
   ·exact he
   ·exact absurd ⟨he, Or.inl rfl⟩ c
 ·rintro ⟨rfl, rfl⟩
  simp
theorem aF {l e : Int} {b : Bool} (he : e ≠ 0) : whn l b e = 0 ↔ l = 0 ∧ b = false := by
 unfold whn
 cases b
 ·simp
 ·simp [wth_0, he]
theorem namedK_0 {M : PM} {l id k : Int} : namedK M l id k = 0 ↔ l = 0 ∧ ∃ a, acctO M id = some a ∧ a.opn = true ∧ (k = 0 ∨ a.kind = k) := by
 unfold namedK
 cases h : acctO M id with
 | none => simp [wth_0]
 | some a =>
  simp only [Option.some.injEq, exists_eq_left']
  rw [aF (by decide), aF (by decide)]
  constructor
  ·rintro ⟨⟨h1, h2⟩, h3⟩
   refine ⟨h1, by simpa using h2, ?_⟩
   by_cases hk : k = 0
   ·exact Or.inl hk
   ·right
    simpa [hk] using h3
  ·rintro ⟨h1, h2, h3⟩
   refine ⟨⟨h1, by simp [h2]⟩, ?_⟩
   rcases h3 with h3 | h3 <;> simp [h3]
theorem beyond_0 {n g : Int} : beyond n g = false ↔ 1 ≤ n ∧ n ≤ g := by
 unfold beyond
 rw [decide_eq_false_iff_not]
 omega
def onA (al : List PA) (id : Int) (f : PA → PA) : List PA := al.map fun a => if a.id = id then f a else a
theorem dX {al : List PA} (hs : al.Pairwise fun a b => a.id < b.id) {i : Nat} {a : PA} (ha : al[i]? = some a) {id : Int} (hid : a.id = id) (f : PA → PA) : al.set i (f a) = onA al id f := by
 refine List.ext_getElem? (fun j => ?_)
 unfold onA
 rw [List.getElem?_map, List.getElem?_set]
 obtain ⟨hl, e⟩ := List.getElem?_eq_some_iff.1 ha
 split
 ·rename_i hij
  subst hij
  rw [ha]
  simp [hid]
 ·rename_i hij
  cases hb : al[j]? with
  | none => rfl
  | some b =>
   obtain ⟨hl2, e2⟩ := List.getElem?_eq_some_iff.1 hb
   have hne : b.id ≠ id := by
    rw [← hid]
    rcases Nat.lt_or_gt_of_ne hij with h | h
    ·have := List.pairwise_iff_getElem.1 hs i j hl hl2 h
     rw [e, e2] at this
     omega
    ·have := List.pairwise_iff_getElem.1 hs j i hl2 hl h
     rw [e, e2] at this
     omega
   simp [hne]
theorem qr {al : List PA} (hs : al.Pairwise fun a b => a.id < b.id) {i : Nat} {a a' : PA} (ha : al[i]? = some a) (hid : a'.id = a.id) : (al.set i a').Pairwise fun a b => a.id < b.id := by
 have h1 : (al.map (·.id)).Pairwise (· < ·) := List.pairwise_map.2 hs
 rw [← mb ha hid] at h1
 exact List.pairwise_map.1 h1
def addB (n : Int) (a : PA) : PA := setB a (a.bal + n)
theorem sr {al : List PA} (hs : al.Pairwise fun a b => a.id < b.id) {i j : Nat} {a b : PA} (ha : al[i]? = some a) (hb : al[j]? = some b) (hij : i ≠ j) {p q : Int} (hp : a.id = p) (hq : b.id = q) (n m : Int) : (al.set i (addB n a)).set j (addB m b) = onA (onA al p (addB n)) q (addB m) := by
 have h1 : (al.set i (addB n a))[j]? = some b := by rw [List.getElem?_set_ne hij]; exact hb
 rw [dX (qr (a' := addB n a) hs ha rfl) h1 hq (addB m), dX hs ha hp (addB n)]
def curA (M : PM) (id : Int) : Int := ((acctO M id).map (·.cur)).getD 0
def cshM (M : PM) (id n : Int) : PM := { M with al := onA M.al id (addB n), b := pstB M.b (curA M id) 1 2 n, n := pstN M.b M.n (curA M id) 1 2 n }
def dblM (M : PM) (id n id2 m d c v : Int) : PM := { M with al := onA (onA M.al id (addB n)) id2 (addB m), b := pstB M.b (curA M id) d c v, n := pstN M.b M.n (curA M id) d c v }
def chg (M : PM) (e : EV) : PM :=
 if e.op = 1 then { M with vs := M.vs ++ [e.pv] } else
 if e.op = 2 then { M with al := M.al.take (plc M.al e.n0) ++ newA M e.n0 e.n1 :: M.al.drop (plc M.al e.n0) } else
 if e.op = 3 then { M with al := onA M.al e.n0 closedA } else
 if e.op = 4 then cshM M e.n0 e.n1 else
 if e.op = 5 then cshM M e.n0 (-e.n1) else
 if e.op = 6 then dblM M e.n0 (-e.n2) e.n1 e.n2 2 2 e.n2 else
 if e.op = 7 then { M with al := onA M.al e.n0 fun a => heldA a e.n1 e.n2 } else
 if e.op = 8 then { M with al := onA M.al e.n0 fun a => freedA a e.n1 ((lkA a.hs e.n1).getD 0) } else
 if e.op = 9 then dblM M e.n0 e.n2 e.n1 e.n2 3 2 e.n2 else
 if e.op = 10 then dblM M e.n0 (-e.n2) e.n1 (-e.n2) 3 2 (-e.n2) else
 if e.op = 11 then { M with rates := ((e.n0, e.n1), e.n2) :: M.rates } else M
theorem eD {P : PM → Prop} (M : PM) (e : EV) (h1 : e.op = 1 → P { M with vs := M.vs ++ [e.pv] }) (h2 : e.op = 2 → P { M with al := M.al.take (plc M.al e.n0) ++ newA M e.n0 e.n1 :: M.al.drop (plc M.al e.n0) }) (h3 : e.op = 3 → P { M with al := onA M.al e.n0 closedA }) (h4 : e.op = 4 → P (cshM M e.n0 e.n1)) (h5 : e.op = 5 → P (cshM M e.n0 (-e.n1))) (h6 : e.op = 6 → P (dblM M e.n0 (-e.n2) e.n1 e.n2 2 2 e.n2)) (h7 : e.op = 7 → P { M with al := onA M.al e.n0 fun a => heldA a e.n1 e.n2 }) (h8 : e.op = 8 → P { M with al := onA M.al e.n0 fun a => freedA a e.n1 ((lkA a.hs e.n1).getD 0) }) (h9 : e.op = 9 → P (dblM M e.n0 e.n2 e.n1 e.n2 3 2 e.n2)) (h10 : e.op = 10 → P (dblM M e.n0 (-e.n2) e.n1 (-e.n2) 3 2 (-e.n2))) (h11 : e.op = 11 → P { M with rates := ((e.n0, e.n1), e.n2) :: M.rates }) (h0 : ¬ (1 ≤ e.op ∧ e.op ≤ 11) → P M) : P (chg M e) := by
 unfold chg
 by_cases k1 : e.op = 1
 ·rw [if_pos k1]; exact h1 k1
 rw [if_neg k1]
 by_cases k2 : e.op = 2
 ·rw [if_pos k2]; exact h2 k2
 rw [if_neg k2]
 by_cases k3 : e.op = 3
 ·rw [if_pos k3]; exact h3 k3
 rw [if_neg k3]
 by_cases k4 : e.op = 4
 ·rw [if_pos k4]; exact h4 k4
 rw [if_neg k4]
 by_cases k5 : e.op = 5
 ·rw [if_pos k5]; exact h5 k5
 rw [if_neg k5]
 by_cases k6 : e.op = 6
 ·rw [if_pos k6]; exact h6 k6
 rw [if_neg k6]
 by_cases k7 : e.op = 7
 ·rw [if_pos k7]; exact h7 k7
 rw [if_neg k7]
 by_cases k8 : e.op = 8
 ·rw [if_pos k8]; exact h8 k8
 rw [if_neg k8]
 by_cases k9 : e.op = 9
 ·rw [if_pos k9]; exact h9 k9
 rw [if_neg k9]
 by_cases k10 : e.op = 10
 ·rw [if_pos k10]; exact h10 k10
 rw [if_neg k10]
 by_cases k11 : e.op = 11
 ·rw [if_pos k11]; exact h11 k11
 rw [if_neg k11]
 exact h0 (by omega)
theorem cw (M : PM) (e : EV) : (chg M e).seq = M.seq := eD (P := fun X => X.seq = M.seq) M e (fun _ => rfl) (fun _ => rfl) (fun _ => rfl) (fun _ => rfl) (fun _ => rfl) (fun _ => rfl) (fun _ => rfl) (fun _ => rfl) (fun _ => rfl) (fun _ => rfl) (fun _ => rfl) (fun _ => rfl)
theorem eT (M : PM) (e : EV) : (chg M e).keys = M.keys := eD (P := fun X => X.keys = M.keys) M e (fun _ => rfl) (fun _ => rfl) (fun _ => rfl) (fun _ => rfl) (fun _ => rfl) (fun _ => rfl) (fun _ => rfl) (fun _ => rfl) (fun _ => rfl) (fun _ => rfl) (fun _ => rfl) (fun _ => rfl)
theorem fh (b : Int → Int → Int) (m cur d c n : Int) : m ≤ pstN b m cur d c n ∧ pstN b m cur d c n ≤ m + 1 := by
 unfold pstN
 split
 ·omega
 ·unfold pcnt
  split <;> omega
theorem vI (M : PM) (e : EV) : M.n ≤ (chg M e).n ∧ (chg M e).n ≤ M.n + 1 := by
 have h : M.n ≤ M.n ∧ M.n ≤ M.n + 1 := by omega
 exact eD (P := fun X => M.n ≤ X.n ∧ X.n ≤ M.n + 1) M e (fun _ => h) (fun _ => h) (fun _ => h) (fun _ => fh _ _ _ _ _ _) (fun _ => fh _ _ _ _ _ _) (fun _ => fh _ _ _ _ _ _) (fun _ => h) (fun _ => h) (fun _ => fh _ _ _ _ _ _) (fun _ => fh _ _ _ _ _ _) (fun _ => h) (fun _ => h)
theorem mU (M : PM) (e : EV) : (chg M e).rates.length ≤ M.rates.length + 1 := by
 have h : M.rates.length ≤ M.rates.length + 1 := by omega
 exact eD (P := fun X => X.rates.length ≤ M.rates.length + 1) M e (fun _ => h) (fun _ => h) (fun _ => h) (fun _ => h) (fun _ => h) (fun _ => h) (fun _ => h) (fun _ => h) (fun _ => h) (fun _ => h) (fun _ => by simp) (fun _ => h)
theorem qL (ks : List (Nat × Unit)) (k : Nat) : (useL ks k).length ≤ ks.length + 1 := by
 unfold useL
 split <;> simp
def nxt (M : PM) (e : EV) : PM := { chg M e with keys := useL (chg M e).keys e.key, seq := (chg M e).seq + 1 }
theorem fZ {M : PM} (h : M.cnt) (hs : M.seq < 1000000000) (e : EV) : (nxt M e).cnt := by
 obtain ⟨h1, h2, h3, h4⟩ := h
 have a1 := mU M e
 have a2 := vI M e
 have a3 := qL (chg M e).keys e.key
 rw [eT] at a3
 refine ⟨?_, ?_, ?_, ?_⟩
 ·show ((chg M e).rates.length : Int) ≤ (chg M e).seq + 1
  rw [cw]; omega
 ·show ((useL (chg M e).keys e.key).length : Int) ≤ (chg M e).seq + 1
  rw [cw, eT]; omega
 ·show 0 ≤ (chg M e).n ∧ (chg M e).n ≤ 2 * ((chg M e).seq + 1)
  rw [cw]; omega
 ·show 0 ≤ (chg M e).seq + 1 ∧ (chg M e).seq + 1 ≤ 1000000000
  rw [cw]; omega
theorem pZ {M : PM} {e : EV} {f : Bool} (h : refL M e f = 0) : f = true ∧ ¬ (e.op = 12 ∧ e.n3 ≠ 0) ∧ ofDay e.op = false ∧ usedK M e.key = false ∧ M.uw = false ∧ askL M 0 e = 0 := by
 unfold refL at h
 split at h
 ·cases h
 ·rename_i h1
  split at h
  ·cases h
  ·rename_i h2
   split at h
   ·cases h
   ·rename_i h3
    split at h
    ·cases h
    ·rename_i h4
     refine ⟨by cases f <;> simp_all, fun h5 => h1 (Or.inr h5), by simpa using h2, by simpa using h3, by simpa using h4, h⟩
theorem jh {M : PM} {e : EV} {f : Bool} (h1 : f = true) (h2 : ¬ (e.op = 12 ∧ e.n3 ≠ 0)) (h3 : ofDay e.op = false) (h4 : usedK M e.key = false) (h5 : M.uw = false) : refL M e f = askL M 0 e := by
 unfold refL
 rw [if_neg (by simp [h1]; intro a; exact Classical.not_not.1 (fun b => h2 ⟨a, b⟩)), if_neg (by simp [h3]), if_neg (by simp [h4]), if_neg (by simp [h5])]
end Go.Proofs.YtjkiplndbcmmbaaGreatDoor