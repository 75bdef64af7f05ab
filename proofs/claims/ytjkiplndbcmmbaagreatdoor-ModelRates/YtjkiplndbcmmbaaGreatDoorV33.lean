/- texts of the model: Mop Mox -/
import Derived.Test.YtjkiplndbcmmbaaGreatDoorV32
set_option linter.unusedVariables false
set_option linter.unusedSimpArgs false
set_option maxHeartbeats 16000000
namespace Go.Proofs.YtjkiplndbcmmbaaGreatDoor
open Tryz
open Go.RowKit Go.Maps
theorem bg : (prog.info? 28).map (·.size) = some 8 := by kernel_rfl
theorem aD (e : EV) : ∀ v ∈ ([.int .i64 e.n0, .int .i64 e.n1, .int .i64 e.n2, .int .i64 e.n3, .int .i64 e.n4, .int .i64 e.n5, .int .i64 e.n6, .int .i64 e.n7] : List Value), v.oneCell' = true := by
 intro v hv
 simp at hv
 rcases hv with rfl | rfl | rfl | rfl | rfl | rfl | rfl | rfl <;> rfl
set_option maxRecDepth 100000 in
theorem vm (w : World) (B : Nat) (F : FB) (M : PM) (hM : MD w B F M) (rp : Nat) (l : Int) (h : RO w rp F.pm l) (e : EV) (he : e.ok) (tv : Value) (R : Tr w tv e.ts) (hno : ∀ n c, tv = .slice none n c → c = 0) (T : TBL w) (hrp : 6 ≤ rp) (hop : e.op = 1) :
  Calls prog 74 #[.pointer (some ⟨rp, 0, none⟩), .agg (e.cells tv).toArray] w fun r w' => r = .returned (.tuple #[]) ∧ RO w' rp F.pm (wth l (addE M.vs e.pv)) ∧ But (fun i => i = rp) w w' := by
 have b0 := (Below.refl w.heap.size w).alloc (Nat.le_refl _) (.cells (e.cells tv).toArray 31)
 have b1 := b0.alloc (by simp) (.cells #[.int .i64 0, .int .i64 0, .int .i64 0, .int .i64 0, .int .i64 0, .int .i64 0, .int .i64 0, .int .i64 0] 28)
 have V00 := aa w (e.cells tv) 31
 have V0 := V00.alloc (.cells #[.int .i64 0, .int .i64 0, .int .i64 0, .int .i64 0, .int .i64 0, .int .i64 0, .int .i64 0, .int .i64 0] 28)
 have hn0 := aa (w.alloc (.cells (e.cells tv).toArray 31)) ([.int .i64 0, .int .i64 0, .int .i64 0, .int .i64 0, .int .i64 0, .int .i64 0, .int .i64 0, .int .i64 0] : List Value) 28
 rw [World.size_alloc] at hn0
 have HN0 := hI_ hn0
 have y0 := V00.cell 2 (v := .int .i64 e.n0) rfl
 have y1 := V00.cell 3 (v := .int .i64 e.n1) rfl
 have y2 := V00.cell 4 (v := .int .i64 e.n2) rfl
 have y3 := V00.cell 5 (v := .int .i64 e.n3) rfl
 have y4 := V00.cell 6 (v := .int .i64 e.n4) rfl
 have y5 := V00.cell 7 (v := .int .i64 e.n5) rfl
 have y6 := V00.cell 8 (v := .int .i64 e.n6) rfl
 have y7 := V00.cell 9 (v := .int .i64 e.n7) rfl
 have HE0 := hI_ V0
 have HB0 := hI_ b1
 have HTF : Hid (∃ a n c, tv = Value.slice a n c) := (show ∃ a n c, tv = Value.slice a n c from by obtain ⟨a, c, e, _⟩ := R.form; exact ⟨a, _, c, e⟩)
 have HH : Hid (MD w B F M ∧ RO w rp F.pm l ∧ Tr w tv e.ts ∧ TBL w) := ⟨hM, h, R, T⟩
 have HQ : Hid (6 ≤ rp ∧ e.ok ∧ (∀ n c, tv = .slice none n c → c = 0) ∧ rp < w.heap.size) := ⟨hrp, he, hno, VA.lt h⟩
 have HOP : Hid (e.op = 1) := hop
 clear b0 b1 V00 V0 hn0 hM h R T hrp he hno hop
 go_enter func74, ntmps74
 go_upto_region 2 with (refine stA rfl 28 _ _ rfl (w.heap.size + 1) (by rfl) ([.int .i64 0, .int .i64 0, .int .i64 0, .int .i64 0, .int .i64 0, .int .i64 0, .int .i64 0, .int .i64 0] : List Value) [.int .i64 e.n0, .int .i64 e.n1, .int .i64 e.n2, .int .i64 e.n3, .int .i64 e.n4, .int .i64 e.n5, .int .i64 e.n6, .int .i64 e.n7] (by rfl) 28 HN0.out bg rfl (aD e) ?_; intro w1 hv1 hu1)
 have hb1 := hu1.bel HB0.out (by omega)
 have HM_1 : Hid (MD w1 B F M) := HH.out.1.step hb1
 have HR_1 : Hid (RO w1 rp F.pm l) := HH.out.2.1.step hb1
 have HB_1 : Hid (But (fun i => i = rp) w w1) := af hb1 _
 have HTR_1 : Hid (Tr w1 tv e.ts) := HH.out.2.2.1.step hb1
 have HT_1 : Hid (TBL w1) := HH.out.2.2.2.step hb1
 have HE_1 : Hid (VA w1 w.heap.size (e.cells tv) 31) := HE0.out.upd hu1 (by omega)
 have HN_1 : Hid (VA w1 (w.heap.size + 1) [.int .i64 e.n0, .int .i64 e.n1, .int .i64 e.n2, .int .i64 e.n3, .int .i64 e.n4, .int .i64 e.n5, .int .i64 e.n6, .int .i64 e.n7] 28) := hv1
 have y : w1.cell? ⟨w.heap.size, 0, none⟩ = some (.int .u8 1) := by have := HE_1.out.cell 0 (v := .int .u8 (e.op : Int)) rfl; rw [HOP.out] at this; exact this
 clear hb1 hv1 hu1 HN0 HE0 HB0 HH y0 y1 y2 y3 y4 y5 y6 y7
 have m0 := HN_1.out.cell 0 (v := .int .i64 e.n0) rfl
 have m1 := HN_1.out.cell 1 (v := .int .i64 e.n1) rfl
 have m2 := HN_1.out.cell 2 (v := .int .i64 e.n2) rfl
 have m3 := HN_1.out.cell 3 (v := .int .i64 e.n3) rfl
 go_upto_region 4 with fail
 have BB_1 := hI_ (Below.refl w1.heap.size w1)
 refine wp_region_noPanic ?_
 refine wp_region_held_drew (S := fun V => (∃ z : Int, VA V rp [.pointer (some ⟨F.pm, 0, none⟩), .int .i64 z] 148) ∧ VA V w.heap.size (e.cells tv) 31) (by kernel_rfl) (⟨⟨_, VA.drew HR_1.out⟩, HE_1.out.drew⟩) ?_
 intro hh_
 have bz := (Below.refl w1.heap.size w1).drew
 have HM_z := hI_ (HM_1.out.step bz)
 have HR_z := hI_ (HR_1.out.step bz)
 have HE_z := hI_ (HE_1.out.step bz)
 have HTR_z := hI_ (HTR_1.out.step bz)
 have BB_z := hI_ (BB_1.out.trans (bz.mono BB_1.out.size))
 generalize w1.drew = wz at *
 clear bz
 refine tK 0 11 (.pointer (some ⟨rp, 0, none⟩)) (by exact rfl) (Or.inl ⟨by rfl, ?_⟩) ?_
 ·intro wq hS
  go_simp
 try simp only [nrm]
 refine tK 1 12 (.pointer (some ⟨rp, 0, none⟩)) (by exact rfl) (Or.inl ⟨by rfl, ?_⟩) ?_
 ·intro wq hS
  go_simp
 try simp only [nrm]
 refine tK 2 13 (.pointer (some ⟨rp, 0, none⟩)) (by exact rfl) (Or.inl ⟨by rfl, ?_⟩) ?_
 ·intro wq hS
  go_simp
 try simp only [nrm]
 refine tK 3 14 (.pointer (some ⟨rp, 0, none⟩)) (by exact rfl) (Or.inl ⟨by rfl, ?_⟩) ?_
 ·intro wq hS
  go_simp
 try simp only [nrm]
 refine tK 4 15 (.pointer (some ⟨F.pm, 0, none⟩)) (by exact rfl) (Or.inl ⟨by rfl, ?_⟩) ?_
 ·intro wq hS
  obtain ⟨⟨z, hz⟩, _⟩ := hS
  have c := VA.cell hz 0 (v := .pointer (some ⟨F.pm, 0, none⟩)) rfl
  go_simp
 try simp only [nrm]
 refine tK 5 16 (.agg (e.cells tv).toArray) (by exact rfl) (yieldsIf_load_mid (by rfl) _ _ rfl _ _ rfl _ _ (fun wq hS => (fun j u hj => by rw [Nat.zero_add]; exact VA.cell hS.2 j hj)) underlying31 rfl ao) ?_
 try simp only [nrm]
 clear hh_
 refine rdy 6 (fun K hK => ?_)
 go_simp
 refine Calls.mono (fm e tv wz HTF.out) ?_
 rintro e wu ⟨rfl, bu⟩
 have HM_u := hI_ (HM_z.out.step bu)
 have HR_u := hI_ (HR_z.out.step bu)
 have HE_u := hI_ (HE_z.out.step bu)
 have HTR_u := hI_ (HTR_z.out.step bu)
 have BB_u := hI_ (BB_z.out.trans (bu.mono BB_z.out.size))
 clear bu
 go_wp2_with fail
 refine hK.out _ _ (⟨⟨_, HR_u.out⟩, HE_u.out⟩) (fun hh_ => ?_)
 try simp only [nrm]
 clear hK K
 clear hh_
 refine rdy 7 (fun K hK => ?_)
 go_simp
 refine Calls.mono (mF wu B F M HM_u.out e.pv (EV.pvwf HQ.out.2.1) tv HTR_u.out HQ.out.2.2.1) ?_
 rintro e wv ⟨rfl, bv⟩
 have HM_v := hI_ (HM_u.out.step bv)
 have HR_v := hI_ (HR_u.out.step bv)
 have HE_v := hI_ (HE_u.out.step bv)
 have HTR_v := hI_ (HTR_u.out.step bv)
 have BB_v := hI_ (BB_u.out.trans (bv.mono BB_u.out.size))
 clear bv
 go_wp2_with fail
 refine hK.out _ _ (⟨⟨_, HR_v.out⟩, HE_v.out⟩) (fun hh_ => ?_)
 try simp only [nrm]
 clear hK K
 clear hh_
 refine rdy 8 (fun K hK => ?_)
 go_simp
 refine (eo wv rp F.pm _ _ HR_v.out).mono ?_
 rintro r w4 ⟨rfl, h1, h2⟩
 have HR_4 : Hid (RO w4 rp F.pm _) := h1
 have HB_4 : Hid (But (fun i => i = rp) w w4) := HB_1.out.trans ((af BB_v.out (fun i => i = rp)).trans h2 (fun i hi hx => hx)) (fun i _ hx => hx)
 have HE_4 : Hid (VA w4 w.heap.size (e.cells tv) 31) := HE_v.out.but h2 (by have := HQ.out.2.2.2; omega)
 clear h1 h2
 go_wp2_with fail
 refine hK.out _ _ ⟨⟨_, HR_4.out⟩, HE_4.out⟩ (fun hh_ => ?_)
 clear hK K
 try simp only [nrm]
 refine wpAnyH_done (by kernel_rfl) ?_ _
 refine NoPanic.normal ?_
 clear hh_
 go_wp2_with fail
 refine bodyPost_end (v := .tuple #[]) (by simp [results, results74, go_sem]) rfl ?_
 exact ⟨rfl, HR_4.out, HB_4.out⟩
set_option maxRecDepth 100000 in
theorem vo (w : World) (B : Nat) (F : FB) (M : PM) (hM : MD w B F M) (rp : Nat) (l : Int) (h : RO w rp F.pm l) (e : EV) (he : e.ok) (tv : Value) (R : Tr w tv e.ts) (hno : ∀ n c, tv = .slice none n c → c = 0) (T : TBL w) (hrp : 6 ≤ rp) (hop : e.op = 2) :
  Calls prog 74 #[.pointer (some ⟨rp, 0, none⟩), .agg (e.cells tv).toArray] w fun r w' => r = .returned (.tuple #[]) ∧ RO w' rp F.pm (openL M l e.n0 e.n1) ∧ But (fun i => i = rp) w w' := by
 have b0 := (Below.refl w.heap.size w).alloc (Nat.le_refl _) (.cells (e.cells tv).toArray 31)
 have b1 := b0.alloc (by simp) (.cells #[.int .i64 0, .int .i64 0, .int .i64 0, .int .i64 0, .int .i64 0, .int .i64 0, .int .i64 0, .int .i64 0] 28)
 have V00 := aa w (e.cells tv) 31
 have V0 := V00.alloc (.cells #[.int .i64 0, .int .i64 0, .int .i64 0, .int .i64 0, .int .i64 0, .int .i64 0, .int .i64 0, .int .i64 0] 28)
 have hn0 := aa (w.alloc (.cells (e.cells tv).toArray 31)) ([.int .i64 0, .int .i64 0, .int .i64 0, .int .i64 0, .int .i64 0, .int .i64 0, .int .i64 0, .int .i64 0] : List Value) 28
 rw [World.size_alloc] at hn0
 have HN0 := hI_ hn0
 have y0 := V00.cell 2 (v := .int .i64 e.n0) rfl
 have y1 := V00.cell 3 (v := .int .i64 e.n1) rfl
 have y2 := V00.cell 4 (v := .int .i64 e.n2) rfl
 have y3 := V00.cell 5 (v := .int .i64 e.n3) rfl
 have y4 := V00.cell 6 (v := .int .i64 e.n4) rfl
 have y5 := V00.cell 7 (v := .int .i64 e.n5) rfl
 have y6 := V00.cell 8 (v := .int .i64 e.n6) rfl
 have y7 := V00.cell 9 (v := .int .i64 e.n7) rfl
 have HE0 := hI_ V0
 have HB0 := hI_ b1
 have HTF : Hid (∃ a n c, tv = Value.slice a n c) := (show ∃ a n c, tv = Value.slice a n c from by obtain ⟨a, c, e, _⟩ := R.form; exact ⟨a, _, c, e⟩)
 have HH : Hid (MD w B F M ∧ RO w rp F.pm l ∧ Tr w tv e.ts ∧ TBL w) := ⟨hM, h, R, T⟩
 have HQ : Hid (6 ≤ rp ∧ e.ok ∧ (∀ n c, tv = .slice none n c → c = 0) ∧ rp < w.heap.size) := ⟨hrp, he, hno, VA.lt h⟩
 have HOP : Hid (e.op = 2) := hop
 clear b0 b1 V00 V0 hn0 hM h R T hrp he hno hop
 go_enter func74, ntmps74
 go_upto_region 2 with (refine stA rfl 28 _ _ rfl (w.heap.size + 1) (by rfl) ([.int .i64 0, .int .i64 0, .int .i64 0, .int .i64 0, .int .i64 0, .int .i64 0, .int .i64 0, .int .i64 0] : List Value) [.int .i64 e.n0, .int .i64 e.n1, .int .i64 e.n2, .int .i64 e.n3, .int .i64 e.n4, .int .i64 e.n5, .int .i64 e.n6, .int .i64 e.n7] (by rfl) 28 HN0.out bg rfl (aD e) ?_; intro w1 hv1 hu1)
 have hb1 := hu1.bel HB0.out (by omega)
 have HM_1 : Hid (MD w1 B F M) := HH.out.1.step hb1
 have HR_1 : Hid (RO w1 rp F.pm l) := HH.out.2.1.step hb1
 have HB_1 : Hid (But (fun i => i = rp) w w1) := af hb1 _
 have HTR_1 : Hid (Tr w1 tv e.ts) := HH.out.2.2.1.step hb1
 have HT_1 : Hid (TBL w1) := HH.out.2.2.2.step hb1
 have HE_1 : Hid (VA w1 w.heap.size (e.cells tv) 31) := HE0.out.upd hu1 (by omega)
 have HN_1 : Hid (VA w1 (w.heap.size + 1) [.int .i64 e.n0, .int .i64 e.n1, .int .i64 e.n2, .int .i64 e.n3, .int .i64 e.n4, .int .i64 e.n5, .int .i64 e.n6, .int .i64 e.n7] 28) := hv1
 have y : w1.cell? ⟨w.heap.size, 0, none⟩ = some (.int .u8 2) := by have := HE_1.out.cell 0 (v := .int .u8 (e.op : Int)) rfl; rw [HOP.out] at this; exact this
 clear hb1 hv1 hu1 HN0 HE0 HB0 HH y0 y1 y2 y3 y4 y5 y6 y7
 have m0 := HN_1.out.cell 0 (v := .int .i64 e.n0) rfl
 have m1 := HN_1.out.cell 1 (v := .int .i64 e.n1) rfl
 have m2 := HN_1.out.cell 2 (v := .int .i64 e.n2) rfl
 have m3 := HN_1.out.cell 3 (v := .int .i64 e.n3) rfl
 go_wp2_with fail
 refine Calls.mono (qg w1 B F M HM_1.out rp _ e.n0 e.n1 HR_1.out) ?_
 rintro r w2 ⟨rfl, h1, h2⟩
 have HR_2 : Hid (RO _ _ _ _) := h1
 have HB_2 : Hid (But (fun i => i = rp) w w2) := HB_1.out.trans h2 (fun i _ hx => hx)
 have HM_2 : Hid (MD w2 B F M) := HM_1.out.ro HR_1.out h2
 clear h1 h2 HR_1 HB_1 HM_1
 clear m0 m1 m2 m3 y
 go_wp2_with fail
 refine bodyPost_end (v := .tuple #[]) (by simp [results, results74, go_sem]) rfl ?_
 refine ⟨rfl, ?_, HB_2.out⟩
 have H := HR_2.out
 exact H
set_option maxRecDepth 100000 in
theorem vp (w : World) (B : Nat) (F : FB) (M : PM) (hM : MD w B F M) (rp : Nat) (l : Int) (h : RO w rp F.pm l) (e : EV) (he : e.ok) (tv : Value) (R : Tr w tv e.ts) (hno : ∀ n c, tv = .slice none n c → c = 0) (T : TBL w) (hrp : 6 ≤ rp) (hop : e.op = 3) :
  Calls prog 74 #[.pointer (some ⟨rp, 0, none⟩), .agg (e.cells tv).toArray] w fun r w' => r = .returned (.tuple #[]) ∧ RO w' rp F.pm (whn (namedK M l e.n0 0) (emptyO (acctO M e.n0)) 15) ∧ But (fun i => i = rp) w w' := by
 have b0 := (Below.refl w.heap.size w).alloc (Nat.le_refl _) (.cells (e.cells tv).toArray 31)
 have b1 := b0.alloc (by simp) (.cells #[.int .i64 0, .int .i64 0, .int .i64 0, .int .i64 0, .int .i64 0, .int .i64 0, .int .i64 0, .int .i64 0] 28)
 have V00 := aa w (e.cells tv) 31
 have V0 := V00.alloc (.cells #[.int .i64 0, .int .i64 0, .int .i64 0, .int .i64 0, .int .i64 0, .int .i64 0, .int .i64 0, .int .i64 0] 28)
 have hn0 := aa (w.alloc (.cells (e.cells tv).toArray 31)) ([.int .i64 0, .int .i64 0, .int .i64 0, .int .i64 0, .int .i64 0, .int .i64 0, .int .i64 0, .int .i64 0] : List Value) 28
 rw [World.size_alloc] at hn0
 have HN0 := hI_ hn0
 have y0 := V00.cell 2 (v := .int .i64 e.n0) rfl
 have y1 := V00.cell 3 (v := .int .i64 e.n1) rfl
 have y2 := V00.cell 4 (v := .int .i64 e.n2) rfl
 have y3 := V00.cell 5 (v := .int .i64 e.n3) rfl
 have y4 := V00.cell 6 (v := .int .i64 e.n4) rfl
 have y5 := V00.cell 7 (v := .int .i64 e.n5) rfl
 have y6 := V00.cell 8 (v := .int .i64 e.n6) rfl
 have y7 := V00.cell 9 (v := .int .i64 e.n7) rfl
 have HE0 := hI_ V0
 have HB0 := hI_ b1
 have HTF : Hid (∃ a n c, tv = Value.slice a n c) := (show ∃ a n c, tv = Value.slice a n c from by obtain ⟨a, c, e, _⟩ := R.form; exact ⟨a, _, c, e⟩)
 have HH : Hid (MD w B F M ∧ RO w rp F.pm l ∧ Tr w tv e.ts ∧ TBL w) := ⟨hM, h, R, T⟩
 have HQ : Hid (6 ≤ rp ∧ e.ok ∧ (∀ n c, tv = .slice none n c → c = 0) ∧ rp < w.heap.size) := ⟨hrp, he, hno, VA.lt h⟩
 have HOP : Hid (e.op = 3) := hop
 clear b0 b1 V00 V0 hn0 hM h R T hrp he hno hop
 go_enter func74, ntmps74
 go_upto_region 2 with (refine stA rfl 28 _ _ rfl (w.heap.size + 1) (by rfl) ([.int .i64 0, .int .i64 0, .int .i64 0, .int .i64 0, .int .i64 0, .int .i64 0, .int .i64 0, .int .i64 0] : List Value) [.int .i64 e.n0, .int .i64 e.n1, .int .i64 e.n2, .int .i64 e.n3, .int .i64 e.n4, .int .i64 e.n5, .int .i64 e.n6, .int .i64 e.n7] (by rfl) 28 HN0.out bg rfl (aD e) ?_; intro w1 hv1 hu1)
 have hb1 := hu1.bel HB0.out (by omega)
 have HM_1 : Hid (MD w1 B F M) := HH.out.1.step hb1
 have HR_1 : Hid (RO w1 rp F.pm l) := HH.out.2.1.step hb1
 have HB_1 : Hid (But (fun i => i = rp) w w1) := af hb1 _
 have HTR_1 : Hid (Tr w1 tv e.ts) := HH.out.2.2.1.step hb1
 have HT_1 : Hid (TBL w1) := HH.out.2.2.2.step hb1
 have HE_1 : Hid (VA w1 w.heap.size (e.cells tv) 31) := HE0.out.upd hu1 (by omega)
 have HN_1 : Hid (VA w1 (w.heap.size + 1) [.int .i64 e.n0, .int .i64 e.n1, .int .i64 e.n2, .int .i64 e.n3, .int .i64 e.n4, .int .i64 e.n5, .int .i64 e.n6, .int .i64 e.n7] 28) := hv1
 have y : w1.cell? ⟨w.heap.size, 0, none⟩ = some (.int .u8 3) := by have := HE_1.out.cell 0 (v := .int .u8 (e.op : Int)) rfl; rw [HOP.out] at this; exact this
 clear hb1 hv1 hu1 HN0 HE0 HB0 HH y0 y1 y2 y3 y4 y5 y6 y7
 have m0 := HN_1.out.cell 0 (v := .int .i64 e.n0) rfl
 have m1 := HN_1.out.cell 1 (v := .int .i64 e.n1) rfl
 have m2 := HN_1.out.cell 2 (v := .int .i64 e.n2) rfl
 have m3 := HN_1.out.cell 3 (v := .int .i64 e.n3) rfl
 go_wp2_with fail
 refine Calls.mono (bp w1 B F M HM_1.out rp _ e.n0 0 HR_1.out) ?_
 rintro r w2 ⟨R1, rfl, eR1, fR1, h1, h2⟩
 have HR_2 : Hid (RO _ _ _ _) := h1
 have HB_2 : Hid (But (fun i => i = rp) w w2) := HB_1.out.trans h2 (fun i _ hx => hx)
 have HM_2 : Hid (MD w2 B F M) := HM_1.out.ro HR_1.out h2
 have FR1_2 : Hid (RF w2 R1) := fR1
 have ER1 : Hid (_ = _) := eR1
 clear eR1 fR1
 clear h1 h2 HR_1 HB_1 HM_1
 clear m0 m1 m2 m3 y
 go_wp2_with fail
 refine Calls.mono (p7 w2 rp F.pm _ R1 HR_2.out FR1_2.out) ?_
 rintro r w3 ⟨rfl, h1, h2⟩
 have HR_3 : Hid (RO _ _ _ _) := h1
 have HB_3 : Hid (But (fun i => i = rp) w w3) := HB_2.out.trans h2 (fun i _ hx => hx)
 have HM_3 : Hid (MD w3 B F M) := HM_2.out.ro HR_2.out h2
 have FR1_3 : Hid (RF w3 _) := FR1_2.out.ro HR_2.out h2
 clear h1 h2 HR_2 HB_2 HM_2 FR1_2
 go_wp2_with fail
 refine bodyPost_end (v := .tuple #[]) (by simp [results, results74, go_sem]) rfl ?_
 refine ⟨rfl, ?_, HB_3.out⟩
 have H := HR_3.out
 rw [p6, ER1.out] at H
 exact H
set_option maxRecDepth 100000 in
theorem vq (w : World) (B : Nat) (F : FB) (M : PM) (hM : MD w B F M) (rp : Nat) (l : Int) (h : RO w rp F.pm l) (e : EV) (he : e.ok) (tv : Value) (R : Tr w tv e.ts) (hno : ∀ n c, tv = .slice none n c → c = 0) (T : TBL w) (hrp : 6 ≤ rp) (hop : e.op = 4) :
  Calls prog 74 #[.pointer (some ⟨rp, 0, none⟩), .agg (e.cells tv).toArray] w fun r w' => r = .returned (.tuple #[]) ∧ RO w' rp F.pm (whn (namedK M (whn l (beyond e.n1 10000000000000) 1) e.n0 1) (roomO (acctO M e.n0) e.n1) 4) ∧ But (fun i => i = rp) w w' := by
 have b0 := (Below.refl w.heap.size w).alloc (Nat.le_refl _) (.cells (e.cells tv).toArray 31)
 have b1 := b0.alloc (by simp) (.cells #[.int .i64 0, .int .i64 0, .int .i64 0, .int .i64 0, .int .i64 0, .int .i64 0, .int .i64 0, .int .i64 0] 28)
 have V00 := aa w (e.cells tv) 31
 have V0 := V00.alloc (.cells #[.int .i64 0, .int .i64 0, .int .i64 0, .int .i64 0, .int .i64 0, .int .i64 0, .int .i64 0, .int .i64 0] 28)
 have hn0 := aa (w.alloc (.cells (e.cells tv).toArray 31)) ([.int .i64 0, .int .i64 0, .int .i64 0, .int .i64 0, .int .i64 0, .int .i64 0, .int .i64 0, .int .i64 0] : List Value) 28
 rw [World.size_alloc] at hn0
 have HN0 := hI_ hn0
 have y0 := V00.cell 2 (v := .int .i64 e.n0) rfl
 have y1 := V00.cell 3 (v := .int .i64 e.n1) rfl
 have y2 := V00.cell 4 (v := .int .i64 e.n2) rfl
 have y3 := V00.cell 5 (v := .int .i64 e.n3) rfl
 have y4 := V00.cell 6 (v := .int .i64 e.n4) rfl
 have y5 := V00.cell 7 (v := .int .i64 e.n5) rfl
 have y6 := V00.cell 8 (v := .int .i64 e.n6) rfl
 have y7 := V00.cell 9 (v := .int .i64 e.n7) rfl
 have HE0 := hI_ V0
 have HB0 := hI_ b1
 have HTF : Hid (∃ a n c, tv = Value.slice a n c) := (show ∃ a n c, tv = Value.slice a n c from by obtain ⟨a, c, e, _⟩ := R.form; exact ⟨a, _, c, e⟩)
 have HH : Hid (MD w B F M ∧ RO w rp F.pm l ∧ Tr w tv e.ts ∧ TBL w) := ⟨hM, h, R, T⟩
 have HQ : Hid (6 ≤ rp ∧ e.ok ∧ (∀ n c, tv = .slice none n c → c = 0) ∧ rp < w.heap.size) := ⟨hrp, he, hno, VA.lt h⟩
 have HOP : Hid (e.op = 4) := hop
 clear b0 b1 V00 V0 hn0 hM h R T hrp he hno hop
 go_enter func74, ntmps74
 go_upto_region 2 with (refine stA rfl 28 _ _ rfl (w.heap.size + 1) (by rfl) ([.int .i64 0, .int .i64 0, .int .i64 0, .int .i64 0, .int .i64 0, .int .i64 0, .int .i64 0, .int .i64 0] : List Value) [.int .i64 e.n0, .int .i64 e.n1, .int .i64 e.n2, .int .i64 e.n3, .int .i64 e.n4, .int .i64 e.n5, .int .i64 e.n6, .int .i64 e.n7] (by rfl) 28 HN0.out bg rfl (aD e) ?_; intro w1 hv1 hu1)
 have hb1 := hu1.bel HB0.out (by omega)
 have HM_1 : Hid (MD w1 B F M) := HH.out.1.step hb1
 have HR_1 : Hid (RO w1 rp F.pm l) := HH.out.2.1.step hb1
 have HB_1 : Hid (But (fun i => i = rp) w w1) := af hb1 _
 have HTR_1 : Hid (Tr w1 tv e.ts) := HH.out.2.2.1.step hb1
 have HT_1 : Hid (TBL w1) := HH.out.2.2.2.step hb1
 have HE_1 : Hid (VA w1 w.heap.size (e.cells tv) 31) := HE0.out.upd hu1 (by omega)
 have HN_1 : Hid (VA w1 (w.heap.size + 1) [.int .i64 e.n0, .int .i64 e.n1, .int .i64 e.n2, .int .i64 e.n3, .int .i64 e.n4, .int .i64 e.n5, .int .i64 e.n6, .int .i64 e.n7] 28) := hv1
 have y : w1.cell? ⟨w.heap.size, 0, none⟩ = some (.int .u8 4) := by have := HE_1.out.cell 0 (v := .int .u8 (e.op : Int)) rfl; rw [HOP.out] at this; exact this
 clear hb1 hv1 hu1 HN0 HE0 HB0 HH y0 y1 y2 y3 y4 y5 y6 y7
 have m0 := HN_1.out.cell 0 (v := .int .i64 e.n0) rfl
 have m1 := HN_1.out.cell 1 (v := .int .i64 e.n1) rfl
 have m2 := HN_1.out.cell 2 (v := .int .i64 e.n2) rfl
 have m3 := HN_1.out.cell 3 (v := .int .i64 e.n3) rfl
 go_wp2_with fail
 refine Calls.mono (bJ w1 rp F.pm _ e.n1 HR_1.out) ?_
 rintro r w2 ⟨rfl, h1, h2⟩
 have HB_12 : Hid (But (fun i => i = rp) w1 w2) := h2
 have HR_2 : Hid (RO _ _ _ _) := h1
 have HB_2 : Hid (But (fun i => i = rp) w w2) := HB_1.out.trans h2 (fun i _ hx => hx)
 have HM_2 : Hid (MD w2 B F M) := HM_1.out.ro HR_1.out h2
 clear h1 h2 HR_1 HB_1 HM_1
 have HN_2 : Hid (VA w2 (w.heap.size + 1) [.int .i64 e.n0, .int .i64 e.n1, .int .i64 e.n2, .int .i64 e.n3, .int .i64 e.n4, .int .i64 e.n5, .int .i64 e.n6, .int .i64 e.n7] 28) := HN_1.out.but (HB_12.out) (by have := HQ.out.2.2.2; omega)
 clear m0 m1 m2 m3 y
 go_upto_region 11 with fail
 have BB_2 := hI_ (Below.refl w2.heap.size w2)
 refine wp_region_noPanic ?_
 refine wp_region_held_drew (S := fun V => VA V (w.heap.size + 1) [.int .i64 e.n0, .int .i64 e.n1, .int .i64 e.n2, .int .i64 e.n3, .int .i64 e.n4, .int .i64 e.n5, .int .i64 e.n6, .int .i64 e.n7] 28) (by kernel_rfl) (HN_2.out.drew) ?_
 intro hh_
 have bz := (Below.refl w2.heap.size w2).drew
 have HM_z := hI_ (HM_2.out.step bz)
 have HR_z := hI_ (HR_2.out.step bz)
 have HN_z := hI_ (HN_2.out.step bz)
 have BB_z := hI_ (BB_2.out.trans (bz.mono BB_2.out.size))
 generalize w2.drew = wz at *
 clear bz
 refine tK 0 42 (.pointer (some ⟨rp, 0, none⟩)) (by exact rfl) (Or.inl ⟨by rfl, ?_⟩) ?_
 ·intro wq hS
  go_simp
 try simp only [nrm]
 refine tK 1 43 (.pointer (some ⟨rp, 0, none⟩)) (by exact rfl) (Or.inl ⟨by rfl, ?_⟩) ?_
 ·intro wq hS
  go_simp
 try simp only [nrm]
 refine tK 2 44 (.pointer (some ⟨w.heap.size + 1, 0, none⟩)) (by exact rfl) (Or.inl ⟨by rfl, ?_⟩) ?_
 ·intro wq hS
  go_simp
 try simp only [nrm]
 refine tK 3 45 (.int .i64 e.n0) (by exact rfl) (Or.inl ⟨by rfl, ?_⟩) ?_
 ·intro wq hS
  have c := VA.cell hS 0 (v := .int .i64 e.n0) rfl
  go_simp
 try simp only [nrm]
 refine tK 5 47 (.pointer (some ⟨w.heap.size + 1, 1, none⟩)) (by exact rfl) (Or.inl ⟨by rfl, ?_⟩) ?_
 ·intro wq hS
  go_simp
 try simp only [nrm]
 refine tK 6 48 (.int .i64 e.n1) (by exact rfl) (Or.inl ⟨by rfl, ?_⟩) ?_
 ·intro wq hS
  have c := VA.cell hS 1 (v := .int .i64 e.n1) rfl
  go_simp
 try simp only [nrm]
 clear hh_
 refine rdy 4 (fun K hK => ?_)
 go_simp
 refine (bp wz B F M HM_z.out rp _ e.n0 1 HR_z.out).mono ?_
 rintro r w3 ⟨R1, rfl, e1, f1, h1, h2⟩
 have HR_3 : Hid (RO w3 rp F.pm _) := h1
 have HM_3 : Hid (MD w3 B F M) := HM_z.out.ro HR_z.out h2
 have HN_3 : Hid (VA w3 (w.heap.size + 1) [.int .i64 e.n0, .int .i64 e.n1, .int .i64 e.n2, .int .i64 e.n3, .int .i64 e.n4, .int .i64 e.n5, .int .i64 e.n6, .int .i64 e.n7] 28) := HN_z.out.but h2 (by have := HQ.out.2.2.2; omega)
 have HB_3 : Hid (But (fun i => i = rp) w w3) := HB_2.out.trans ((af BB_z.out (fun i => i = rp)).trans h2 (fun i hi hx => hx)) (fun i _ hx => hx)
 have FR1_3 : Hid (RF w3 R1) := f1
 have ER1 : Hid (_ = _) := e1
 clear h1 h2 e1 f1
 go_wp2_with fail
 refine hK.out _ _ HN_3.out (fun hh_ => ?_)
 clear hK K hh_
 try simp only [nrm]
 refine rdy 7 (fun K hK => ?_)
 go_simp
 refine (gb w3 rp F.pm _ e.n1 R1 HR_3.out FR1_3.out).mono ?_
 rintro r w4 ⟨rfl, h1, h2⟩
 have HR_4 : Hid (RO w4 rp F.pm _) := h1
 have HB_4 : Hid (But (fun i => i = rp) w w4) := HB_3.out.trans h2 (fun i _ hx => hx)
 have HN_4 : Hid (VA w4 (w.heap.size + 1) [.int .i64 e.n0, .int .i64 e.n1, .int .i64 e.n2, .int .i64 e.n3, .int .i64 e.n4, .int .i64 e.n5, .int .i64 e.n6, .int .i64 e.n7] 28) := HN_3.out.but h2 (by have := HQ.out.2.2.2; omega)
 clear h1 h2
 go_wp2_with fail
 refine hK.out _ _ HN_4.out (fun hh_ => ?_)
 clear hK K
 try simp only [nrm]
 refine wpAnyH_done (by kernel_rfl) ?_ _
 refine NoPanic.normal ?_
 clear hh_
 go_wp2_with fail
 refine bodyPost_end (v := .tuple #[]) (by simp [results, results74, go_sem]) rfl ?_
 refine ⟨rfl, ?_, HB_4.out⟩
 have H := HR_4.out
 rw [fi, ER1.out] at H
 exact H
set_option maxRecDepth 100000 in
theorem vr (w : World) (B : Nat) (F : FB) (M : PM) (hM : MD w B F M) (rp : Nat) (l : Int) (h : RO w rp F.pm l) (e : EV) (he : e.ok) (tv : Value) (R : Tr w tv e.ts) (hno : ∀ n c, tv = .slice none n c → c = 0) (T : TBL w) (hrp : 6 ≤ rp) (hop : e.op = 5) :
  Calls prog 74 #[.pointer (some ⟨rp, 0, none⟩), .agg (e.cells tv).toArray] w fun r w' => r = .returned (.tuple #[]) ∧ RO w' rp F.pm (whn (namedK M (whn l (beyond e.n1 10000000000000) 1) e.n0 1) (fundsO M (acctO M e.n0) e.n1) 13) ∧ But (fun i => i = rp) w w' := by
 have b0 := (Below.refl w.heap.size w).alloc (Nat.le_refl _) (.cells (e.cells tv).toArray 31)
 have b1 := b0.alloc (by simp) (.cells #[.int .i64 0, .int .i64 0, .int .i64 0, .int .i64 0, .int .i64 0, .int .i64 0, .int .i64 0, .int .i64 0] 28)
 have V00 := aa w (e.cells tv) 31
 have V0 := V00.alloc (.cells #[.int .i64 0, .int .i64 0, .int .i64 0, .int .i64 0, .int .i64 0, .int .i64 0, .int .i64 0, .int .i64 0] 28)
 have hn0 := aa (w.alloc (.cells (e.cells tv).toArray 31)) ([.int .i64 0, .int .i64 0, .int .i64 0, .int .i64 0, .int .i64 0, .int .i64 0, .int .i64 0, .int .i64 0] : List Value) 28
 rw [World.size_alloc] at hn0
 have HN0 := hI_ hn0
 have y0 := V00.cell 2 (v := .int .i64 e.n0) rfl
 have y1 := V00.cell 3 (v := .int .i64 e.n1) rfl
 have y2 := V00.cell 4 (v := .int .i64 e.n2) rfl
 have y3 := V00.cell 5 (v := .int .i64 e.n3) rfl
 have y4 := V00.cell 6 (v := .int .i64 e.n4) rfl
 have y5 := V00.cell 7 (v := .int .i64 e.n5) rfl
 have y6 := V00.cell 8 (v := .int .i64 e.n6) rfl
 have y7 := V00.cell 9 (v := .int .i64 e.n7) rfl
 have HE0 := hI_ V0
 have HB0 := hI_ b1
 have HTF : Hid (∃ a n c, tv = Value.slice a n c) := (show ∃ a n c, tv = Value.slice a n c from by obtain ⟨a, c, e, _⟩ := R.form; exact ⟨a, _, c, e⟩)
 have HH : Hid (MD w B F M ∧ RO w rp F.pm l ∧ Tr w tv e.ts ∧ TBL w) := ⟨hM, h, R, T⟩
 have HQ : Hid (6 ≤ rp ∧ e.ok ∧ (∀ n c, tv = .slice none n c → c = 0) ∧ rp < w.heap.size) := ⟨hrp, he, hno, VA.lt h⟩
 have HOP : Hid (e.op = 5) := hop
 clear b0 b1 V00 V0 hn0 hM h R T hrp he hno hop
 go_enter func74, ntmps74
 go_upto_region 2 with (refine stA rfl 28 _ _ rfl (w.heap.size + 1) (by rfl) ([.int .i64 0, .int .i64 0, .int .i64 0, .int .i64 0, .int .i64 0, .int .i64 0, .int .i64 0, .int .i64 0] : List Value) [.int .i64 e.n0, .int .i64 e.n1, .int .i64 e.n2, .int .i64 e.n3, .int .i64 e.n4, .int .i64 e.n5, .int .i64 e.n6, .int .i64 e.n7] (by rfl) 28 HN0.out bg rfl (aD e) ?_; intro w1 hv1 hu1)
 have hb1 := hu1.bel HB0.out (by omega)
 have HM_1 : Hid (MD w1 B F M) := HH.out.1.step hb1
 have HR_1 : Hid (RO w1 rp F.pm l) := HH.out.2.1.step hb1
 have HB_1 : Hid (But (fun i => i = rp) w w1) := af hb1 _
 have HTR_1 : Hid (Tr w1 tv e.ts) := HH.out.2.2.1.step hb1
 have HT_1 : Hid (TBL w1) := HH.out.2.2.2.step hb1
 have HE_1 : Hid (VA w1 w.heap.size (e.cells tv) 31) := HE0.out.upd hu1 (by omega)
 have HN_1 : Hid (VA w1 (w.heap.size + 1) [.int .i64 e.n0, .int .i64 e.n1, .int .i64 e.n2, .int .i64 e.n3, .int .i64 e.n4, .int .i64 e.n5, .int .i64 e.n6, .int .i64 e.n7] 28) := hv1
 have y : w1.cell? ⟨w.heap.size, 0, none⟩ = some (.int .u8 5) := by have := HE_1.out.cell 0 (v := .int .u8 (e.op : Int)) rfl; rw [HOP.out] at this; exact this
 clear hb1 hv1 hu1 HN0 HE0 HB0 HH y0 y1 y2 y3 y4 y5 y6 y7
 have m0 := HN_1.out.cell 0 (v := .int .i64 e.n0) rfl
 have m1 := HN_1.out.cell 1 (v := .int .i64 e.n1) rfl
 have m2 := HN_1.out.cell 2 (v := .int .i64 e.n2) rfl
 have m3 := HN_1.out.cell 3 (v := .int .i64 e.n3) rfl
 go_wp2_with fail
 refine Calls.mono (bJ w1 rp F.pm _ e.n1 HR_1.out) ?_
 rintro r w2 ⟨rfl, h1, h2⟩
 have HB_12 : Hid (But (fun i => i = rp) w1 w2) := h2
 have HR_2 : Hid (RO _ _ _ _) := h1
 have HB_2 : Hid (But (fun i => i = rp) w w2) := HB_1.out.trans h2 (fun i _ hx => hx)
 have HM_2 : Hid (MD w2 B F M) := HM_1.out.ro HR_1.out h2
 clear h1 h2 HR_1 HB_1 HM_1
 have HN_2 : Hid (VA w2 (w.heap.size + 1) [.int .i64 e.n0, .int .i64 e.n1, .int .i64 e.n2, .int .i64 e.n3, .int .i64 e.n4, .int .i64 e.n5, .int .i64 e.n6, .int .i64 e.n7] 28) := HN_1.out.but (HB_12.out) (by have := HQ.out.2.2.2; omega)
 clear m0 m1 m2 m3 y
 go_upto_region 14 with fail
 have BB_2 := hI_ (Below.refl w2.heap.size w2)
 refine wp_region_noPanic ?_
 refine wp_region_held_drew (S := fun V => VA V (w.heap.size + 1) [.int .i64 e.n0, .int .i64 e.n1, .int .i64 e.n2, .int .i64 e.n3, .int .i64 e.n4, .int .i64 e.n5, .int .i64 e.n6, .int .i64 e.n7] 28) (by kernel_rfl) (HN_2.out.drew) ?_
 intro hh_
 have bz := (Below.refl w2.heap.size w2).drew
 have HM_z := hI_ (HM_2.out.step bz)
 have HR_z := hI_ (HR_2.out.step bz)
 have HN_z := hI_ (HN_2.out.step bz)
 have BB_z := hI_ (BB_2.out.trans (bz.mono BB_2.out.size))
 generalize w2.drew = wz at *
 clear bz
 refine tK 0 56 (.pointer (some ⟨rp, 0, none⟩)) (by exact rfl) (Or.inl ⟨by rfl, ?_⟩) ?_
 ·intro wq hS
  go_simp
 try simp only [nrm]
 refine tK 1 57 (.pointer (some ⟨rp, 0, none⟩)) (by exact rfl) (Or.inl ⟨by rfl, ?_⟩) ?_
 ·intro wq hS
  go_simp
 try simp only [nrm]
 refine tK 2 58 (.pointer (some ⟨w.heap.size + 1, 0, none⟩)) (by exact rfl) (Or.inl ⟨by rfl, ?_⟩) ?_
 ·intro wq hS
  go_simp
 try simp only [nrm]
 refine tK 3 59 (.int .i64 e.n0) (by exact rfl) (Or.inl ⟨by rfl, ?_⟩) ?_
 ·intro wq hS
  have c := VA.cell hS 0 (v := .int .i64 e.n0) rfl
  go_simp
 try simp only [nrm]
 refine tK 5 61 (.pointer (some ⟨w.heap.size + 1, 1, none⟩)) (by exact rfl) (Or.inl ⟨by rfl, ?_⟩) ?_
 ·intro wq hS
  go_simp
 try simp only [nrm]
 refine tK 6 62 (.int .i64 e.n1) (by exact rfl) (Or.inl ⟨by rfl, ?_⟩) ?_
 ·intro wq hS
  have c := VA.cell hS 1 (v := .int .i64 e.n1) rfl
  go_simp
 try simp only [nrm]
 clear hh_
 refine rdy 4 (fun K hK => ?_)
 go_simp
 refine (bp wz B F M HM_z.out rp _ e.n0 1 HR_z.out).mono ?_
 rintro r w3 ⟨R1, rfl, e1, f1, h1, h2⟩
 have HR_3 : Hid (RO w3 rp F.pm _) := h1
 have HM_3 : Hid (MD w3 B F M) := HM_z.out.ro HR_z.out h2
 have HN_3 : Hid (VA w3 (w.heap.size + 1) [.int .i64 e.n0, .int .i64 e.n1, .int .i64 e.n2, .int .i64 e.n3, .int .i64 e.n4, .int .i64 e.n5, .int .i64 e.n6, .int .i64 e.n7] 28) := HN_z.out.but h2 (by have := HQ.out.2.2.2; omega)
 have HB_3 : Hid (But (fun i => i = rp) w w3) := HB_2.out.trans ((af BB_z.out (fun i => i = rp)).trans h2 (fun i hi hx => hx)) (fun i _ hx => hx)
 have FR1_3 : Hid (RF w3 R1) := f1
 have ER1 : Hid (_ = _) := e1
 clear h1 h2 e1 f1
 go_wp2_with fail
 refine hK.out _ _ HN_3.out (fun hh_ => ?_)
 clear hK K hh_
 try simp only [nrm]
 refine rdy 7 (fun K hK => ?_)
 go_simp
 refine (d8 w3 B F M HM_3.out rp _ e.n1 R1 HR_3.out FR1_3.out).mono ?_
 rintro r w4 ⟨rfl, h1, h2⟩
 have HR_4 : Hid (RO w4 rp F.pm _) := h1
 have HB_4 : Hid (But (fun i => i = rp) w w4) := HB_3.out.trans h2 (fun i _ hx => hx)
 have HN_4 : Hid (VA w4 (w.heap.size + 1) [.int .i64 e.n0, .int .i64 e.n1, .int .i64 e.n2, .int .i64 e.n3, .int .i64 e.n4, .int .i64 e.n5, .int .i64 e.n6, .int .i64 e.n7] 28) := HN_3.out.but h2 (by have := HQ.out.2.2.2; omega)
 clear h1 h2
 go_wp2_with fail
 refine hK.out _ _ HN_4.out (fun hh_ => ?_)
 clear hK K
 try simp only [nrm]
 refine wpAnyH_done (by kernel_rfl) ?_ _
 refine NoPanic.normal ?_
 clear hh_
 go_wp2_with fail
 refine bodyPost_end (v := .tuple #[]) (by simp [results, results74, go_sem]) rfl ?_
 refine ⟨rfl, ?_, HB_4.out⟩
 have H := HR_4.out
 rw [bT, ER1.out] at H
 exact H
set_option maxRecDepth 100000 in
theorem vt (w : World) (B : Nat) (F : FB) (M : PM) (hM : MD w B F M) (rp : Nat) (l : Int) (h : RO w rp F.pm l) (e : EV) (he : e.ok) (tv : Value) (R : Tr w tv e.ts) (hno : ∀ n c, tv = .slice none n c → c = 0) (T : TBL w) (hrp : 6 ≤ rp) (hop : e.op = 6) :
  Calls prog 74 #[.pointer (some ⟨rp, 0, none⟩), .agg (e.cells tv).toArray] w fun r w' => r = .returned (.tuple #[]) ∧ RO w' rp F.pm (transferL M l e.n0 e.n1 e.n2) ∧ But (fun i => i = rp) w w' := by
 have b0 := (Below.refl w.heap.size w).alloc (Nat.le_refl _) (.cells (e.cells tv).toArray 31)
 have b1 := b0.alloc (by simp) (.cells #[.int .i64 0, .int .i64 0, .int .i64 0, .int .i64 0, .int .i64 0, .int .i64 0, .int .i64 0, .int .i64 0] 28)
 have V00 := aa w (e.cells tv) 31
 have V0 := V00.alloc (.cells #[.int .i64 0, .int .i64 0, .int .i64 0, .int .i64 0, .int .i64 0, .int .i64 0, .int .i64 0, .int .i64 0] 28)
 have hn0 := aa (w.alloc (.cells (e.cells tv).toArray 31)) ([.int .i64 0, .int .i64 0, .int .i64 0, .int .i64 0, .int .i64 0, .int .i64 0, .int .i64 0, .int .i64 0] : List Value) 28
 rw [World.size_alloc] at hn0
 have HN0 := hI_ hn0
 have y0 := V00.cell 2 (v := .int .i64 e.n0) rfl
 have y1 := V00.cell 3 (v := .int .i64 e.n1) rfl
 have y2 := V00.cell 4 (v := .int .i64 e.n2) rfl
 have y3 := V00.cell 5 (v := .int .i64 e.n3) rfl
 have y4 := V00.cell 6 (v := .int .i64 e.n4) rfl
 have y5 := V00.cell 7 (v := .int .i64 e.n5) rfl
 have y6 := V00.cell 8 (v := .int .i64 e.n6) rfl
 have y7 := V00.cell 9 (v := .int .i64 e.n7) rfl
 have HE0 := hI_ V0
 have HB0 := hI_ b1
 have HTF : Hid (∃ a n c, tv = Value.slice a n c) := (show ∃ a n c, tv = Value.slice a n c from by obtain ⟨a, c, e, _⟩ := R.form; exact ⟨a, _, c, e⟩)
 have HH : Hid (MD w B F M ∧ RO w rp F.pm l ∧ Tr w tv e.ts ∧ TBL w) := ⟨hM, h, R, T⟩
 have HQ : Hid (6 ≤ rp ∧ e.ok ∧ (∀ n c, tv = .slice none n c → c = 0) ∧ rp < w.heap.size) := ⟨hrp, he, hno, VA.lt h⟩
 have HOP : Hid (e.op = 6) := hop
 clear b0 b1 V00 V0 hn0 hM h R T hrp he hno hop
 go_enter func74, ntmps74
 go_upto_region 2 with (refine stA rfl 28 _ _ rfl (w.heap.size + 1) (by rfl) ([.int .i64 0, .int .i64 0, .int .i64 0, .int .i64 0, .int .i64 0, .int .i64 0, .int .i64 0, .int .i64 0] : List Value) [.int .i64 e.n0, .int .i64 e.n1, .int .i64 e.n2, .int .i64 e.n3, .int .i64 e.n4, .int .i64 e.n5, .int .i64 e.n6, .int .i64 e.n7] (by rfl) 28 HN0.out bg rfl (aD e) ?_; intro w1 hv1 hu1)
 have hb1 := hu1.bel HB0.out (by omega)
 have HM_1 : Hid (MD w1 B F M) := HH.out.1.step hb1
 have HR_1 : Hid (RO w1 rp F.pm l) := HH.out.2.1.step hb1
 have HB_1 : Hid (But (fun i => i = rp) w w1) := af hb1 _
 have HTR_1 : Hid (Tr w1 tv e.ts) := HH.out.2.2.1.step hb1
 have HT_1 : Hid (TBL w1) := HH.out.2.2.2.step hb1
 have HE_1 : Hid (VA w1 w.heap.size (e.cells tv) 31) := HE0.out.upd hu1 (by omega)
 have HN_1 : Hid (VA w1 (w.heap.size + 1) [.int .i64 e.n0, .int .i64 e.n1, .int .i64 e.n2, .int .i64 e.n3, .int .i64 e.n4, .int .i64 e.n5, .int .i64 e.n6, .int .i64 e.n7] 28) := hv1
 have y : w1.cell? ⟨w.heap.size, 0, none⟩ = some (.int .u8 6) := by have := HE_1.out.cell 0 (v := .int .u8 (e.op : Int)) rfl; rw [HOP.out] at this; exact this
 clear hb1 hv1 hu1 HN0 HE0 HB0 HH y0 y1 y2 y3 y4 y5 y6 y7
 have m0 := HN_1.out.cell 0 (v := .int .i64 e.n0) rfl
 have m1 := HN_1.out.cell 1 (v := .int .i64 e.n1) rfl
 have m2 := HN_1.out.cell 2 (v := .int .i64 e.n2) rfl
 have m3 := HN_1.out.cell 3 (v := .int .i64 e.n3) rfl
 go_wp2_with fail
 refine Calls.mono (jm w1 B F M HM_1.out rp _ e.n0 e.n1 e.n2 HR_1.out) ?_
 rintro r w2 ⟨rfl, h1, h2⟩
 have HR_2 : Hid (RO _ _ _ _) := h1
 have HB_2 : Hid (But (fun i => i = rp) w w2) := HB_1.out.trans h2 (fun i _ hx => hx)
 have HM_2 : Hid (MD w2 B F M) := HM_1.out.ro HR_1.out h2
 clear h1 h2 HR_1 HB_1 HM_1
 clear m0 m1 m2 m3 y
 go_wp2_with fail
 refine bodyPost_end (v := .tuple #[]) (by simp [results, results74, go_sem]) rfl ?_
 refine ⟨rfl, ?_, HB_2.out⟩
 have H := HR_2.out
 exact H
set_option maxRecDepth 100000 in
theorem vu (w : World) (B : Nat) (F : FB) (M : PM) (hM : MD w B F M) (rp : Nat) (l : Int) (h : RO w rp F.pm l) (e : EV) (he : e.ok) (tv : Value) (R : Tr w tv e.ts) (hno : ∀ n c, tv = .slice none n c → c = 0) (T : TBL w) (hrp : 6 ≤ rp) (hop : e.op = 7) :
  Calls prog 74 #[.pointer (some ⟨rp, 0, none⟩), .agg (e.cells tv).toArray] w fun r w' => r = .returned (.tuple #[]) ∧ RO w' rp F.pm (holdL M l e.n0 e.n1 e.n2) ∧ But (fun i => i = rp) w w' := by
 have b0 := (Below.refl w.heap.size w).alloc (Nat.le_refl _) (.cells (e.cells tv).toArray 31)
 have b1 := b0.alloc (by simp) (.cells #[.int .i64 0, .int .i64 0, .int .i64 0, .int .i64 0, .int .i64 0, .int .i64 0, .int .i64 0, .int .i64 0] 28)
 have V00 := aa w (e.cells tv) 31
 have V0 := V00.alloc (.cells #[.int .i64 0, .int .i64 0, .int .i64 0, .int .i64 0, .int .i64 0, .int .i64 0, .int .i64 0, .int .i64 0] 28)
 have hn0 := aa (w.alloc (.cells (e.cells tv).toArray 31)) ([.int .i64 0, .int .i64 0, .int .i64 0, .int .i64 0, .int .i64 0, .int .i64 0, .int .i64 0, .int .i64 0] : List Value) 28
 rw [World.size_alloc] at hn0
 have HN0 := hI_ hn0
 have y0 := V00.cell 2 (v := .int .i64 e.n0) rfl
 have y1 := V00.cell 3 (v := .int .i64 e.n1) rfl
 have y2 := V00.cell 4 (v := .int .i64 e.n2) rfl
 have y3 := V00.cell 5 (v := .int .i64 e.n3) rfl
 have y4 := V00.cell 6 (v := .int .i64 e.n4) rfl
 have y5 := V00.cell 7 (v := .int .i64 e.n5) rfl
 have y6 := V00.cell 8 (v := .int .i64 e.n6) rfl
 have y7 := V00.cell 9 (v := .int .i64 e.n7) rfl
 have HE0 := hI_ V0
 have HB0 := hI_ b1
 have HTF : Hid (∃ a n c, tv = Value.slice a n c) := (show ∃ a n c, tv = Value.slice a n c from by obtain ⟨a, c, e, _⟩ := R.form; exact ⟨a, _, c, e⟩)
 have HH : Hid (MD w B F M ∧ RO w rp F.pm l ∧ Tr w tv e.ts ∧ TBL w) := ⟨hM, h, R, T⟩
 have HQ : Hid (6 ≤ rp ∧ e.ok ∧ (∀ n c, tv = .slice none n c → c = 0) ∧ rp < w.heap.size) := ⟨hrp, he, hno, VA.lt h⟩
 have HOP : Hid (e.op = 7) := hop
 clear b0 b1 V00 V0 hn0 hM h R T hrp he hno hop
 go_enter func74, ntmps74
 go_upto_region 2 with (refine stA rfl 28 _ _ rfl (w.heap.size + 1) (by rfl) ([.int .i64 0, .int .i64 0, .int .i64 0, .int .i64 0, .int .i64 0, .int .i64 0, .int .i64 0, .int .i64 0] : List Value) [.int .i64 e.n0, .int .i64 e.n1, .int .i64 e.n2, .int .i64 e.n3, .int .i64 e.n4, .int .i64 e.n5, .int .i64 e.n6, .int .i64 e.n7] (by rfl) 28 HN0.out bg rfl (aD e) ?_; intro w1 hv1 hu1)
 have hb1 := hu1.bel HB0.out (by omega)
 have HM_1 : Hid (MD w1 B F M) := HH.out.1.step hb1
 have HR_1 : Hid (RO w1 rp F.pm l) := HH.out.2.1.step hb1
 have HB_1 : Hid (But (fun i => i = rp) w w1) := af hb1 _
 have HTR_1 : Hid (Tr w1 tv e.ts) := HH.out.2.2.1.step hb1
 have HT_1 : Hid (TBL w1) := HH.out.2.2.2.step hb1
 have HE_1 : Hid (VA w1 w.heap.size (e.cells tv) 31) := HE0.out.upd hu1 (by omega)
 have HN_1 : Hid (VA w1 (w.heap.size + 1) [.int .i64 e.n0, .int .i64 e.n1, .int .i64 e.n2, .int .i64 e.n3, .int .i64 e.n4, .int .i64 e.n5, .int .i64 e.n6, .int .i64 e.n7] 28) := hv1
 have y : w1.cell? ⟨w.heap.size, 0, none⟩ = some (.int .u8 7) := by have := HE_1.out.cell 0 (v := .int .u8 (e.op : Int)) rfl; rw [HOP.out] at this; exact this
 clear hb1 hv1 hu1 HN0 HE0 HB0 HH y0 y1 y2 y3 y4 y5 y6 y7
 have m0 := HN_1.out.cell 0 (v := .int .i64 e.n0) rfl
 have m1 := HN_1.out.cell 1 (v := .int .i64 e.n1) rfl
 have m2 := HN_1.out.cell 2 (v := .int .i64 e.n2) rfl
 have m3 := HN_1.out.cell 3 (v := .int .i64 e.n3) rfl
 go_wp2_with fail
 refine Calls.mono (qe w1 B F M HM_1.out rp _ e.n0 e.n1 e.n2 HR_1.out HQ.out.2.1.n1) ?_
 rintro r w2 ⟨rfl, h1, h2⟩
 have HR_2 : Hid (RO _ _ _ _) := h1
 have HB_2 : Hid (But (fun i => i = rp) w w2) := HB_1.out.trans h2 (fun i _ hx => hx)
 have HM_2 : Hid (MD w2 B F M) := HM_1.out.ro HR_1.out h2
 clear h1 h2 HR_1 HB_1 HM_1
 clear m0 m1 m2 m3 y
 go_wp2_with fail
 refine bodyPost_end (v := .tuple #[]) (by simp [results, results74, go_sem]) rfl ?_
 refine ⟨rfl, ?_, HB_2.out⟩
 have H := HR_2.out
 exact H
set_option maxRecDepth 100000 in
theorem vv (w : World) (B : Nat) (F : FB) (M : PM) (hM : MD w B F M) (rp : Nat) (l : Int) (h : RO w rp F.pm l) (e : EV) (he : e.ok) (tv : Value) (R : Tr w tv e.ts) (hno : ∀ n c, tv = .slice none n c → c = 0) (T : TBL w) (hrp : 6 ≤ rp) (hop : e.op = 8) :
  Calls prog 74 #[.pointer (some ⟨rp, 0, none⟩), .agg (e.cells tv).toArray] w fun r w' => r = .returned (.tuple #[]) ∧ RO w' rp F.pm (freeL M l e.n0 e.n1) ∧ But (fun i => i = rp) w w' := by
 have b0 := (Below.refl w.heap.size w).alloc (Nat.le_refl _) (.cells (e.cells tv).toArray 31)
 have b1 := b0.alloc (by simp) (.cells #[.int .i64 0, .int .i64 0, .int .i64 0, .int .i64 0, .int .i64 0, .int .i64 0, .int .i64 0, .int .i64 0] 28)
 have V00 := aa w (e.cells tv) 31
 have V0 := V00.alloc (.cells #[.int .i64 0, .int .i64 0, .int .i64 0, .int .i64 0, .int .i64 0, .int .i64 0, .int .i64 0, .int .i64 0] 28)
 have hn0 := aa (w.alloc (.cells (e.cells tv).toArray 31)) ([.int .i64 0, .int .i64 0, .int .i64 0, .int .i64 0, .int .i64 0, .int .i64 0, .int .i64 0, .int .i64 0] : List Value) 28
 rw [World.size_alloc] at hn0
 have HN0 := hI_ hn0
 have y0 := V00.cell 2 (v := .int .i64 e.n0) rfl
 have y1 := V00.cell 3 (v := .int .i64 e.n1) rfl
 have y2 := V00.cell 4 (v := .int .i64 e.n2) rfl
 have y3 := V00.cell 5 (v := .int .i64 e.n3) rfl
 have y4 := V00.cell 6 (v := .int .i64 e.n4) rfl
 have y5 := V00.cell 7 (v := .int .i64 e.n5) rfl
 have y6 := V00.cell 8 (v := .int .i64 e.n6) rfl
 have y7 := V00.cell 9 (v := .int .i64 e.n7) rfl
 have HE0 := hI_ V0
 have HB0 := hI_ b1
 have HTF : Hid (∃ a n c, tv = Value.slice a n c) := (show ∃ a n c, tv = Value.slice a n c from by obtain ⟨a, c, e, _⟩ := R.form; exact ⟨a, _, c, e⟩)
 have HH : Hid (MD w B F M ∧ RO w rp F.pm l ∧ Tr w tv e.ts ∧ TBL w) := ⟨hM, h, R, T⟩
 have HQ : Hid (6 ≤ rp ∧ e.ok ∧ (∀ n c, tv = .slice none n c → c = 0) ∧ rp < w.heap.size) := ⟨hrp, he, hno, VA.lt h⟩
 have HOP : Hid (e.op = 8) := hop
 clear b0 b1 V00 V0 hn0 hM h R T hrp he hno hop
 go_enter func74, ntmps74
 go_upto_region 2 with (refine stA rfl 28 _ _ rfl (w.heap.size + 1) (by rfl) ([.int .i64 0, .int .i64 0, .int .i64 0, .int .i64 0, .int .i64 0, .int .i64 0, .int .i64 0, .int .i64 0] : List Value) [.int .i64 e.n0, .int .i64 e.n1, .int .i64 e.n2, .int .i64 e.n3, .int .i64 e.n4, .int .i64 e.n5, .int .i64 e.n6, .int .i64 e.n7] (by rfl) 28 HN0.out bg rfl (aD e) ?_; intro w1 hv1 hu1)
 have hb1 := hu1.bel HB0.out (by omega)
 have HM_1 : Hid (MD w1 B F M) := HH.out.1.step hb1
 have HR_1 : Hid (RO w1 rp F.pm l) := HH.out.2.1.step hb1
 have HB_1 : Hid (But (fun i => i = rp) w w1) := af hb1 _
 have HTR_1 : Hid (Tr w1 tv e.ts) := HH.out.2.2.1.step hb1
 have HT_1 : Hid (TBL w1) := HH.out.2.2.2.step hb1
 have HE_1 : Hid (VA w1 w.heap.size (e.cells tv) 31) := HE0.out.upd hu1 (by omega)
 have HN_1 : Hid (VA w1 (w.heap.size + 1) [.int .i64 e.n0, .int .i64 e.n1, .int .i64 e.n2, .int .i64 e.n3, .int .i64 e.n4, .int .i64 e.n5, .int .i64 e.n6, .int .i64 e.n7] 28) := hv1
 have y : w1.cell? ⟨w.heap.size, 0, none⟩ = some (.int .u8 8) := by have := HE_1.out.cell 0 (v := .int .u8 (e.op : Int)) rfl; rw [HOP.out] at this; exact this
 clear hb1 hv1 hu1 HN0 HE0 HB0 HH y0 y1 y2 y3 y4 y5 y6 y7
 have m0 := HN_1.out.cell 0 (v := .int .i64 e.n0) rfl
 have m1 := HN_1.out.cell 1 (v := .int .i64 e.n1) rfl
 have m2 := HN_1.out.cell 2 (v := .int .i64 e.n2) rfl
 have m3 := HN_1.out.cell 3 (v := .int .i64 e.n3) rfl
 go_wp2_with fail
 refine Calls.mono (qd w1 B F M HM_1.out rp _ e.n0 e.n1 HR_1.out HQ.out.2.1.n1) ?_
 rintro r w2 ⟨rfl, h1, h2⟩
 have HR_2 : Hid (RO _ _ _ _) := h1
 have HB_2 : Hid (But (fun i => i = rp) w w2) := HB_1.out.trans h2 (fun i _ hx => hx)
 have HM_2 : Hid (MD w2 B F M) := HM_1.out.ro HR_1.out h2
 clear h1 h2 HR_1 HB_1 HM_1
 clear m0 m1 m2 m3 y
 go_wp2_with fail
 refine bodyPost_end (v := .tuple #[]) (by simp [results, results74, go_sem]) rfl ?_
 refine ⟨rfl, ?_, HB_2.out⟩
 have H := HR_2.out
 exact H
set_option maxRecDepth 100000 in
theorem vw (w : World) (B : Nat) (F : FB) (M : PM) (hM : MD w B F M) (rp : Nat) (l : Int) (h : RO w rp F.pm l) (e : EV) (he : e.ok) (tv : Value) (R : Tr w tv e.ts) (hno : ∀ n c, tv = .slice none n c → c = 0) (T : TBL w) (hrp : 6 ≤ rp) (hop : e.op = 9) :
  Calls prog 74 #[.pointer (some ⟨rp, 0, none⟩), .agg (e.cells tv).toArray] w fun r w' => r = .returned (.tuple #[]) ∧ RO w' rp F.pm (lendL M l e.n0 e.n1 e.n2 e.n3) ∧ But (fun i => i = rp) w w' := by
 have b0 := (Below.refl w.heap.size w).alloc (Nat.le_refl _) (.cells (e.cells tv).toArray 31)
 have b1 := b0.alloc (by simp) (.cells #[.int .i64 0, .int .i64 0, .int .i64 0, .int .i64 0, .int .i64 0, .int .i64 0, .int .i64 0, .int .i64 0] 28)
 have V00 := aa w (e.cells tv) 31
 have V0 := V00.alloc (.cells #[.int .i64 0, .int .i64 0, .int .i64 0, .int .i64 0, .int .i64 0, .int .i64 0, .int .i64 0, .int .i64 0] 28)
 have hn0 := aa (w.alloc (.cells (e.cells tv).toArray 31)) ([.int .i64 0, .int .i64 0, .int .i64 0, .int .i64 0, .int .i64 0, .int .i64 0, .int .i64 0, .int .i64 0] : List Value) 28
 rw [World.size_alloc] at hn0
 have HN0 := hI_ hn0
 have y0 := V00.cell 2 (v := .int .i64 e.n0) rfl
 have y1 := V00.cell 3 (v := .int .i64 e.n1) rfl
 have y2 := V00.cell 4 (v := .int .i64 e.n2) rfl
 have y3 := V00.cell 5 (v := .int .i64 e.n3) rfl
 have y4 := V00.cell 6 (v := .int .i64 e.n4) rfl
 have y5 := V00.cell 7 (v := .int .i64 e.n5) rfl
 have y6 := V00.cell 8 (v := .int .i64 e.n6) rfl
 have y7 := V00.cell 9 (v := .int .i64 e.n7) rfl
 have HE0 := hI_ V0
 have HB0 := hI_ b1
 have HTF : Hid (∃ a n c, tv = Value.slice a n c) := (show ∃ a n c, tv = Value.slice a n c from by obtain ⟨a, c, e, _⟩ := R.form; exact ⟨a, _, c, e⟩)
 have HH : Hid (MD w B F M ∧ RO w rp F.pm l ∧ Tr w tv e.ts ∧ TBL w) := ⟨hM, h, R, T⟩
 have HQ : Hid (6 ≤ rp ∧ e.ok ∧ (∀ n c, tv = .slice none n c → c = 0) ∧ rp < w.heap.size) := ⟨hrp, he, hno, VA.lt h⟩
 have HOP : Hid (e.op = 9) := hop
 clear b0 b1 V00 V0 hn0 hM h R T hrp he hno hop
 go_enter func74, ntmps74
 go_upto_region 2 with (refine stA rfl 28 _ _ rfl (w.heap.size + 1) (by rfl) ([.int .i64 0, .int .i64 0, .int .i64 0, .int .i64 0, .int .i64 0, .int .i64 0, .int .i64 0, .int .i64 0] : List Value) [.int .i64 e.n0, .int .i64 e.n1, .int .i64 e.n2, .int .i64 e.n3, .int .i64 e.n4, .int .i64 e.n5, .int .i64 e.n6, .int .i64 e.n7] (by rfl) 28 HN0.out bg rfl (aD e) ?_; intro w1 hv1 hu1)
 have hb1 := hu1.bel HB0.out (by omega)
 have HM_1 : Hid (MD w1 B F M) := HH.out.1.step hb1
 have HR_1 : Hid (RO w1 rp F.pm l) := HH.out.2.1.step hb1
 have HB_1 : Hid (But (fun i => i = rp) w w1) := af hb1 _
 have HTR_1 : Hid (Tr w1 tv e.ts) := HH.out.2.2.1.step hb1
 have HT_1 : Hid (TBL w1) := HH.out.2.2.2.step hb1
 have HE_1 : Hid (VA w1 w.heap.size (e.cells tv) 31) := HE0.out.upd hu1 (by omega)
 have HN_1 : Hid (VA w1 (w.heap.size + 1) [.int .i64 e.n0, .int .i64 e.n1, .int .i64 e.n2, .int .i64 e.n3, .int .i64 e.n4, .int .i64 e.n5, .int .i64 e.n6, .int .i64 e.n7] 28) := hv1
 have y : w1.cell? ⟨w.heap.size, 0, none⟩ = some (.int .u8 9) := by have := HE_1.out.cell 0 (v := .int .u8 (e.op : Int)) rfl; rw [HOP.out] at this; exact this
 clear hb1 hv1 hu1 HN0 HE0 HB0 HH y0 y1 y2 y3 y4 y5 y6 y7
 have m0 := HN_1.out.cell 0 (v := .int .i64 e.n0) rfl
 have m1 := HN_1.out.cell 1 (v := .int .i64 e.n1) rfl
 have m2 := HN_1.out.cell 2 (v := .int .i64 e.n2) rfl
 have m3 := HN_1.out.cell 3 (v := .int .i64 e.n3) rfl
 go_wp2_with fail
 refine Calls.mono (qf w1 B F M HM_1.out rp _ e.n0 e.n1 e.n2 e.n3 HR_1.out) ?_
 rintro r w2 ⟨rfl, h1, h2⟩
 have HR_2 : Hid (RO _ _ _ _) := h1
 have HB_2 : Hid (But (fun i => i = rp) w w2) := HB_1.out.trans h2 (fun i _ hx => hx)
 have HM_2 : Hid (MD w2 B F M) := HM_1.out.ro HR_1.out h2
 clear h1 h2 HR_1 HB_1 HM_1
 clear m0 m1 m2 m3 y
 go_wp2_with fail
 refine bodyPost_end (v := .tuple #[]) (by simp [results, results74, go_sem]) rfl ?_
 refine ⟨rfl, ?_, HB_2.out⟩
 have H := HR_2.out
 exact H
set_option maxRecDepth 100000 in
theorem tD (w : World) (B : Nat) (F : FB) (M : PM) (hM : MD w B F M) (rp : Nat) (l : Int) (h : RO w rp F.pm l) (e : EV) (he : e.ok) (tv : Value) (R : Tr w tv e.ts) (hno : ∀ n c, tv = .slice none n c → c = 0) (T : TBL w) (hrp : 6 ≤ rp) (hop : e.op = 10) :
  Calls prog 74 #[.pointer (some ⟨rp, 0, none⟩), .agg (e.cells tv).toArray] w fun r w' => r = .returned (.tuple #[]) ∧ RO w' rp F.pm (repayL M l e.n0 e.n1 e.n2) ∧ But (fun i => i = rp) w w' := by
 have b0 := (Below.refl w.heap.size w).alloc (Nat.le_refl _) (.cells (e.cells tv).toArray 31)
 have b1 := b0.alloc (by simp) (.cells #[.int .i64 0, .int .i64 0, .int .i64 0, .int .i64 0, .int .i64 0, .int .i64 0, .int .i64 0, .int .i64 0] 28)
 have V00 := aa w (e.cells tv) 31
 have V0 := V00.alloc (.cells #[.int .i64 0, .int .i64 0, .int .i64 0, .int .i64 0, .int .i64 0, .int .i64 0, .int .i64 0, .int .i64 0] 28)
 have hn0 := aa (w.alloc (.cells (e.cells tv).toArray 31)) ([.int .i64 0, .int .i64 0, .int .i64 0, .int .i64 0, .int .i64 0, .int .i64 0, .int .i64 0, .int .i64 0] : List Value) 28
 rw [World.size_alloc] at hn0
 have HN0 := hI_ hn0
 have y0 := V00.cell 2 (v := .int .i64 e.n0) rfl
 have y1 := V00.cell 3 (v := .int .i64 e.n1) rfl
 have y2 := V00.cell 4 (v := .int .i64 e.n2) rfl
 have y3 := V00.cell 5 (v := .int .i64 e.n3) rfl
 have y4 := V00.cell 6 (v := .int .i64 e.n4) rfl
 have y5 := V00.cell 7 (v := .int .i64 e.n5) rfl
 have y6 := V00.cell 8 (v := .int .i64 e.n6) rfl
 have y7 := V00.cell 9 (v := .int .i64 e.n7) rfl
 have HE0 := hI_ V0
 have HB0 := hI_ b1
 have HTF : Hid (∃ a n c, tv = Value.slice a n c) := (show ∃ a n c, tv = Value.slice a n c from by obtain ⟨a, c, e, _⟩ := R.form; exact ⟨a, _, c, e⟩)
 have HH : Hid (MD w B F M ∧ RO w rp F.pm l ∧ Tr w tv e.ts ∧ TBL w) := ⟨hM, h, R, T⟩
 have HQ : Hid (6 ≤ rp ∧ e.ok ∧ (∀ n c, tv = .slice none n c → c = 0) ∧ rp < w.heap.size) := ⟨hrp, he, hno, VA.lt h⟩
 have HOP : Hid (e.op = 10) := hop
 clear b0 b1 V00 V0 hn0 hM h R T hrp he hno hop
 go_enter func74, ntmps74
 go_upto_region 2 with (refine stA rfl 28 _ _ rfl (w.heap.size + 1) (by rfl) ([.int .i64 0, .int .i64 0, .int .i64 0, .int .i64 0, .int .i64 0, .int .i64 0, .int .i64 0, .int .i64 0] : List Value) [.int .i64 e.n0, .int .i64 e.n1, .int .i64 e.n2, .int .i64 e.n3, .int .i64 e.n4, .int .i64 e.n5, .int .i64 e.n6, .int .i64 e.n7] (by rfl) 28 HN0.out bg rfl (aD e) ?_; intro w1 hv1 hu1)
 have hb1 := hu1.bel HB0.out (by omega)
 have HM_1 : Hid (MD w1 B F M) := HH.out.1.step hb1
 have HR_1 : Hid (RO w1 rp F.pm l) := HH.out.2.1.step hb1
 have HB_1 : Hid (But (fun i => i = rp) w w1) := af hb1 _
 have HTR_1 : Hid (Tr w1 tv e.ts) := HH.out.2.2.1.step hb1
 have HT_1 : Hid (TBL w1) := HH.out.2.2.2.step hb1
 have HE_1 : Hid (VA w1 w.heap.size (e.cells tv) 31) := HE0.out.upd hu1 (by omega)
 have HN_1 : Hid (VA w1 (w.heap.size + 1) [.int .i64 e.n0, .int .i64 e.n1, .int .i64 e.n2, .int .i64 e.n3, .int .i64 e.n4, .int .i64 e.n5, .int .i64 e.n6, .int .i64 e.n7] 28) := hv1
 have y : w1.cell? ⟨w.heap.size, 0, none⟩ = some (.int .u8 10) := by have := HE_1.out.cell 0 (v := .int .u8 (e.op : Int)) rfl; rw [HOP.out] at this; exact this
 clear hb1 hv1 hu1 HN0 HE0 HB0 HH y0 y1 y2 y3 y4 y5 y6 y7
 have m0 := HN_1.out.cell 0 (v := .int .i64 e.n0) rfl
 have m1 := HN_1.out.cell 1 (v := .int .i64 e.n1) rfl
 have m2 := HN_1.out.cell 2 (v := .int .i64 e.n2) rfl
 have m3 := HN_1.out.cell 3 (v := .int .i64 e.n3) rfl
 go_wp2_with fail
 refine Calls.mono (nP w1 B F M HM_1.out rp _ e.n0 e.n1 e.n2 HR_1.out) ?_
 rintro r w2 ⟨rfl, h1, h2⟩
 have HR_2 : Hid (RO _ _ _ _) := h1
 have HB_2 : Hid (But (fun i => i = rp) w w2) := HB_1.out.trans h2 (fun i _ hx => hx)
 have HM_2 : Hid (MD w2 B F M) := HM_1.out.ro HR_1.out h2
 clear h1 h2 HR_1 HB_1 HM_1
 clear m0 m1 m2 m3 y
 go_wp2_with fail
 refine bodyPost_end (v := .tuple #[]) (by simp [results, results74, go_sem]) rfl ?_
 refine ⟨rfl, ?_, HB_2.out⟩
 have H := HR_2.out
 exact H
set_option maxRecDepth 100000 in
theorem tE (w : World) (B : Nat) (F : FB) (M : PM) (hM : MD w B F M) (rp : Nat) (l : Int) (h : RO w rp F.pm l) (e : EV) (he : e.ok) (tv : Value) (R : Tr w tv e.ts) (hno : ∀ n c, tv = .slice none n c → c = 0) (T : TBL w) (hrp : 6 ≤ rp) (hop : e.op = 11) :
  Calls prog 74 #[.pointer (some ⟨rp, 0, none⟩), .agg (e.cells tv).toArray] w fun r w' => r = .returned (.tuple #[]) ∧ RO w' rp F.pm (rateL l e.n0 e.n1 e.n2) ∧ But (fun i => i = rp) w w' := by
 have b0 := (Below.refl w.heap.size w).alloc (Nat.le_refl _) (.cells (e.cells tv).toArray 31)
 have b1 := b0.alloc (by simp) (.cells #[.int .i64 0, .int .i64 0, .int .i64 0, .int .i64 0, .int .i64 0, .int .i64 0, .int .i64 0, .int .i64 0] 28)
 have V00 := aa w (e.cells tv) 31
 have V0 := V00.alloc (.cells #[.int .i64 0, .int .i64 0, .int .i64 0, .int .i64 0, .int .i64 0, .int .i64 0, .int .i64 0, .int .i64 0] 28)
 have hn0 := aa (w.alloc (.cells (e.cells tv).toArray 31)) ([.int .i64 0, .int .i64 0, .int .i64 0, .int .i64 0, .int .i64 0, .int .i64 0, .int .i64 0, .int .i64 0] : List Value) 28
 rw [World.size_alloc] at hn0
 have HN0 := hI_ hn0
 have y0 := V00.cell 2 (v := .int .i64 e.n0) rfl
 have y1 := V00.cell 3 (v := .int .i64 e.n1) rfl
 have y2 := V00.cell 4 (v := .int .i64 e.n2) rfl
 have y3 := V00.cell 5 (v := .int .i64 e.n3) rfl
 have y4 := V00.cell 6 (v := .int .i64 e.n4) rfl
 have y5 := V00.cell 7 (v := .int .i64 e.n5) rfl
 have y6 := V00.cell 8 (v := .int .i64 e.n6) rfl
 have y7 := V00.cell 9 (v := .int .i64 e.n7) rfl
 have HE0 := hI_ V0
 have HB0 := hI_ b1
 have HTF : Hid (∃ a n c, tv = Value.slice a n c) := (show ∃ a n c, tv = Value.slice a n c from by obtain ⟨a, c, e, _⟩ := R.form; exact ⟨a, _, c, e⟩)
 have HH : Hid (MD w B F M ∧ RO w rp F.pm l ∧ Tr w tv e.ts ∧ TBL w) := ⟨hM, h, R, T⟩
 have HQ : Hid (6 ≤ rp ∧ e.ok ∧ (∀ n c, tv = .slice none n c → c = 0) ∧ rp < w.heap.size) := ⟨hrp, he, hno, VA.lt h⟩
 have HOP : Hid (e.op = 11) := hop
 clear b0 b1 V00 V0 hn0 hM h R T hrp he hno hop
 go_enter func74, ntmps74
 go_upto_region 2 with (refine stA rfl 28 _ _ rfl (w.heap.size + 1) (by rfl) ([.int .i64 0, .int .i64 0, .int .i64 0, .int .i64 0, .int .i64 0, .int .i64 0, .int .i64 0, .int .i64 0] : List Value) [.int .i64 e.n0, .int .i64 e.n1, .int .i64 e.n2, .int .i64 e.n3, .int .i64 e.n4, .int .i64 e.n5, .int .i64 e.n6, .int .i64 e.n7] (by rfl) 28 HN0.out bg rfl (aD e) ?_; intro w1 hv1 hu1)
 have hb1 := hu1.bel HB0.out (by omega)
 have HM_1 : Hid (MD w1 B F M) := HH.out.1.step hb1
 have HR_1 : Hid (RO w1 rp F.pm l) := HH.out.2.1.step hb1
 have HB_1 : Hid (But (fun i => i = rp) w w1) := af hb1 _
 have HTR_1 : Hid (Tr w1 tv e.ts) := HH.out.2.2.1.step hb1
 have HT_1 : Hid (TBL w1) := HH.out.2.2.2.step hb1
 have HE_1 : Hid (VA w1 w.heap.size (e.cells tv) 31) := HE0.out.upd hu1 (by omega)
 have HN_1 : Hid (VA w1 (w.heap.size + 1) [.int .i64 e.n0, .int .i64 e.n1, .int .i64 e.n2, .int .i64 e.n3, .int .i64 e.n4, .int .i64 e.n5, .int .i64 e.n6, .int .i64 e.n7] 28) := hv1
 have y : w1.cell? ⟨w.heap.size, 0, none⟩ = some (.int .u8 11) := by have := HE_1.out.cell 0 (v := .int .u8 (e.op : Int)) rfl; rw [HOP.out] at this; exact this
 clear hb1 hv1 hu1 HN0 HE0 HB0 HH y0 y1 y2 y3 y4 y5 y6 y7
 have m0 := HN_1.out.cell 0 (v := .int .i64 e.n0) rfl
 have m1 := HN_1.out.cell 1 (v := .int .i64 e.n1) rfl
 have m2 := HN_1.out.cell 2 (v := .int .i64 e.n2) rfl
 have m3 := HN_1.out.cell 3 (v := .int .i64 e.n3) rfl
 go_wp2_with fail
 refine Calls.mono (qi w1 B F M HM_1.out rp _ e.n0 e.n1 e.n2 HR_1.out HT_1.out.cu) ?_
 rintro r w2 ⟨rfl, h1, h2⟩
 have HR_2 : Hid (RO _ _ _ _) := h1
 have HB_2 : Hid (But (fun i => i = rp) w w2) := HB_1.out.trans h2 (fun i _ hx => hx)
 have HM_2 : Hid (MD w2 B F M) := HM_1.out.ro HR_1.out h2
 clear h1 h2 HR_1 HB_1 HM_1
 clear m0 m1 m2 m3 y
 go_wp2_with fail
 refine bodyPost_end (v := .tuple #[]) (by simp [results, results74, go_sem]) rfl ?_
 refine ⟨rfl, ?_, HB_2.out⟩
 have H := HR_2.out
 exact H
set_option maxRecDepth 100000 in
theorem tF (w : World) (B : Nat) (F : FB) (M : PM) (hM : MD w B F M) (rp : Nat) (l : Int) (h : RO w rp F.pm l) (e : EV) (he : e.ok) (tv : Value) (R : Tr w tv e.ts) (hno : ∀ n c, tv = .slice none n c → c = 0) (T : TBL w) (hrp : 6 ≤ rp) (hop : e.op = 12) :
  Calls prog 74 #[.pointer (some ⟨rp, 0, none⟩), .agg (e.cells tv).toArray] w fun r w' => r = .returned (.tuple #[]) ∧ RO w' rp F.pm (exchL M l e.n0 e.n1 e.n2) ∧ But (fun i => i = rp) w w' := by
 have b0 := (Below.refl w.heap.size w).alloc (Nat.le_refl _) (.cells (e.cells tv).toArray 31)
 have b1 := b0.alloc (by simp) (.cells #[.int .i64 0, .int .i64 0, .int .i64 0, .int .i64 0, .int .i64 0, .int .i64 0, .int .i64 0, .int .i64 0] 28)
 have V00 := aa w (e.cells tv) 31
 have V0 := V00.alloc (.cells #[.int .i64 0, .int .i64 0, .int .i64 0, .int .i64 0, .int .i64 0, .int .i64 0, .int .i64 0, .int .i64 0] 28)
 have hn0 := aa (w.alloc (.cells (e.cells tv).toArray 31)) ([.int .i64 0, .int .i64 0, .int .i64 0, .int .i64 0, .int .i64 0, .int .i64 0, .int .i64 0, .int .i64 0] : List Value) 28
 rw [World.size_alloc] at hn0
 have HN0 := hI_ hn0
 have y0 := V00.cell 2 (v := .int .i64 e.n0) rfl
 have y1 := V00.cell 3 (v := .int .i64 e.n1) rfl
 have y2 := V00.cell 4 (v := .int .i64 e.n2) rfl
 have y3 := V00.cell 5 (v := .int .i64 e.n3) rfl
 have y4 := V00.cell 6 (v := .int .i64 e.n4) rfl
 have y5 := V00.cell 7 (v := .int .i64 e.n5) rfl
 have y6 := V00.cell 8 (v := .int .i64 e.n6) rfl
 have y7 := V00.cell 9 (v := .int .i64 e.n7) rfl
 have HE0 := hI_ V0
 have HB0 := hI_ b1
 have HTF : Hid (∃ a n c, tv = Value.slice a n c) := (show ∃ a n c, tv = Value.slice a n c from by obtain ⟨a, c, e, _⟩ := R.form; exact ⟨a, _, c, e⟩)
 have HH : Hid (MD w B F M ∧ RO w rp F.pm l ∧ Tr w tv e.ts ∧ TBL w) := ⟨hM, h, R, T⟩
 have HQ : Hid (6 ≤ rp ∧ e.ok ∧ (∀ n c, tv = .slice none n c → c = 0) ∧ rp < w.heap.size) := ⟨hrp, he, hno, VA.lt h⟩
 have HOP : Hid (e.op = 12) := hop
 clear b0 b1 V00 V0 hn0 hM h R T hrp he hno hop
 go_enter func74, ntmps74
 go_upto_region 2 with (refine stA rfl 28 _ _ rfl (w.heap.size + 1) (by rfl) ([.int .i64 0, .int .i64 0, .int .i64 0, .int .i64 0, .int .i64 0, .int .i64 0, .int .i64 0, .int .i64 0] : List Value) [.int .i64 e.n0, .int .i64 e.n1, .int .i64 e.n2, .int .i64 e.n3, .int .i64 e.n4, .int .i64 e.n5, .int .i64 e.n6, .int .i64 e.n7] (by rfl) 28 HN0.out bg rfl (aD e) ?_; intro w1 hv1 hu1)
 have hb1 := hu1.bel HB0.out (by omega)
 have HM_1 : Hid (MD w1 B F M) := HH.out.1.step hb1
 have HR_1 : Hid (RO w1 rp F.pm l) := HH.out.2.1.step hb1
 have HB_1 : Hid (But (fun i => i = rp) w w1) := af hb1 _
 have HTR_1 : Hid (Tr w1 tv e.ts) := HH.out.2.2.1.step hb1
 have HT_1 : Hid (TBL w1) := HH.out.2.2.2.step hb1
 have HE_1 : Hid (VA w1 w.heap.size (e.cells tv) 31) := HE0.out.upd hu1 (by omega)
 have HN_1 : Hid (VA w1 (w.heap.size + 1) [.int .i64 e.n0, .int .i64 e.n1, .int .i64 e.n2, .int .i64 e.n3, .int .i64 e.n4, .int .i64 e.n5, .int .i64 e.n6, .int .i64 e.n7] 28) := hv1
 have y : w1.cell? ⟨w.heap.size, 0, none⟩ = some (.int .u8 12) := by have := HE_1.out.cell 0 (v := .int .u8 (e.op : Int)) rfl; rw [HOP.out] at this; exact this
 clear hb1 hv1 hu1 HN0 HE0 HB0 HH y0 y1 y2 y3 y4 y5 y6 y7
 have m0 := HN_1.out.cell 0 (v := .int .i64 e.n0) rfl
 have m1 := HN_1.out.cell 1 (v := .int .i64 e.n1) rfl
 have m2 := HN_1.out.cell 2 (v := .int .i64 e.n2) rfl
 have m3 := HN_1.out.cell 3 (v := .int .i64 e.n3) rfl
 go_wp2_with fail
 refine Calls.mono (qc w1 B F M HM_1.out rp _ e.n0 e.n1 e.n2 HR_1.out HT_1.out HQ.out.1) ?_
 rintro r w2 ⟨rfl, h1, h2⟩
 have HR_2 : Hid (RO _ _ _ _) := h1
 have HB_2 : Hid (But (fun i => i = rp) w w2) := HB_1.out.trans h2 (fun i _ hx => hx)
 have HM_2 : Hid (MD w2 B F M) := HM_1.out.ro HR_1.out h2
 clear h1 h2 HR_1 HB_1 HM_1
 clear m0 m1 m2 m3 y
 go_wp2_with fail
 refine bodyPost_end (v := .tuple #[]) (by simp [results, results74, go_sem]) rfl ?_
 refine ⟨rfl, ?_, HB_2.out⟩
 have H := HR_2.out
 exact H
def FB.core (F : FB) (j : Nat) : Prop := j = F.pm ∨ j = F.pl ∨ j = F.ml ∨ j = F.rm ∨ j = F.km ∨ ∃ x ∈ F.ab, j = x.1 ∨ j = x.2
theorem fM {F : FB} {i : Nat} {x : Nat × Nat} (hx : F.ab[i]? = some x) {j : Nat} (h : j = x.1 ∨ j = x.2) : F.core j := Or.inr (Or.inr (Or.inr (Or.inr (Or.inr ⟨x, List.mem_of_getElem? hx, h⟩))))
theorem lW {F : FB} {i : Nat} {x : Nat × Nat} (hx : F.ab[i]? = some x) {j : Nat} (h : j = F.pl ∨ j = F.ml ∨ j = x.1) : F.core j := by
 rcases h with h | h | h
 ·exact Or.inr (Or.inl h)
 ·exact Or.inr (Or.inr (Or.inl h))
 ·exact fM hx (Or.inl h)
theorem iw {F : FB} {i k : Nat} {x y : Nat × Nat} (hx : F.ab[i]? = some x) (hy : F.ab[k]? = some y) {j : Nat} (h : j = F.pl ∨ j = F.ml ∨ j = x.1 ∨ j = y.1) : F.core j := by
 rcases h with h | h | h | h
 ·exact Or.inr (Or.inl h)
 ·exact Or.inr (Or.inr (Or.inl h))
 ·exact fM hx (Or.inl h)
 ·exact fM hy (Or.inl h)
theorem MD.core_lt {w : World} {B : Nat} {F : FB} {M : PM} (h : MD w B F M) {j : Nat} (hj : F.core j) : j < w.heap.size := by
 rcases hj with rfl | rfl | rfl | rfl | rfl | ⟨x, hx, hj⟩
 ·exact h.va.lt
 ·exact h.led.va.lt
 ·obtain ⟨es, c, e⟩ := bP h.led.map
  exact (Array.getElem?_eq_some_iff.1 e).1
 ·exact h.rts.lt
 ·exact h.kys.lt
 ·obtain ⟨i, hi⟩ := List.getElem?_of_mem hx
  have hl := (List.getElem?_eq_some_iff.1 hi).1
  obtain ⟨a, ha⟩ : ∃ a, M.al[i]? = some a := ⟨_, List.getElem?_eq_getElem (by rw [← h.len]; exact hl)⟩
  rcases hj with rfl | rfl
  ·exact (h.acs i a x ha hi).1.lt
  ·exact (h.acs i a x ha hi).2.lt
theorem MD.core_low {w : World} {B : Nat} {F : FB} {M : PM} (h : MD w B F M) {j : Nat} (hj : F.core j) : B ≤ j := by
 have l := h.low
 rcases hj with rfl | rfl | rfl | rfl | rfl | ⟨x, hx, rfl | rfl⟩
 ·exact l.1
 ·exact l.2.1
 ·exact l.2.2.1
 ·exact l.2.2.2.1
 ·exact l.2.2.2.2.1
 ·exact (l.2.2.2.2.2 x hx).1
 ·exact (l.2.2.2.2.2 x hx).2
theorem bE (w : World) (B : Nat) (F : FB) (M : PM) (h : MD w B F M) {i : Nat} {a : PA} {x : Nat × Nat} (hi : IsA F M i a x) {n : Int} (hn : a.id = n) :
  Calls prog 34 #[.pointer (some ⟨F.pm, 0, none⟩), .int .i64 n] w fun e w' => e = .returned (.pointer (some ⟨x.1, 0, none⟩)) ∧ w' = w := by
 subst hn
 exact eX w B F M h hi
theorem ww {α β : Type} [DecidableEq α] {w : World} {y : Nat → Option Bool} {o : Oper} {a : Act} {Q : Exit → Act → World → Prop} {K' : Act → World → Prop} {k0 : Prop} (hgd : Region.wanted o y = true) (m x v : Operand) (t : TypeId) (hop : o.op = Op.mapUpdate t m x v)
  (K : KK α) (enc : β → Value) (e : TypeId) (ht : prog.underlying t = some (.map K.kt e)) (b : Nat) (xs : List (α × β)) (hm : a.eval m = .map (some b)) (h : AM K enc w b xs) (hn : xs.length < maxLen)
  (key : α) (val : β) (hx : a.eval x = K.kv key) (hv : a.eval v = enc val) (ha : K.ok key)
  (hK : ∀ w', AM K enc w' b ((key, val) :: xs) → w.mapTurned w' b → K' (a.put o.dst undef) w') : if Region.wanted o y = true then o.wp prog a w K' Q else k0 := by
 rw [if_pos hgd]
 obtain ⟨w', hrun, r1, r2⟩ := h.store ht hn ha val
 unfold Oper.wp
 simp [execOp, hop, hm, hx, hv, hrun, Result.andThen]
 exact hK w' r1 r2
set_option maxRecDepth 100000 in
theorem oL (w : World) (B : Nat) (F : FB) (M : PM) (hM : MD w B F M) (T : TBL w) (hB : 6 ≤ B) (e : EV) (tv : Value) (hop : e.op = 4) (i : Nat) (a : PA) (x : Nat × Nat) (hi : IsA F M i a x) (hid : a.id = e.n0) (n1 : 1 ≤ e.n1) (n2 : e.n1 ≤ 10000000000000) (v1 : -10000000000000 ≤ a.bal + e.n1) (v2 : a.bal + e.n1 ≤ 10000000000000) (hm : 0 ≤ M.n ∧ M.n ≤ 4611686018427387904) :
  Calls prog 55 #[.pointer (some ⟨F.pm, 0, none⟩), .agg (e.cells tv).toArray] w fun r w' => r = .returned (.tuple #[]) ∧ MD w' B F (cashM M i a e.n1) ∧ But F.core w w' := by
 have b0 := (Below.refl w.heap.size w).alloc (Nat.le_refl _) (.cells (e.cells tv).toArray 31)
 have b1 := b0.alloc (by simp) (.cells #[.int .i64 0, .int .i64 0, .int .i64 0, .int .i64 0, .int .i64 0, .int .i64 0, .int .i64 0, .int .i64 0] 28)
 have V00 := aa w (e.cells tv) 31
 have V0 := V00.alloc (.cells #[.int .i64 0, .int .i64 0, .int .i64 0, .int .i64 0, .int .i64 0, .int .i64 0, .int .i64 0, .int .i64 0] 28)
 have hn0 := aa (w.alloc (.cells (e.cells tv).toArray 31)) ([.int .i64 0, .int .i64 0, .int .i64 0, .int .i64 0, .int .i64 0, .int .i64 0, .int .i64 0, .int .i64 0] : List Value) 28
 rw [World.size_alloc] at hn0
 have HN0 := hI_ hn0
 have y0 := V00.cell 2 (v := .int .i64 e.n0) rfl
 have y1 := V00.cell 3 (v := .int .i64 e.n1) rfl
 have y2 := V00.cell 4 (v := .int .i64 e.n2) rfl
 have y3 := V00.cell 5 (v := .int .i64 e.n3) rfl
 have y4 := V00.cell 6 (v := .int .i64 e.n4) rfl
 have y5 := V00.cell 7 (v := .int .i64 e.n5) rfl
 have y6 := V00.cell 8 (v := .int .i64 e.n6) rfl
 have y7 := V00.cell 9 (v := .int .i64 e.n7) rfl
 have HE0 := hI_ V0
 have HB0 := hI_ b1
 have HH : Hid (MD w B F M ∧ TBL w) := ⟨hM, T⟩
 have HQ : Hid (6 ≤ B ∧ ∀ j, F.core j → j < w.heap.size) := ⟨hB, fun j hj => hM.core_lt hj⟩
 have HOP : Hid (e.op = 4) := hop
 have H_hi := hI_ hi
 have H_hid := hI_ hid
 have H_hm := hI_ hm
 clear hi hid hm
 clear b0 b1 V00 V0 hn0 hM T hB hop
 go_enter func55, ntmps55
 go_upto_region 2 with (refine stA rfl 28 _ _ rfl (w.heap.size + 1) (by rfl) ([.int .i64 0, .int .i64 0, .int .i64 0, .int .i64 0, .int .i64 0, .int .i64 0, .int .i64 0, .int .i64 0] : List Value) [.int .i64 e.n0, .int .i64 e.n1, .int .i64 e.n2, .int .i64 e.n3, .int .i64 e.n4, .int .i64 e.n5, .int .i64 e.n6, .int .i64 e.n7] (by rfl) 28 HN0.out bg rfl (aD e) ?_; intro w1 hv1 hu1)
 have hb1 := hu1.bel HB0.out (by omega)
 have HM_1 : Hid (MD w1 B F M) := HH.out.1.step hb1
 have HT_1 : Hid (TBL w1) := HH.out.2.step hb1
 have BB_1 := hI_ hb1
 have HE_1 : Hid (VA w1 w.heap.size (e.cells tv) 31) := HE0.out.upd hu1 (by omega)
 have HN_1 : Hid (VA w1 (w.heap.size + 1) [.int .i64 e.n0, .int .i64 e.n1, .int .i64 e.n2, .int .i64 e.n3, .int .i64 e.n4, .int .i64 e.n5, .int .i64 e.n6, .int .i64 e.n7] 28) := hv1
 have y : w1.cell? ⟨w.heap.size, 0, none⟩ = some (.int .u8 4) := by have := HE_1.out.cell 0 (v := .int .u8 (e.op : Int)) rfl; rw [HOP.out] at this; exact this
 clear hb1 hv1 hu1 HN0 HE0 HB0 HH y0 y1 y2 y3 y4 y5 y6 y7
 go_upto_region 11 with fail
 clear y
 refine wp_region_noPanic ?_
 refine wp_region_held_drew (S := fun V => VA V (w.heap.size + 1) [.int .i64 e.n0, .int .i64 e.n1, .int .i64 e.n2, .int .i64 e.n3, .int .i64 e.n4, .int .i64 e.n5, .int .i64 e.n6, .int .i64 e.n7] 28) (by kernel_rfl) (HN_1.out.drew) ?_
 intro hh_
 have bz := (Below.refl w1.heap.size w1).drew
 have HM_z := hI_ (HM_1.out.step bz)
 have HT_z := hI_ (HT_1.out.step bz)
 have HN_z := hI_ (HN_1.out.step bz)
 have BB_z := hI_ (BB_1.out.trans (bz.mono BB_1.out.size))
 generalize w1.drew = wz at *
 clear bz
 refine tK 0 43 (.pointer (some ⟨F.pm, 0, none⟩)) (by exact rfl) (Or.inl ⟨by rfl, ?_⟩) ?_
 ·intro wq hS
  go_simp
 try simp only [nrm]
 refine tK 1 44 (.pointer (some ⟨F.pm, 0, none⟩)) (by exact rfl) (Or.inl ⟨by rfl, ?_⟩) ?_
 ·intro wq hS
  go_simp
 try simp only [nrm]
 refine tK 2 45 (.pointer (some ⟨w.heap.size + 1, 0, none⟩)) (by exact rfl) (Or.inl ⟨by rfl, ?_⟩) ?_
 ·intro wq hS
  go_simp
 try simp only [nrm]
 refine tK 3 46 (.int .i64 e.n0) (by exact rfl) (Or.inl ⟨by rfl, ?_⟩) ?_
 ·intro wq hS
  have c := VA.cell hS 0 (v := .int .i64 e.n0) rfl
  go_simp
 try simp only [nrm]
 refine tK 5 48 (.pointer (some ⟨w.heap.size + 1, 1, none⟩)) (by exact rfl) (Or.inl ⟨by rfl, ?_⟩) ?_
 ·intro wq hS
  go_simp
 try simp only [nrm]
 refine tK 6 49 (.int .i64 e.n1) (by exact rfl) (Or.inl ⟨by rfl, ?_⟩) ?_
 ·intro wq hS
  have c := VA.cell hS 1 (v := .int .i64 e.n1) rfl
  go_simp
 try simp only [nrm]
 clear hh_
 refine rdy 4 (fun K hK => ?_)
 go_simp
 refine Calls.mono (bE wz B F M HM_z.out H_hi.out H_hid.out) ?_
 rintro e wq ⟨rfl, hwq⟩
 obtain rfl := hwq.symm
 clear hwq
 go_wp2_with fail
 refine hK.out _ _ (HN_z.out) (fun hh_ => ?_)
 try simp only [nrm]
 clear hK K
 clear hh_
 refine rdy 7 (fun K hK => ?_)
 go_simp
 refine (jU wz B F M HM_z.out HT_z.out HQ.out.1 i a x H_hi.out e.n1 (by omega) (by omega) v1 v2 H_hm.out).mono ?_
 rintro r w4 ⟨rfl, h1, h2⟩
 have HM_4 : Hid (MD w4 B F _) := h1
 have HN_4 : Hid (VA w4 (w.heap.size + 1) [.int .i64 e.n0, .int .i64 e.n1, .int .i64 e.n2, .int .i64 e.n3, .int .i64 e.n4, .int .i64 e.n5, .int .i64 e.n6, .int .i64 e.n7] 28) := HN_z.out.but h2 (fun hj => by have := HQ.out.2 _ (lW H_hi.out.x hj); omega)
 have HB_4 : Hid (But F.core w w4) := (af BB_z.out F.core).trans h2 (fun j _ hj => lW H_hi.out.x hj)
 clear h1 h2
 go_wp2_with fail
 refine hK.out _ _ HN_4.out (fun hh_ => ?_)
 try simp only [nrm]
 clear hK K hh_
 refine wpAnyH_done (by kernel_rfl) ?_ _
 refine NoPanic.normal ?_
 go_wp2_with fail
 exact bodyPost_end (v := .tuple #[]) (by simp [results, results55, go_sem]) rfl ⟨rfl, HM_4.out, HB_4.out⟩
set_option maxRecDepth 100000 in
theorem oM (w : World) (B : Nat) (F : FB) (M : PM) (hM : MD w B F M) (T : TBL w) (hB : 6 ≤ B) (e : EV) (tv : Value) (hop : e.op = 5) (i : Nat) (a : PA) (x : Nat × Nat) (hi : IsA F M i a x) (hid : a.id = e.n0) (n1 : 1 ≤ e.n1) (n2 : e.n1 ≤ 10000000000000) (v1 : -10000000000000 ≤ a.bal + -e.n1) (v2 : a.bal + -e.n1 ≤ 10000000000000) (hm : 0 ≤ M.n ∧ M.n ≤ 4611686018427387904) :
  Calls prog 55 #[.pointer (some ⟨F.pm, 0, none⟩), .agg (e.cells tv).toArray] w fun r w' => r = .returned (.tuple #[]) ∧ MD w' B F (cashM M i a (-e.n1)) ∧ But F.core w w' := by
 have b0 := (Below.refl w.heap.size w).alloc (Nat.le_refl _) (.cells (e.cells tv).toArray 31)
 have b1 := b0.alloc (by simp) (.cells #[.int .i64 0, .int .i64 0, .int .i64 0, .int .i64 0, .int .i64 0, .int .i64 0, .int .i64 0, .int .i64 0] 28)
 have V00 := aa w (e.cells tv) 31
 have V0 := V00.alloc (.cells #[.int .i64 0, .int .i64 0, .int .i64 0, .int .i64 0, .int .i64 0, .int .i64 0, .int .i64 0, .int .i64 0] 28)
 have hn0 := aa (w.alloc (.cells (e.cells tv).toArray 31)) ([.int .i64 0, .int .i64 0, .int .i64 0, .int .i64 0, .int .i64 0, .int .i64 0, .int .i64 0, .int .i64 0] : List Value) 28
 rw [World.size_alloc] at hn0
 have HN0 := hI_ hn0
 have y0 := V00.cell 2 (v := .int .i64 e.n0) rfl
 have y1 := V00.cell 3 (v := .int .i64 e.n1) rfl
 have y2 := V00.cell 4 (v := .int .i64 e.n2) rfl
 have y3 := V00.cell 5 (v := .int .i64 e.n3) rfl
 have y4 := V00.cell 6 (v := .int .i64 e.n4) rfl
 have y5 := V00.cell 7 (v := .int .i64 e.n5) rfl
 have y6 := V00.cell 8 (v := .int .i64 e.n6) rfl
 have y7 := V00.cell 9 (v := .int .i64 e.n7) rfl
 have HE0 := hI_ V0
 have HB0 := hI_ b1
 have HH : Hid (MD w B F M ∧ TBL w) := ⟨hM, T⟩
 have HQ : Hid (6 ≤ B ∧ ∀ j, F.core j → j < w.heap.size) := ⟨hB, fun j hj => hM.core_lt hj⟩
 have HOP : Hid (e.op = 5) := hop
 have H_hi := hI_ hi
 have H_hid := hI_ hid
 have H_hm := hI_ hm
 clear hi hid hm
 clear b0 b1 V00 V0 hn0 hM T hB hop
 go_enter func55, ntmps55
 go_upto_region 2 with (refine stA rfl 28 _ _ rfl (w.heap.size + 1) (by rfl) ([.int .i64 0, .int .i64 0, .int .i64 0, .int .i64 0, .int .i64 0, .int .i64 0, .int .i64 0, .int .i64 0] : List Value) [.int .i64 e.n0, .int .i64 e.n1, .int .i64 e.n2, .int .i64 e.n3, .int .i64 e.n4, .int .i64 e.n5, .int .i64 e.n6, .int .i64 e.n7] (by rfl) 28 HN0.out bg rfl (aD e) ?_; intro w1 hv1 hu1)
 have hb1 := hu1.bel HB0.out (by omega)
 have HM_1 : Hid (MD w1 B F M) := HH.out.1.step hb1
 have HT_1 : Hid (TBL w1) := HH.out.2.step hb1
 have BB_1 := hI_ hb1
 have HE_1 : Hid (VA w1 w.heap.size (e.cells tv) 31) := HE0.out.upd hu1 (by omega)
 have HN_1 : Hid (VA w1 (w.heap.size + 1) [.int .i64 e.n0, .int .i64 e.n1, .int .i64 e.n2, .int .i64 e.n3, .int .i64 e.n4, .int .i64 e.n5, .int .i64 e.n6, .int .i64 e.n7] 28) := hv1
 have y : w1.cell? ⟨w.heap.size, 0, none⟩ = some (.int .u8 5) := by have := HE_1.out.cell 0 (v := .int .u8 (e.op : Int)) rfl; rw [HOP.out] at this; exact this
 clear hb1 hv1 hu1 HN0 HE0 HB0 HH y0 y1 y2 y3 y4 y5 y6 y7
 go_upto_region 13 with fail
 clear y
 refine wp_region_noPanic ?_
 refine wp_region_held_drew (S := fun V => VA V (w.heap.size + 1) [.int .i64 e.n0, .int .i64 e.n1, .int .i64 e.n2, .int .i64 e.n3, .int .i64 e.n4, .int .i64 e.n5, .int .i64 e.n6, .int .i64 e.n7] 28) (by kernel_rfl) (HN_1.out.drew) ?_
 intro hh_
 have bz := (Below.refl w1.heap.size w1).drew
 have HM_z := hI_ (HM_1.out.step bz)
 have HT_z := hI_ (HT_1.out.step bz)
 have HN_z := hI_ (HN_1.out.step bz)
 have BB_z := hI_ (BB_1.out.trans (bz.mono BB_1.out.size))
 generalize w1.drew = wz at *
 clear bz
 refine tK 0 53 (.pointer (some ⟨F.pm, 0, none⟩)) (by exact rfl) (Or.inl ⟨by rfl, ?_⟩) ?_
 ·intro wq hS
  go_simp
 try simp only [nrm]
 refine tK 1 54 (.pointer (some ⟨F.pm, 0, none⟩)) (by exact rfl) (Or.inl ⟨by rfl, ?_⟩) ?_
 ·intro wq hS
  go_simp
 try simp only [nrm]
 refine tK 2 55 (.pointer (some ⟨w.heap.size + 1, 0, none⟩)) (by exact rfl) (Or.inl ⟨by rfl, ?_⟩) ?_
 ·intro wq hS
  go_simp
 try simp only [nrm]
 refine tK 3 56 (.int .i64 e.n0) (by exact rfl) (Or.inl ⟨by rfl, ?_⟩) ?_
 ·intro wq hS
  have c := VA.cell hS 0 (v := .int .i64 e.n0) rfl
  go_simp
 try simp only [nrm]
 refine tK 5 58 (.pointer (some ⟨w.heap.size + 1, 1, none⟩)) (by exact rfl) (Or.inl ⟨by rfl, ?_⟩) ?_
 ·intro wq hS
  go_simp
 try simp only [nrm]
 refine tK 6 59 (.int .i64 e.n1) (by exact rfl) (Or.inl ⟨by rfl, ?_⟩) ?_
 ·intro wq hS
  have c := VA.cell hS 1 (v := .int .i64 e.n1) rfl
  go_simp
 try simp only [nrm]
 refine tK 7 60 (.int .i64 (-e.n1)) (by exact rfl) (Or.inl ⟨by rfl, ?_⟩) ?_
 ·intro wq hS
  go_simp
  try (rw [IntKind.wrap_i64]; omega)
 try simp only [nrm]
 clear hh_
 refine rdy 4 (fun K hK => ?_)
 go_simp
 refine Calls.mono (bE wz B F M HM_z.out H_hi.out H_hid.out) ?_
 rintro e wq ⟨rfl, hwq⟩
 obtain rfl := hwq.symm
 clear hwq
 go_wp2_with fail
 refine hK.out _ _ (HN_z.out) (fun hh_ => ?_)
 try simp only [nrm]
 clear hK K
 clear hh_
 refine rdy 8 (fun K hK => ?_)
 go_simp
 refine (jU wz B F M HM_z.out HT_z.out HQ.out.1 i a x H_hi.out (-e.n1) (by omega) (by omega) v1 v2 H_hm.out).mono ?_
 rintro r w4 ⟨rfl, h1, h2⟩
 have HM_4 : Hid (MD w4 B F _) := h1
 have HN_4 : Hid (VA w4 (w.heap.size + 1) [.int .i64 e.n0, .int .i64 e.n1, .int .i64 e.n2, .int .i64 e.n3, .int .i64 e.n4, .int .i64 e.n5, .int .i64 e.n6, .int .i64 e.n7] 28) := HN_z.out.but h2 (fun hj => by have := HQ.out.2 _ (lW H_hi.out.x hj); omega)
 have HB_4 : Hid (But F.core w w4) := (af BB_z.out F.core).trans h2 (fun j _ hj => lW H_hi.out.x hj)
 clear h1 h2
 go_wp2_with fail
 refine hK.out _ _ HN_4.out (fun hh_ => ?_)
 try simp only [nrm]
 clear hK K hh_
 refine wpAnyH_done (by kernel_rfl) ?_ _
 refine NoPanic.normal ?_
 go_wp2_with fail
 exact bodyPost_end (v := .tuple #[]) (by simp [results, results55, go_sem]) rfl ⟨rfl, HM_4.out, HB_4.out⟩
set_option maxRecDepth 100000 in
theorem oN (w : World) (B : Nat) (F : FB) (M : PM) (hM : MD w B F M) (T : TBL w) (hB : 6 ≤ B) (e : EV) (tv : Value) (hop : e.op = 6) (i : Nat) (a : PA) (x : Nat × Nat) (hi : IsA F M i a x) (hid : a.id = e.n0) (j : Nat) (b : PA) (y : Nat × Nat) (hj : IsA F M j b y) (hjd : b.id = e.n1) (hij : i ≠ j) (n1 : 1 ≤ e.n2) (n2 : e.n2 ≤ 10000000000000) (v1 : -10000000000000 ≤ a.bal - e.n2) (v2 : a.bal - e.n2 ≤ 10000000000000) (u1 : -10000000000000 ≤ b.bal + e.n2) (u2 : b.bal + e.n2 ≤ 10000000000000) (hm : 0 ≤ M.n ∧ M.n ≤ 4611686018427387904) :
  Calls prog 55 #[.pointer (some ⟨F.pm, 0, none⟩), .agg (e.cells tv).toArray] w fun r w' => r = .returned (.tuple #[]) ∧ MD w' B F (twoM M i a (a.bal - e.n2) j b (b.bal + e.n2) 2 2 e.n2) ∧ But F.core w w' := by
 have b0 := (Below.refl w.heap.size w).alloc (Nat.le_refl _) (.cells (e.cells tv).toArray 31)
 have b1 := b0.alloc (by simp) (.cells #[.int .i64 0, .int .i64 0, .int .i64 0, .int .i64 0, .int .i64 0, .int .i64 0, .int .i64 0, .int .i64 0] 28)
 have V00 := aa w (e.cells tv) 31
 have V0 := V00.alloc (.cells #[.int .i64 0, .int .i64 0, .int .i64 0, .int .i64 0, .int .i64 0, .int .i64 0, .int .i64 0, .int .i64 0] 28)
 have hn0 := aa (w.alloc (.cells (e.cells tv).toArray 31)) ([.int .i64 0, .int .i64 0, .int .i64 0, .int .i64 0, .int .i64 0, .int .i64 0, .int .i64 0, .int .i64 0] : List Value) 28
 rw [World.size_alloc] at hn0
 have HN0 := hI_ hn0
 have y0 := V00.cell 2 (v := .int .i64 e.n0) rfl
 have y1 := V00.cell 3 (v := .int .i64 e.n1) rfl
 have y2 := V00.cell 4 (v := .int .i64 e.n2) rfl
 have y3 := V00.cell 5 (v := .int .i64 e.n3) rfl
 have y4 := V00.cell 6 (v := .int .i64 e.n4) rfl
 have y5 := V00.cell 7 (v := .int .i64 e.n5) rfl
 have y6 := V00.cell 8 (v := .int .i64 e.n6) rfl
 have y7 := V00.cell 9 (v := .int .i64 e.n7) rfl
 have HE0 := hI_ V0
 have HB0 := hI_ b1
 have HH : Hid (MD w B F M ∧ TBL w) := ⟨hM, T⟩
 have HQ : Hid (6 ≤ B ∧ ∀ j, F.core j → j < w.heap.size) := ⟨hB, fun j hj => hM.core_lt hj⟩
 have HOP : Hid (e.op = 6) := hop
 have H_hi := hI_ hi
 have H_hid := hI_ hid
 have H_hj := hI_ hj
 have H_hjd := hI_ hjd
 have H_hij := hI_ hij
 have H_hm := hI_ hm
 clear hi hid hj hjd hij hm
 clear b0 b1 V00 V0 hn0 hM T hB hop
 go_enter func55, ntmps55
 go_upto_region 2 with (refine stA rfl 28 _ _ rfl (w.heap.size + 1) (by rfl) ([.int .i64 0, .int .i64 0, .int .i64 0, .int .i64 0, .int .i64 0, .int .i64 0, .int .i64 0, .int .i64 0] : List Value) [.int .i64 e.n0, .int .i64 e.n1, .int .i64 e.n2, .int .i64 e.n3, .int .i64 e.n4, .int .i64 e.n5, .int .i64 e.n6, .int .i64 e.n7] (by rfl) 28 HN0.out bg rfl (aD e) ?_; intro w1 hv1 hu1)
 have hb1 := hu1.bel HB0.out (by omega)
 have HM_1 : Hid (MD w1 B F M) := HH.out.1.step hb1
 have HT_1 : Hid (TBL w1) := HH.out.2.step hb1
 have BB_1 := hI_ hb1
 have HE_1 : Hid (VA w1 w.heap.size (e.cells tv) 31) := HE0.out.upd hu1 (by omega)
 have HN_1 : Hid (VA w1 (w.heap.size + 1) [.int .i64 e.n0, .int .i64 e.n1, .int .i64 e.n2, .int .i64 e.n3, .int .i64 e.n4, .int .i64 e.n5, .int .i64 e.n6, .int .i64 e.n7] 28) := hv1
 have y : w1.cell? ⟨w.heap.size, 0, none⟩ = some (.int .u8 6) := by have := HE_1.out.cell 0 (v := .int .u8 (e.op : Int)) rfl; rw [HOP.out] at this; exact this
 clear hb1 hv1 hu1 HN0 HE0 HB0 HH y0 y1 y2 y3 y4 y5 y6 y7
 go_upto_region 15 with fail
 clear y
 refine wp_region_noPanic ?_
 refine wp_region_held_drew (S := fun V => VA V (w.heap.size + 1) [.int .i64 e.n0, .int .i64 e.n1, .int .i64 e.n2, .int .i64 e.n3, .int .i64 e.n4, .int .i64 e.n5, .int .i64 e.n6, .int .i64 e.n7] 28) (by kernel_rfl) (HN_1.out.drew) ?_
 intro hh_
 have bz := (Below.refl w1.heap.size w1).drew
 have HM_z := hI_ (HM_1.out.step bz)
 have HT_z := hI_ (HT_1.out.step bz)
 have HN_z := hI_ (HN_1.out.step bz)
 have BB_z := hI_ (BB_1.out.trans (bz.mono BB_1.out.size))
 generalize w1.drew = wz at *
 clear bz
 refine tK 0 64 (.pointer (some ⟨F.pm, 0, none⟩)) (by exact rfl) (Or.inl ⟨by rfl, ?_⟩) ?_
 ·intro wq hS
  go_simp
 try simp only [nrm]
 refine tK 1 65 (.pointer (some ⟨F.pm, 0, none⟩)) (by exact rfl) (Or.inl ⟨by rfl, ?_⟩) ?_
 ·intro wq hS
  go_simp
 try simp only [nrm]
 refine tK 2 66 (.pointer (some ⟨w.heap.size + 1, 0, none⟩)) (by exact rfl) (Or.inl ⟨by rfl, ?_⟩) ?_
 ·intro wq hS
  go_simp
 try simp only [nrm]
 refine tK 3 67 (.int .i64 e.n0) (by exact rfl) (Or.inl ⟨by rfl, ?_⟩) ?_
 ·intro wq hS
  have c := VA.cell hS 0 (v := .int .i64 e.n0) rfl
  go_simp
 try simp only [nrm]
 refine tK 5 69 (.pointer (some ⟨F.pm, 0, none⟩)) (by exact rfl) (Or.inl ⟨by rfl, ?_⟩) ?_
 ·intro wq hS
  go_simp
 try simp only [nrm]
 refine tK 6 70 (.pointer (some ⟨w.heap.size + 1, 1, none⟩)) (by exact rfl) (Or.inl ⟨by rfl, ?_⟩) ?_
 ·intro wq hS
  go_simp
 try simp only [nrm]
 refine tK 7 71 (.int .i64 e.n1) (by exact rfl) (Or.inl ⟨by rfl, ?_⟩) ?_
 ·intro wq hS
  have c := VA.cell hS 1 (v := .int .i64 e.n1) rfl
  go_simp
 try simp only [nrm]
 refine tK 9 73 (.pointer (some ⟨w.heap.size + 1, 2, none⟩)) (by exact rfl) (Or.inl ⟨by rfl, ?_⟩) ?_
 ·intro wq hS
  go_simp
 try simp only [nrm]
 refine tK 10 74 (.int .i64 e.n2) (by exact rfl) (Or.inl ⟨by rfl, ?_⟩) ?_
 ·intro wq hS
  have c := VA.cell hS 2 (v := .int .i64 e.n2) rfl
  go_simp
 try simp only [nrm]
 clear hh_
 refine rdy 4 (fun K hK => ?_)
 go_simp
 refine Calls.mono (bE wz B F M HM_z.out H_hi.out H_hid.out) ?_
 rintro e wq ⟨rfl, hwq⟩
 obtain rfl := hwq.symm
 clear hwq
 go_wp2_with fail
 refine hK.out _ _ (HN_z.out) (fun hh_ => ?_)
 try simp only [nrm]
 clear hK K
 clear hh_
 refine rdy 8 (fun K hK => ?_)
 go_simp
 refine Calls.mono (bE wz B F M HM_z.out H_hj.out H_hjd.out) ?_
 rintro e wq ⟨rfl, hwq⟩
 obtain rfl := hwq.symm
 clear hwq
 go_wp2_with fail
 refine hK.out _ _ (HN_z.out) (fun hh_ => ?_)
 try simp only [nrm]
 clear hK K
 clear hh_
 refine rdy 11 (fun K hK => ?_)
 go_simp
 refine (je wz B F M HM_z.out HT_z.out HQ.out.1 i j a b x y H_hi.out H_hj.out H_hij.out e.n2 (by omega) (by omega) v1 v2 u1 u2 H_hm.out).mono ?_
 rintro r w4 ⟨rfl, h1, h2⟩
 have HM_4 : Hid (MD w4 B F _) := h1
 have HN_4 : Hid (VA w4 (w.heap.size + 1) [.int .i64 e.n0, .int .i64 e.n1, .int .i64 e.n2, .int .i64 e.n3, .int .i64 e.n4, .int .i64 e.n5, .int .i64 e.n6, .int .i64 e.n7] 28) := HN_z.out.but h2 (fun hj => by have := HQ.out.2 _ (iw H_hi.out.x H_hj.out.x hj); omega)
 have HB_4 : Hid (But F.core w w4) := (af BB_z.out F.core).trans h2 (fun j _ hj => iw H_hi.out.x H_hj.out.x hj)
 clear h1 h2
 go_wp2_with fail
 refine hK.out _ _ HN_4.out (fun hh_ => ?_)
 try simp only [nrm]
 clear hK K hh_
 refine wpAnyH_done (by kernel_rfl) ?_ _
 refine NoPanic.normal ?_
 go_wp2_with fail
 exact bodyPost_end (v := .tuple #[]) (by simp [results, results55, go_sem]) rfl ⟨rfl, HM_4.out, HB_4.out⟩
set_option maxRecDepth 100000 in
theorem oO (w : World) (B : Nat) (F : FB) (M : PM) (hM : MD w B F M) (T : TBL w) (hB : 6 ≤ B) (e : EV) (tv : Value) (hop : e.op = 7) (i : Nat) (a : PA) (x : Nat × Nat) (hi : IsA F M i a x) (hid : a.id = e.n0) (n1 : 1 ≤ e.n2) (n2 : e.n2 ≤ 10000000000000) (hk : 1 ≤ e.n1 ∧ e.n1 ≤ 1000000000) (h0 : lkA a.hs e.n1 = none) (hl : a.hs.length < 64) (hh : a.held + e.n2 ≤ 20000000000000) :
  Calls prog 55 #[.pointer (some ⟨F.pm, 0, none⟩), .agg (e.cells tv).toArray] w fun r w' => r = .returned (.tuple #[]) ∧ MD w' B F ({ M with al := M.al.set i (heldA a e.n1 e.n2) }) ∧ But F.core w w' := by
 have b0 := (Below.refl w.heap.size w).alloc (Nat.le_refl _) (.cells (e.cells tv).toArray 31)
 have b1 := b0.alloc (by simp) (.cells #[.int .i64 0, .int .i64 0, .int .i64 0, .int .i64 0, .int .i64 0, .int .i64 0, .int .i64 0, .int .i64 0] 28)
 have V00 := aa w (e.cells tv) 31
 have V0 := V00.alloc (.cells #[.int .i64 0, .int .i64 0, .int .i64 0, .int .i64 0, .int .i64 0, .int .i64 0, .int .i64 0, .int .i64 0] 28)
 have hn0 := aa (w.alloc (.cells (e.cells tv).toArray 31)) ([.int .i64 0, .int .i64 0, .int .i64 0, .int .i64 0, .int .i64 0, .int .i64 0, .int .i64 0, .int .i64 0] : List Value) 28
 rw [World.size_alloc] at hn0
 have HN0 := hI_ hn0
 have y0 := V00.cell 2 (v := .int .i64 e.n0) rfl
 have y1 := V00.cell 3 (v := .int .i64 e.n1) rfl
 have y2 := V00.cell 4 (v := .int .i64 e.n2) rfl
 have y3 := V00.cell 5 (v := .int .i64 e.n3) rfl
 have y4 := V00.cell 6 (v := .int .i64 e.n4) rfl
 have y5 := V00.cell 7 (v := .int .i64 e.n5) rfl
 have y6 := V00.cell 8 (v := .int .i64 e.n6) rfl
 have y7 := V00.cell 9 (v := .int .i64 e.n7) rfl
 have HE0 := hI_ V0
 have HB0 := hI_ b1
 have HH : Hid (MD w B F M ∧ TBL w) := ⟨hM, T⟩
 have HQ : Hid (6 ≤ B ∧ ∀ j, F.core j → j < w.heap.size) := ⟨hB, fun j hj => hM.core_lt hj⟩
 have HOP : Hid (e.op = 7) := hop
 have H_hi := hI_ hi
 have H_hid := hI_ hid
 have H_hk := hI_ hk
 have H_h0 := hI_ h0
 have H_hl := hI_ hl
 have H_hh := hI_ hh
 clear hi hid hk h0 hl hh
 clear b0 b1 V00 V0 hn0 hM T hB hop
 go_enter func55, ntmps55
 go_upto_region 2 with (refine stA rfl 28 _ _ rfl (w.heap.size + 1) (by rfl) ([.int .i64 0, .int .i64 0, .int .i64 0, .int .i64 0, .int .i64 0, .int .i64 0, .int .i64 0, .int .i64 0] : List Value) [.int .i64 e.n0, .int .i64 e.n1, .int .i64 e.n2, .int .i64 e.n3, .int .i64 e.n4, .int .i64 e.n5, .int .i64 e.n6, .int .i64 e.n7] (by rfl) 28 HN0.out bg rfl (aD e) ?_; intro w1 hv1 hu1)
 have hb1 := hu1.bel HB0.out (by omega)
 have HM_1 : Hid (MD w1 B F M) := HH.out.1.step hb1
 have HT_1 : Hid (TBL w1) := HH.out.2.step hb1
 have BB_1 := hI_ hb1
 have HE_1 : Hid (VA w1 w.heap.size (e.cells tv) 31) := HE0.out.upd hu1 (by omega)
 have HN_1 : Hid (VA w1 (w.heap.size + 1) [.int .i64 e.n0, .int .i64 e.n1, .int .i64 e.n2, .int .i64 e.n3, .int .i64 e.n4, .int .i64 e.n5, .int .i64 e.n6, .int .i64 e.n7] 28) := hv1
 have y : w1.cell? ⟨w.heap.size, 0, none⟩ = some (.int .u8 7) := by have := HE_1.out.cell 0 (v := .int .u8 (e.op : Int)) rfl; rw [HOP.out] at this; exact this
 clear hb1 hv1 hu1 HN0 HE0 HB0 HH y0 y1 y2 y3 y4 y5 y6 y7
 go_upto_region 17 with fail
 clear y
 refine wp_region_noPanic ?_
 refine wp_region_held_drew (S := fun V => VA V (w.heap.size + 1) [.int .i64 e.n0, .int .i64 e.n1, .int .i64 e.n2, .int .i64 e.n3, .int .i64 e.n4, .int .i64 e.n5, .int .i64 e.n6, .int .i64 e.n7] 28) (by kernel_rfl) (HN_1.out.drew) ?_
 intro hh_
 have bz := (Below.refl w1.heap.size w1).drew
 have HM_z := hI_ (HM_1.out.step bz)
 have HT_z := hI_ (HT_1.out.step bz)
 have HN_z := hI_ (HN_1.out.step bz)
 have BB_z := hI_ (BB_1.out.trans (bz.mono BB_1.out.size))
 generalize w1.drew = wz at *
 clear bz
 refine tK 0 78 (.pointer (some ⟨F.pm, 0, none⟩)) (by exact rfl) (Or.inl ⟨by rfl, ?_⟩) ?_
 ·intro wq hS
  go_simp
 try simp only [nrm]
 refine tK 1 79 (.pointer (some ⟨w.heap.size + 1, 0, none⟩)) (by exact rfl) (Or.inl ⟨by rfl, ?_⟩) ?_
 ·intro wq hS
  go_simp
 try simp only [nrm]
 refine tK 2 80 (.int .i64 e.n0) (by exact rfl) (Or.inl ⟨by rfl, ?_⟩) ?_
 ·intro wq hS
  have c := VA.cell hS 0 (v := .int .i64 e.n0) rfl
  go_simp
 try simp only [nrm]
 refine tK 4 82 (.pointer (some ⟨w.heap.size + 1, 1, none⟩)) (by exact rfl) (Or.inl ⟨by rfl, ?_⟩) ?_
 ·intro wq hS
  go_simp
 try simp only [nrm]
 refine tK 5 83 (.int .i64 e.n1) (by exact rfl) (Or.inl ⟨by rfl, ?_⟩) ?_
 ·intro wq hS
  have c := VA.cell hS 1 (v := .int .i64 e.n1) rfl
  go_simp
 try simp only [nrm]
 refine tK 6 84 (.pointer (some ⟨w.heap.size + 1, 2, none⟩)) (by exact rfl) (Or.inl ⟨by rfl, ?_⟩) ?_
 ·intro wq hS
  go_simp
 try simp only [nrm]
 refine tK 7 85 (.int .i64 e.n2) (by exact rfl) (Or.inl ⟨by rfl, ?_⟩) ?_
 ·intro wq hS
  have c := VA.cell hS 2 (v := .int .i64 e.n2) rfl
  go_simp
 try simp only [nrm]
 clear hh_
 refine rdy 3 (fun K hK => ?_)
 go_simp
 refine Calls.mono (bE wz B F M HM_z.out H_hi.out H_hid.out) ?_
 rintro e wq ⟨rfl, hwq⟩
 obtain rfl := hwq.symm
 clear hwq
 go_wp2_with fail
 refine hK.out _ _ (HN_z.out) (fun hh_ => ?_)
 try simp only [nrm]
 clear hK K
 clear hh_
 refine rdy 8 (fun K hK => ?_)
 go_simp
 refine (pr wz B F M HM_z.out i a x H_hi.out e.n1 e.n2 H_hk.out n1 n2 H_h0.out H_hl.out H_hh.out).mono ?_
 rintro r w4 ⟨rfl, h1, h2⟩
 have HM_4 : Hid (MD w4 B F _) := h1
 have HN_4 : Hid (VA w4 (w.heap.size + 1) [.int .i64 e.n0, .int .i64 e.n1, .int .i64 e.n2, .int .i64 e.n3, .int .i64 e.n4, .int .i64 e.n5, .int .i64 e.n6, .int .i64 e.n7] 28) := HN_z.out.but h2 (fun hj => by have := HQ.out.2 _ (fM H_hi.out.x hj); omega)
 have HB_4 : Hid (But F.core w w4) := (af BB_z.out F.core).trans h2 (fun j _ hj => fM H_hi.out.x hj)
 clear h1 h2
 go_wp2_with fail
 refine hK.out _ _ HN_4.out (fun hh_ => ?_)
 try simp only [nrm]
 clear hK K hh_
 refine wpAnyH_done (by kernel_rfl) ?_ _
 refine NoPanic.normal ?_
 go_wp2_with fail
 exact bodyPost_end (v := .tuple #[]) (by simp [results, results55, go_sem]) rfl ⟨rfl, HM_4.out, HB_4.out⟩
set_option maxRecDepth 100000 in
theorem oP (w : World) (B : Nat) (F : FB) (M : PM) (hM : MD w B F M) (T : TBL w) (hB : 6 ≤ B) (e : EV) (tv : Value) (hop : e.op = 8) (i : Nat) (a : PA) (x : Nat × Nat) (hi : IsA F M i a x) (hid : a.id = e.n0) (z : Int) (h0 : lkA a.hs e.n1 = some z) :
  Calls prog 55 #[.pointer (some ⟨F.pm, 0, none⟩), .agg (e.cells tv).toArray] w fun r w' => r = .returned (.tuple #[]) ∧ MD w' B F ({ M with al := M.al.set i (freedA a e.n1 z) }) ∧ But F.core w w' := by
 have b0 := (Below.refl w.heap.size w).alloc (Nat.le_refl _) (.cells (e.cells tv).toArray 31)
 have b1 := b0.alloc (by simp) (.cells #[.int .i64 0, .int .i64 0, .int .i64 0, .int .i64 0, .int .i64 0, .int .i64 0, .int .i64 0, .int .i64 0] 28)
 have V00 := aa w (e.cells tv) 31
 have V0 := V00.alloc (.cells #[.int .i64 0, .int .i64 0, .int .i64 0, .int .i64 0, .int .i64 0, .int .i64 0, .int .i64 0, .int .i64 0] 28)
 have hn0 := aa (w.alloc (.cells (e.cells tv).toArray 31)) ([.int .i64 0, .int .i64 0, .int .i64 0, .int .i64 0, .int .i64 0, .int .i64 0, .int .i64 0, .int .i64 0] : List Value) 28
 rw [World.size_alloc] at hn0
 have HN0 := hI_ hn0
 have y0 := V00.cell 2 (v := .int .i64 e.n0) rfl
 have y1 := V00.cell 3 (v := .int .i64 e.n1) rfl
 have y2 := V00.cell 4 (v := .int .i64 e.n2) rfl
 have y3 := V00.cell 5 (v := .int .i64 e.n3) rfl
 have y4 := V00.cell 6 (v := .int .i64 e.n4) rfl
 have y5 := V00.cell 7 (v := .int .i64 e.n5) rfl
 have y6 := V00.cell 8 (v := .int .i64 e.n6) rfl
 have y7 := V00.cell 9 (v := .int .i64 e.n7) rfl
 have HE0 := hI_ V0
 have HB0 := hI_ b1
 have HH : Hid (MD w B F M ∧ TBL w) := ⟨hM, T⟩
 have HQ : Hid (6 ≤ B ∧ ∀ j, F.core j → j < w.heap.size) := ⟨hB, fun j hj => hM.core_lt hj⟩
 have HOP : Hid (e.op = 8) := hop
 have H_hi := hI_ hi
 have H_hid := hI_ hid
 have H_h0 := hI_ h0
 clear hi hid h0
 clear b0 b1 V00 V0 hn0 hM T hB hop
 go_enter func55, ntmps55
 go_upto_region 2 with (refine stA rfl 28 _ _ rfl (w.heap.size + 1) (by rfl) ([.int .i64 0, .int .i64 0, .int .i64 0, .int .i64 0, .int .i64 0, .int .i64 0, .int .i64 0, .int .i64 0] : List Value) [.int .i64 e.n0, .int .i64 e.n1, .int .i64 e.n2, .int .i64 e.n3, .int .i64 e.n4, .int .i64 e.n5, .int .i64 e.n6, .int .i64 e.n7] (by rfl) 28 HN0.out bg rfl (aD e) ?_; intro w1 hv1 hu1)
 have hb1 := hu1.bel HB0.out (by omega)
 have HM_1 : Hid (MD w1 B F M) := HH.out.1.step hb1
 have HT_1 : Hid (TBL w1) := HH.out.2.step hb1
 have BB_1 := hI_ hb1
 have HE_1 : Hid (VA w1 w.heap.size (e.cells tv) 31) := HE0.out.upd hu1 (by omega)
 have HN_1 : Hid (VA w1 (w.heap.size + 1) [.int .i64 e.n0, .int .i64 e.n1, .int .i64 e.n2, .int .i64 e.n3, .int .i64 e.n4, .int .i64 e.n5, .int .i64 e.n6, .int .i64 e.n7] 28) := hv1
 have y : w1.cell? ⟨w.heap.size, 0, none⟩ = some (.int .u8 8) := by have := HE_1.out.cell 0 (v := .int .u8 (e.op : Int)) rfl; rw [HOP.out] at this; exact this
 clear hb1 hv1 hu1 HN0 HE0 HB0 HH y0 y1 y2 y3 y4 y5 y6 y7
 go_upto_region 19 with fail
 clear y
 refine wp_region_noPanic ?_
 refine wp_region_held_drew (S := fun V => VA V (w.heap.size + 1) [.int .i64 e.n0, .int .i64 e.n1, .int .i64 e.n2, .int .i64 e.n3, .int .i64 e.n4, .int .i64 e.n5, .int .i64 e.n6, .int .i64 e.n7] 28) (by kernel_rfl) (HN_1.out.drew) ?_
 intro hh_
 have bz := (Below.refl w1.heap.size w1).drew
 have HM_z := hI_ (HM_1.out.step bz)
 have HT_z := hI_ (HT_1.out.step bz)
 have HN_z := hI_ (HN_1.out.step bz)
 have BB_z := hI_ (BB_1.out.trans (bz.mono BB_1.out.size))
 generalize w1.drew = wz at *
 clear bz
 refine tK 0 89 (.pointer (some ⟨F.pm, 0, none⟩)) (by exact rfl) (Or.inl ⟨by rfl, ?_⟩) ?_
 ·intro wq hS
  go_simp
 try simp only [nrm]
 refine tK 1 90 (.pointer (some ⟨w.heap.size + 1, 0, none⟩)) (by exact rfl) (Or.inl ⟨by rfl, ?_⟩) ?_
 ·intro wq hS
  go_simp
 try simp only [nrm]
 refine tK 2 91 (.int .i64 e.n0) (by exact rfl) (Or.inl ⟨by rfl, ?_⟩) ?_
 ·intro wq hS
  have c := VA.cell hS 0 (v := .int .i64 e.n0) rfl
  go_simp
 try simp only [nrm]
 refine tK 4 93 (.pointer (some ⟨w.heap.size + 1, 1, none⟩)) (by exact rfl) (Or.inl ⟨by rfl, ?_⟩) ?_
 ·intro wq hS
  go_simp
 try simp only [nrm]
 refine tK 5 94 (.int .i64 e.n1) (by exact rfl) (Or.inl ⟨by rfl, ?_⟩) ?_
 ·intro wq hS
  have c := VA.cell hS 1 (v := .int .i64 e.n1) rfl
  go_simp
 try simp only [nrm]
 clear hh_
 refine rdy 3 (fun K hK => ?_)
 go_simp
 refine Calls.mono (bE wz B F M HM_z.out H_hi.out H_hid.out) ?_
 rintro e wq ⟨rfl, hwq⟩
 obtain rfl := hwq.symm
 clear hwq
 go_wp2_with fail
 refine hK.out _ _ (HN_z.out) (fun hh_ => ?_)
 try simp only [nrm]
 clear hK K
 clear hh_
 refine rdy 6 (fun K hK => ?_)
 go_simp
 refine (pq wz B F M HM_z.out i a x H_hi.out e.n1 z H_h0.out).mono ?_
 rintro r w4 ⟨rfl, h1, h2⟩
 have HM_4 : Hid (MD w4 B F _) := h1
 have HN_4 : Hid (VA w4 (w.heap.size + 1) [.int .i64 e.n0, .int .i64 e.n1, .int .i64 e.n2, .int .i64 e.n3, .int .i64 e.n4, .int .i64 e.n5, .int .i64 e.n6, .int .i64 e.n7] 28) := HN_z.out.but h2 (fun hj => by have := HQ.out.2 _ (fM H_hi.out.x hj); omega)
 have HB_4 : Hid (But F.core w w4) := (af BB_z.out F.core).trans h2 (fun j _ hj => fM H_hi.out.x hj)
 clear h1 h2
 go_wp2_with fail
 refine hK.out _ _ HN_4.out (fun hh_ => ?_)
 try simp only [nrm]
 clear hK K hh_
 refine wpAnyH_done (by kernel_rfl) ?_ _
 refine NoPanic.normal ?_
 go_wp2_with fail
 exact bodyPost_end (v := .tuple #[]) (by simp [results, results55, go_sem]) rfl ⟨rfl, HM_4.out, HB_4.out⟩
set_option maxRecDepth 100000 in
theorem oQ (w : World) (B : Nat) (F : FB) (M : PM) (hM : MD w B F M) (T : TBL w) (hB : 6 ≤ B) (e : EV) (tv : Value) (hop : e.op = 9) (i : Nat) (a : PA) (x : Nat × Nat) (hi : IsA F M i a x) (hid : a.id = e.n0) (j : Nat) (b : PA) (y : Nat × Nat) (hj : IsA F M j b y) (hjd : b.id = e.n1) (hij : i ≠ j) (n1 : 1 ≤ e.n2) (n2 : e.n2 ≤ 10000000000000) (v1 : -10000000000000 ≤ a.bal + e.n2) (v2 : a.bal + e.n2 ≤ 10000000000000) (u1 : -10000000000000 ≤ b.bal + e.n2) (u2 : b.bal + e.n2 ≤ 10000000000000) (hm : 0 ≤ M.n ∧ M.n ≤ 4611686018427387904) :
  Calls prog 55 #[.pointer (some ⟨F.pm, 0, none⟩), .agg (e.cells tv).toArray] w fun r w' => r = .returned (.tuple #[]) ∧ MD w' B F (twoM M i a (a.bal + e.n2) j b (b.bal + e.n2) 3 2 e.n2) ∧ But F.core w w' := by
 have b0 := (Below.refl w.heap.size w).alloc (Nat.le_refl _) (.cells (e.cells tv).toArray 31)
 have b1 := b0.alloc (by simp) (.cells #[.int .i64 0, .int .i64 0, .int .i64 0, .int .i64 0, .int .i64 0, .int .i64 0, .int .i64 0, .int .i64 0] 28)
 have V00 := aa w (e.cells tv) 31
 have V0 := V00.alloc (.cells #[.int .i64 0, .int .i64 0, .int .i64 0, .int .i64 0, .int .i64 0, .int .i64 0, .int .i64 0, .int .i64 0] 28)
 have hn0 := aa (w.alloc (.cells (e.cells tv).toArray 31)) ([.int .i64 0, .int .i64 0, .int .i64 0, .int .i64 0, .int .i64 0, .int .i64 0, .int .i64 0, .int .i64 0] : List Value) 28
 rw [World.size_alloc] at hn0
 have HN0 := hI_ hn0
 have y0 := V00.cell 2 (v := .int .i64 e.n0) rfl
 have y1 := V00.cell 3 (v := .int .i64 e.n1) rfl
 have y2 := V00.cell 4 (v := .int .i64 e.n2) rfl
 have y3 := V00.cell 5 (v := .int .i64 e.n3) rfl
 have y4 := V00.cell 6 (v := .int .i64 e.n4) rfl
 have y5 := V00.cell 7 (v := .int .i64 e.n5) rfl
 have y6 := V00.cell 8 (v := .int .i64 e.n6) rfl
 have y7 := V00.cell 9 (v := .int .i64 e.n7) rfl
 have HE0 := hI_ V0
 have HB0 := hI_ b1
 have HH : Hid (MD w B F M ∧ TBL w) := ⟨hM, T⟩
 have HQ : Hid (6 ≤ B ∧ ∀ j, F.core j → j < w.heap.size) := ⟨hB, fun j hj => hM.core_lt hj⟩
 have HOP : Hid (e.op = 9) := hop
 have H_hi := hI_ hi
 have H_hid := hI_ hid
 have H_hj := hI_ hj
 have H_hjd := hI_ hjd
 have H_hij := hI_ hij
 have H_hm := hI_ hm
 clear hi hid hj hjd hij hm
 clear b0 b1 V00 V0 hn0 hM T hB hop
 go_enter func55, ntmps55
 go_upto_region 2 with (refine stA rfl 28 _ _ rfl (w.heap.size + 1) (by rfl) ([.int .i64 0, .int .i64 0, .int .i64 0, .int .i64 0, .int .i64 0, .int .i64 0, .int .i64 0, .int .i64 0] : List Value) [.int .i64 e.n0, .int .i64 e.n1, .int .i64 e.n2, .int .i64 e.n3, .int .i64 e.n4, .int .i64 e.n5, .int .i64 e.n6, .int .i64 e.n7] (by rfl) 28 HN0.out bg rfl (aD e) ?_; intro w1 hv1 hu1)
 have hb1 := hu1.bel HB0.out (by omega)
 have HM_1 : Hid (MD w1 B F M) := HH.out.1.step hb1
 have HT_1 : Hid (TBL w1) := HH.out.2.step hb1
 have BB_1 := hI_ hb1
 have HE_1 : Hid (VA w1 w.heap.size (e.cells tv) 31) := HE0.out.upd hu1 (by omega)
 have HN_1 : Hid (VA w1 (w.heap.size + 1) [.int .i64 e.n0, .int .i64 e.n1, .int .i64 e.n2, .int .i64 e.n3, .int .i64 e.n4, .int .i64 e.n5, .int .i64 e.n6, .int .i64 e.n7] 28) := hv1
 have y : w1.cell? ⟨w.heap.size, 0, none⟩ = some (.int .u8 9) := by have := HE_1.out.cell 0 (v := .int .u8 (e.op : Int)) rfl; rw [HOP.out] at this; exact this
 clear hb1 hv1 hu1 HN0 HE0 HB0 HH y0 y1 y2 y3 y4 y5 y6 y7
 go_upto_region 21 with fail
 clear y
 refine wp_region_noPanic ?_
 refine wp_region_held_drew (S := fun V => VA V (w.heap.size + 1) [.int .i64 e.n0, .int .i64 e.n1, .int .i64 e.n2, .int .i64 e.n3, .int .i64 e.n4, .int .i64 e.n5, .int .i64 e.n6, .int .i64 e.n7] 28) (by kernel_rfl) (HN_1.out.drew) ?_
 intro hh_
 have bz := (Below.refl w1.heap.size w1).drew
 have HM_z := hI_ (HM_1.out.step bz)
 have HT_z := hI_ (HT_1.out.step bz)
 have HN_z := hI_ (HN_1.out.step bz)
 have BB_z := hI_ (BB_1.out.trans (bz.mono BB_1.out.size))
 generalize w1.drew = wz at *
 clear bz
 refine tK 0 98 (.pointer (some ⟨F.pm, 0, none⟩)) (by exact rfl) (Or.inl ⟨by rfl, ?_⟩) ?_
 ·intro wq hS
  go_simp
 try simp only [nrm]
 refine tK 1 99 (.pointer (some ⟨F.pm, 0, none⟩)) (by exact rfl) (Or.inl ⟨by rfl, ?_⟩) ?_
 ·intro wq hS
  go_simp
 try simp only [nrm]
 refine tK 2 100 (.pointer (some ⟨w.heap.size + 1, 0, none⟩)) (by exact rfl) (Or.inl ⟨by rfl, ?_⟩) ?_
 ·intro wq hS
  go_simp
 try simp only [nrm]
 refine tK 3 101 (.int .i64 e.n0) (by exact rfl) (Or.inl ⟨by rfl, ?_⟩) ?_
 ·intro wq hS
  have c := VA.cell hS 0 (v := .int .i64 e.n0) rfl
  go_simp
 try simp only [nrm]
 refine tK 5 103 (.pointer (some ⟨F.pm, 0, none⟩)) (by exact rfl) (Or.inl ⟨by rfl, ?_⟩) ?_
 ·intro wq hS
  go_simp
 try simp only [nrm]
 refine tK 6 104 (.pointer (some ⟨w.heap.size + 1, 1, none⟩)) (by exact rfl) (Or.inl ⟨by rfl, ?_⟩) ?_
 ·intro wq hS
  go_simp
 try simp only [nrm]
 refine tK 7 105 (.int .i64 e.n1) (by exact rfl) (Or.inl ⟨by rfl, ?_⟩) ?_
 ·intro wq hS
  have c := VA.cell hS 1 (v := .int .i64 e.n1) rfl
  go_simp
 try simp only [nrm]
 refine tK 9 107 (.pointer (some ⟨w.heap.size + 1, 2, none⟩)) (by exact rfl) (Or.inl ⟨by rfl, ?_⟩) ?_
 ·intro wq hS
  go_simp
 try simp only [nrm]
 refine tK 10 108 (.int .i64 e.n2) (by exact rfl) (Or.inl ⟨by rfl, ?_⟩) ?_
 ·intro wq hS
  have c := VA.cell hS 2 (v := .int .i64 e.n2) rfl
  go_simp
 try simp only [nrm]
 clear hh_
 refine rdy 4 (fun K hK => ?_)
 go_simp
 refine Calls.mono (bE wz B F M HM_z.out H_hi.out H_hid.out) ?_
 rintro e wq ⟨rfl, hwq⟩
 obtain rfl := hwq.symm
 clear hwq
 go_wp2_with fail
 refine hK.out _ _ (HN_z.out) (fun hh_ => ?_)
 try simp only [nrm]
 clear hK K
 clear hh_
 refine rdy 8 (fun K hK => ?_)
 go_simp
 refine Calls.mono (bE wz B F M HM_z.out H_hj.out H_hjd.out) ?_
 rintro e wq ⟨rfl, hwq⟩
 obtain rfl := hwq.symm
 clear hwq
 go_wp2_with fail
 refine hK.out _ _ (HN_z.out) (fun hh_ => ?_)
 try simp only [nrm]
 clear hK K
 clear hh_
 refine rdy 11 (fun K hK => ?_)
 go_simp
 refine (jW wz B F M HM_z.out HT_z.out HQ.out.1 i j a b x y H_hi.out H_hj.out H_hij.out e.n2 (by omega) (by omega) v1 v2 u1 u2 H_hm.out).mono ?_
 rintro r w4 ⟨rfl, h1, h2⟩
 have HM_4 : Hid (MD w4 B F _) := h1
 have HN_4 : Hid (VA w4 (w.heap.size + 1) [.int .i64 e.n0, .int .i64 e.n1, .int .i64 e.n2, .int .i64 e.n3, .int .i64 e.n4, .int .i64 e.n5, .int .i64 e.n6, .int .i64 e.n7] 28) := HN_z.out.but h2 (fun hj => by have := HQ.out.2 _ (iw H_hi.out.x H_hj.out.x hj); omega)
 have HB_4 : Hid (But F.core w w4) := (af BB_z.out F.core).trans h2 (fun j _ hj => iw H_hi.out.x H_hj.out.x hj)
 clear h1 h2
 go_wp2_with fail
 refine hK.out _ _ HN_4.out (fun hh_ => ?_)
 try simp only [nrm]
 clear hK K hh_
 refine wpAnyH_done (by kernel_rfl) ?_ _
 refine NoPanic.normal ?_
 go_wp2_with fail
 exact bodyPost_end (v := .tuple #[]) (by simp [results, results55, go_sem]) rfl ⟨rfl, HM_4.out, HB_4.out⟩
set_option maxRecDepth 100000 in
theorem mQ (w : World) (B : Nat) (F : FB) (M : PM) (hM : MD w B F M) (T : TBL w) (hB : 6 ≤ B) (e : EV) (tv : Value) (hop : e.op = 10) (i : Nat) (a : PA) (x : Nat × Nat) (hi : IsA F M i a x) (hid : a.id = e.n0) (j : Nat) (b : PA) (y : Nat × Nat) (hj : IsA F M j b y) (hjd : b.id = e.n1) (hij : i ≠ j) (n1 : 1 ≤ e.n2) (n2 : e.n2 ≤ 10000000000000) (v1 : -10000000000000 ≤ a.bal + -e.n2) (v2 : a.bal + -e.n2 ≤ 10000000000000) (u1 : -10000000000000 ≤ b.bal + -e.n2) (u2 : b.bal + -e.n2 ≤ 10000000000000) (hm : 0 ≤ M.n ∧ M.n ≤ 4611686018427387904) :
  Calls prog 55 #[.pointer (some ⟨F.pm, 0, none⟩), .agg (e.cells tv).toArray] w fun r w' => r = .returned (.tuple #[]) ∧ MD w' B F (twoM M i a (a.bal + -e.n2) j b (b.bal + -e.n2) 3 2 (-e.n2)) ∧ But F.core w w' := by
 have b0 := (Below.refl w.heap.size w).alloc (Nat.le_refl _) (.cells (e.cells tv).toArray 31)
 have b1 := b0.alloc (by simp) (.cells #[.int .i64 0, .int .i64 0, .int .i64 0, .int .i64 0, .int .i64 0, .int .i64 0, .int .i64 0, .int .i64 0] 28)
 have V00 := aa w (e.cells tv) 31
 have V0 := V00.alloc (.cells #[.int .i64 0, .int .i64 0, .int .i64 0, .int .i64 0, .int .i64 0, .int .i64 0, .int .i64 0, .int .i64 0] 28)
 have hn0 := aa (w.alloc (.cells (e.cells tv).toArray 31)) ([.int .i64 0, .int .i64 0, .int .i64 0, .int .i64 0, .int .i64 0, .int .i64 0, .int .i64 0, .int .i64 0] : List Value) 28
 rw [World.size_alloc] at hn0
 have HN0 := hI_ hn0
 have y0 := V00.cell 2 (v := .int .i64 e.n0) rfl
 have y1 := V00.cell 3 (v := .int .i64 e.n1) rfl
 have y2 := V00.cell 4 (v := .int .i64 e.n2) rfl
 have y3 := V00.cell 5 (v := .int .i64 e.n3) rfl
 have y4 := V00.cell 6 (v := .int .i64 e.n4) rfl
 have y5 := V00.cell 7 (v := .int .i64 e.n5) rfl
 have y6 := V00.cell 8 (v := .int .i64 e.n6) rfl
 have y7 := V00.cell 9 (v := .int .i64 e.n7) rfl
 have HE0 := hI_ V0
 have HB0 := hI_ b1
 have HH : Hid (MD w B F M ∧ TBL w) := ⟨hM, T⟩
 have HQ : Hid (6 ≤ B ∧ ∀ j, F.core j → j < w.heap.size) := ⟨hB, fun j hj => hM.core_lt hj⟩
 have HOP : Hid (e.op = 10) := hop
 have H_hi := hI_ hi
 have H_hid := hI_ hid
 have H_hj := hI_ hj
 have H_hjd := hI_ hjd
 have H_hij := hI_ hij
 have H_hm := hI_ hm
 clear hi hid hj hjd hij hm
 clear b0 b1 V00 V0 hn0 hM T hB hop
 go_enter func55, ntmps55
 go_upto_region 2 with (refine stA rfl 28 _ _ rfl (w.heap.size + 1) (by rfl) ([.int .i64 0, .int .i64 0, .int .i64 0, .int .i64 0, .int .i64 0, .int .i64 0, .int .i64 0, .int .i64 0] : List Value) [.int .i64 e.n0, .int .i64 e.n1, .int .i64 e.n2, .int .i64 e.n3, .int .i64 e.n4, .int .i64 e.n5, .int .i64 e.n6, .int .i64 e.n7] (by rfl) 28 HN0.out bg rfl (aD e) ?_; intro w1 hv1 hu1)
 have hb1 := hu1.bel HB0.out (by omega)
 have HM_1 : Hid (MD w1 B F M) := HH.out.1.step hb1
 have HT_1 : Hid (TBL w1) := HH.out.2.step hb1
 have BB_1 := hI_ hb1
 have HE_1 : Hid (VA w1 w.heap.size (e.cells tv) 31) := HE0.out.upd hu1 (by omega)
 have HN_1 : Hid (VA w1 (w.heap.size + 1) [.int .i64 e.n0, .int .i64 e.n1, .int .i64 e.n2, .int .i64 e.n3, .int .i64 e.n4, .int .i64 e.n5, .int .i64 e.n6, .int .i64 e.n7] 28) := hv1
 have y : w1.cell? ⟨w.heap.size, 0, none⟩ = some (.int .u8 10) := by have := HE_1.out.cell 0 (v := .int .u8 (e.op : Int)) rfl; rw [HOP.out] at this; exact this
 clear hb1 hv1 hu1 HN0 HE0 HB0 HH y0 y1 y2 y3 y4 y5 y6 y7
 go_upto_region 23 with fail
 clear y
 refine wp_region_noPanic ?_
 refine wp_region_held_drew (S := fun V => VA V (w.heap.size + 1) [.int .i64 e.n0, .int .i64 e.n1, .int .i64 e.n2, .int .i64 e.n3, .int .i64 e.n4, .int .i64 e.n5, .int .i64 e.n6, .int .i64 e.n7] 28) (by kernel_rfl) (HN_1.out.drew) ?_
 intro hh_
 have bz := (Below.refl w1.heap.size w1).drew
 have HM_z := hI_ (HM_1.out.step bz)
 have HT_z := hI_ (HT_1.out.step bz)
 have HN_z := hI_ (HN_1.out.step bz)
 have BB_z := hI_ (BB_1.out.trans (bz.mono BB_1.out.size))
 generalize w1.drew = wz at *
 clear bz
 refine tK 0 112 (.pointer (some ⟨F.pm, 0, none⟩)) (by exact rfl) (Or.inl ⟨by rfl, ?_⟩) ?_
 ·intro wq hS
  go_simp
 try simp only [nrm]
 refine tK 1 113 (.pointer (some ⟨F.pm, 0, none⟩)) (by exact rfl) (Or.inl ⟨by rfl, ?_⟩) ?_
 ·intro wq hS
  go_simp
 try simp only [nrm]
 refine tK 2 114 (.pointer (some ⟨w.heap.size + 1, 0, none⟩)) (by exact rfl) (Or.inl ⟨by rfl, ?_⟩) ?_
 ·intro wq hS
  go_simp
 try simp only [nrm]
 refine tK 3 115 (.int .i64 e.n0) (by exact rfl) (Or.inl ⟨by rfl, ?_⟩) ?_
 ·intro wq hS
  have c := VA.cell hS 0 (v := .int .i64 e.n0) rfl
  go_simp
 try simp only [nrm]
 refine tK 5 117 (.pointer (some ⟨F.pm, 0, none⟩)) (by exact rfl) (Or.inl ⟨by rfl, ?_⟩) ?_
 ·intro wq hS
  go_simp
 try simp only [nrm]
 refine tK 6 118 (.pointer (some ⟨w.heap.size + 1, 1, none⟩)) (by exact rfl) (Or.inl ⟨by rfl, ?_⟩) ?_
 ·intro wq hS
  go_simp
 try simp only [nrm]
 refine tK 7 119 (.int .i64 e.n1) (by exact rfl) (Or.inl ⟨by rfl, ?_⟩) ?_
 ·intro wq hS
  have c := VA.cell hS 1 (v := .int .i64 e.n1) rfl
  go_simp
 try simp only [nrm]
 refine tK 9 121 (.pointer (some ⟨w.heap.size + 1, 2, none⟩)) (by exact rfl) (Or.inl ⟨by rfl, ?_⟩) ?_
 ·intro wq hS
  go_simp
 try simp only [nrm]
 refine tK 10 122 (.int .i64 e.n2) (by exact rfl) (Or.inl ⟨by rfl, ?_⟩) ?_
 ·intro wq hS
  have c := VA.cell hS 2 (v := .int .i64 e.n2) rfl
  go_simp
 try simp only [nrm]
 refine tK 11 123 (.int .i64 (-e.n2)) (by exact rfl) (Or.inl ⟨by rfl, ?_⟩) ?_
 ·intro wq hS
  go_simp
  try (rw [IntKind.wrap_i64]; omega)
 try simp only [nrm]
 clear hh_
 refine rdy 4 (fun K hK => ?_)
 go_simp
 refine Calls.mono (bE wz B F M HM_z.out H_hi.out H_hid.out) ?_
 rintro e wq ⟨rfl, hwq⟩
 obtain rfl := hwq.symm
 clear hwq
 go_wp2_with fail
 refine hK.out _ _ (HN_z.out) (fun hh_ => ?_)
 try simp only [nrm]
 clear hK K
 clear hh_
 refine rdy 8 (fun K hK => ?_)
 go_simp
 refine Calls.mono (bE wz B F M HM_z.out H_hj.out H_hjd.out) ?_
 rintro e wq ⟨rfl, hwq⟩
 obtain rfl := hwq.symm
 clear hwq
 go_wp2_with fail
 refine hK.out _ _ (HN_z.out) (fun hh_ => ?_)
 try simp only [nrm]
 clear hK K
 clear hh_
 refine rdy 12 (fun K hK => ?_)
 go_simp
 refine (jW wz B F M HM_z.out HT_z.out HQ.out.1 i j a b x y H_hi.out H_hj.out H_hij.out (-e.n2) (by omega) (by omega) v1 v2 u1 u2 H_hm.out).mono ?_
 rintro r w4 ⟨rfl, h1, h2⟩
 have HM_4 : Hid (MD w4 B F _) := h1
 have HN_4 : Hid (VA w4 (w.heap.size + 1) [.int .i64 e.n0, .int .i64 e.n1, .int .i64 e.n2, .int .i64 e.n3, .int .i64 e.n4, .int .i64 e.n5, .int .i64 e.n6, .int .i64 e.n7] 28) := HN_z.out.but h2 (fun hj => by have := HQ.out.2 _ (iw H_hi.out.x H_hj.out.x hj); omega)
 have HB_4 : Hid (But F.core w w4) := (af BB_z.out F.core).trans h2 (fun j _ hj => iw H_hi.out.x H_hj.out.x hj)
 clear h1 h2
 go_wp2_with fail
 refine hK.out _ _ HN_4.out (fun hh_ => ?_)
 try simp only [nrm]
 clear hK K hh_
 refine wpAnyH_done (by kernel_rfl) ?_ _
 refine NoPanic.normal ?_
 go_wp2_with fail
 exact bodyPost_end (v := .tuple #[]) (by simp [results, results55, go_sem]) rfl ⟨rfl, HM_4.out, HB_4.out⟩
end Go.Proofs.YtjkiplndbcmmbaaGreatDoor