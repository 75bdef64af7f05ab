/- texts of the model: Mrf Moz Mrg Mrh Mri Mrm Mro -/
import Derived.Test.YtjkiplndbcmmbaaGreatDoorW34
import Derived.Test.YtjkiplndbcmmbaaGreatDoorW31
import Derived.Test.YtjkiplndbcmmbaaGreatDoorW03
import Derived.Test.YtjkiplndbcmmbaaGreatDoorW14
import Derived.Test.YtjkiplndbcmmbaaGreatDoorW12
set_option linter.unusedVariables false
set_option linter.unusedSimpArgs false
set_option maxHeartbeats 16000000
set_option maxRecDepth 100000
namespace Go.Proofs.YtjkiplndbcmmbaaGreatDoor
open Tryz
open Go.RowKit Go.Maps
def gotM (M : PM) (e : EV) : Int := match acctO M e.n0, acctO M e.n1 with
 | some a, some b => (cvA M a.cur b.cur e.n2).1
 | _, _ => 0
def EX (M : PM) (e : EV) : EV := { e with n3 := gotM M e }
theorem lX {M : PM} {e : EV} {f : Bool} (h12 : e.op = 12) (h : refL M e f = 0) : e.n3 = 0 ∧ e.n0 ≠ e.n1 ∧ (1 ≤ e.n2 ∧ e.n2 ≤ 10000000000000) ∧ ∃ a b, acctO M e.n0 = some a ∧ acctO M e.n1 = some b ∧ a.opn = true ∧ a.kind = 1 ∧ b.opn = true ∧ b.kind = 1 ∧ e.n2 ≤ spend M a ∧ (cvA M a.cur b.cur e.n2).2.2 = 0 ∧ roomO (some b) (cvA M a.cur b.cur e.n2).1 = false := by
 have h0 := ri h
 have hx := h0.2.2.2.2.2
 unfold askL at hx
 simp only [h12, reduceIte, Nat.reduceEqDiff] at hx
 have h3 : e.n3 = 0 := Classical.not_not.1 fun k => h0.2.1 ⟨h12, k⟩
 unfold exchL at hx
 have key : ∀ {l : Int}, namedK M (namedK M (whn (whn 0 (beyond e.n2 10000000000000) 1) (e.n0 == e.n1) 1) e.n0 1) e.n1 1 = 0 → e.n0 ≠ e.n1 ∧ (1 ≤ e.n2 ∧ e.n2 ≤ 10000000000000) ∧ ∃ a b, acctO M e.n0 = some a ∧ acctO M e.n1 = some b ∧ a.opn = true ∧ a.kind = 1 ∧ b.opn = true ∧ b.kind = 1 := fun hn => by
  obtain ⟨k1, b, hb, hb1, hb2⟩ := namedK_0.1 hn
  obtain ⟨k2, a, ha, ha1, ha2⟩ := namedK_0.1 k1
  rw [aE (by decide), aE (by decide)] at k2
  refine ⟨by simpa using k2.2, beyond_0.1 k2.1.2, a, b, ha, hb, ha1, ?_, hb1, ?_⟩
  ·rcases ha2 with h | h
   ·cases h
   ·exact h
  ·rcases hb2 with h | h
   ·cases h
   ·exact h
 cases ha : acctO M e.n0 with
 | none =>
  rw [ha] at hx
  have hx := ((aE (by decide)).1 hx).1
  obtain ⟨_, _, a, b, h1, _⟩ := key (l := 0) hx
  rw [ha] at h1
  cases h1
 | some a =>
  rw [ha] at hx
  cases hb : acctO M e.n1 with
  | none =>
   rw [hb] at hx
   have hx := ((aE (by decide)).1 hx).1
   obtain ⟨_, _, a, b, _, h1, _⟩ := key (l := 0) hx
   rw [hb] at h1
   cases h1
  | some b =>
   rw [hb] at hx
   obtain ⟨hx, hr⟩ := (aE (by decide)).1 hx
   obtain ⟨hx, hc⟩ := wth_0.1 hx
   obtain ⟨hx, hf⟩ := (aE (by decide)).1 hx
   obtain ⟨k1, k2, a', b', h1, h2, h3', h4, h5, h6⟩ := key (l := 0) hx
   rw [ha] at h1
   rw [hb] at h2
   cases h1
   cases h2
   refine ⟨h3, k1, k2, a, b, rfl, rfl, h3', h4, h5, h6, ?_, hc, hr⟩
   unfold fundsO at hf
   rw [decide_eq_false_iff_not] at hf
   omega
theorem nh (w : World) (B : Nat) (F : FB) (M : PM) (hM : MD w B F M) (e : EV) (he : e.ok) (tv : Value) (R : Tr w tv e.ts) (hno : ∀ n c, tv = .slice none n c → c = 0) (T : TBL w) (f : Bool) (hform : f = true ↔ e.e8.form) (hyes : refL M e f = 0) (h12 : e.op = 12) (hlen : e.ts.length ≤ 8796093022208) :
  Calls prog 19 #[.pointer (some ⟨F.pm, 0, none⟩), .agg (e.cells tv).toArray] w fun r w' => (∃ u, r = .returned (.tuple #[.agg ((EX M e).cells u).toArray, .int .i64 (gotM M e), .int .i64 0]) ∧ OwnT w' w.heap.size u e.ts) ∧ Below w.heap.size w w' := by
 have e12 : ((e.op : Int) == 12) = true := by rw [h12]; rfl
 have HLEN : Hid (e.ts.length ≤ 8796093022208) := hlen
 have H12 := hI_ h12
 obtain ⟨h3, hne, hn2, a, b, ha, hb, _, _, _, _, _, hc, hr⟩ := lX h12 hyes
 obtain ⟨i, xa, hia, hida, _⟩ := hM.acct ha
 obtain ⟨j, xb, hib, hidb, _⟩ := hM.acct hb
 have HIA := hI_ hia
 have HIB := hI_ hib
 have HIDA := hI_ hida
 have HIDB := hI_ hidb
 obtain ⟨g, hg⟩ : ∃ g, g = gotM M e := ⟨_, rfl⟩
 have hcv : (cvA M a.cur b.cur e.n2).1 = g := by rw [hg]; unfold gotM; rw [ha, hb]
 have HCV := hI_ hcv
 have HCU : Hid ((0 ≤ a.cur ∧ a.cur ≤ 3) ∧ (0 ≤ b.cur ∧ b.cur ≤ 3)) := ⟨(hM.awf hia).cur, (hM.awf hib).cur⟩
 unfold EX
 rw [← hg]
 have HMw := hI_ hM
 have HTw := hI_ T
 clear h12 hlen h3 hne hn2 ha hb hc hr hia hib hida hidb hg hcv
 have b0 := (Below.refl w.heap.size w).alloc (Nat.le_refl _) (.cells (e.cells tv).toArray 31)
 have b1 := b0.alloc (by simp) (.cells #[.int .u8 0, .int .u64 0, .int .i64 0, .int .i64 0, .int .i64 0, .int .i64 0, .int .i64 0, .int .i64 0, .int .i64 0, .int .i64 0, .slice none 0 0] 31)
 have V0 := (aa w (e.cells tv) 31).alloc (.cells #[.int .u8 0, .int .u64 0, .int .i64 0, .int .i64 0, .int .i64 0, .int .i64 0, .int .i64 0, .int .i64 0, .int .i64 0, .int .i64 0, .slice none 0 0] 31)
 have hv1 := aa (w.alloc (.cells (e.cells tv).toArray 31)) ([.int .u8 0, .int .u64 0, .int .i64 0, .int .i64 0, .int .i64 0, .int .i64 0, .int .i64 0, .int .i64 0, .int .i64 0, .int .i64 0, .slice none 0 0] : List Value) 31
 rw [World.size_alloc] at hv1
 have BB_0 := hI_ b1
 have HM_0 : Hid (MD _ B F M) := hM.step b1
 have HE_0 := hI_ V0
 have HV_0 := hI_ hv1
 have HTR_0 : Hid (Tr _ tv e.ts) := R.step b1
 have HT_0 : Hid (TBL _) := T.step b1
 have HQ : Hid (e.ok ∧ (∀ n c, tv = .slice none n c → c = 0) ∧ (f = true ↔ e.e8.form)) := ⟨he, hno, hform⟩
 clear b0 b1 V0 hv1 hM R T he hno hform
 go_enter func19, ntmps19
 go_upto_region 1 with fail
 generalize hW : (w.alloc (.cells (e.cells tv).toArray 31)).alloc (.cells #[.int .u8 0, .int .u64 0, .int .i64 0, .int .i64 0, .int .i64 0, .int .i64 0, .int .i64 0, .int .i64 0, .int .i64 0, .int .i64 0, .slice none 0 0] 31) = w0 at *
 clear hW
 have y0 := HE_0.out.cell 0 (v := .int .u8 (e.op : Int)) rfl
 have y1 := HE_0.out.cell 1 (v := .int .u64 (e.key : Int)) rfl
 have y2 := HE_0.out.cell 2 (v := .int .i64 e.n0) rfl
 have y3 := HE_0.out.cell 3 (v := .int .i64 e.n1) rfl
 have y4 := HE_0.out.cell 4 (v := .int .i64 e.n2) rfl
 have y5 := HE_0.out.cell 5 (v := .int .i64 e.n3) rfl
 have y6 := HE_0.out.cell 6 (v := .int .i64 e.n4) rfl
 have y7 := HE_0.out.cell 7 (v := .int .i64 e.n5) rfl
 have y8 := HE_0.out.cell 8 (v := .int .i64 e.n6) rfl
 have y9 := HE_0.out.cell 9 (v := .int .i64 e.n7) rfl
 have y10 := HE_0.out.cell 10 (v := tv) rfl
 go_wp2_with fail
 refine (fh w0 B F M HM_0.out e HQ.out.1 tv HTR_0.out HQ.out.2.1 HT_0.out f HQ.out.2.2).mono ?_
 rintro r w1 ⟨rfl, b1⟩
 have HM_1 : Hid (MD w1 B F M) := HM_0.out.step b1
 have HE_1 : Hid (VA w1 w.heap.size (e.cells tv) 31) := HE_0.out.step b1
 have HV_1 : Hid (VA w1 (w.heap.size + 1) ([.int .u8 0, .int .u64 0, .int .i64 0, .int .i64 0, .int .i64 0, .int .i64 0, .int .i64 0, .int .i64 0, .int .i64 0, .int .i64 0, .slice none 0 0] : List Value) 31) := HV_0.out.step b1
 have HTR_1 : Hid (Tr w1 tv e.ts) := HTR_0.out.step b1
 have HT_1 : Hid (TBL w1) := HT_0.out.step b1
 have BB_1 := hI_ (BB_0.out.trans (b1.mono BB_0.out.size))
 clear b1 HM_0 HE_0 HV_0 HTR_0 HT_0 BB_0 y0 y1 y2 y3 y4 y5 y6 y7 y8 y9 y10
 rw [hyes]
 have c10 := HE_1.out.cell 10 (v := tv) rfl
 go_wp2_with fail
 refine (gL tv e.ts w1 HTR_1.out HQ.out.2.1 HLEN.out).mono ?_
 rintro r w2 ⟨⟨u, rfl, ou⟩, b2⟩
 obtain ⟨ua, un, uc, rfl⟩ := ou.form
 have OU_2 : Hid (OwnT w2 w.heap.size (.slice ua un uc) e.ts) := ou.lower BB_1.out.size
 clear ou c10
 have HM_2 : Hid (MD w2 B F M) := HM_1.out.step b2
 have HE_2 : Hid (VA w2 w.heap.size (e.cells tv) 31) := HE_1.out.step b2
 have HV_2 : Hid (VA w2 (w.heap.size + 1) ([.int .u8 0, .int .u64 0, .int .i64 0, .int .i64 0, .int .i64 0, .int .i64 0, .int .i64 0, .int .i64 0, .int .i64 0, .int .i64 0, .slice none 0 0] : List Value) 31) := HV_1.out.step b2
 have HTR_2 : Hid (Tr w2 tv e.ts) := HTR_1.out.step b2
 have HT_2 : Hid (TBL w2) := HT_1.out.step b2
 have BB_2 := hI_ (BB_1.out.trans (b2.mono BB_1.out.size))
 clear b2 HM_1 HE_1 HV_1 HTR_1 HT_1 BB_1
 have hUF : Hid (∃ a n c, Value.slice ua un uc = Value.slice a n c) := ⟨_, _, _, rfl⟩
 have f10 := HE_2.out.free 10
 have hbk := HE_2.out.blk
 have c10b := HE_2.out.cell 10 (v := tv) rfl
 have hset : VA (w2.setCell ⟨w.heap.size, 10, none⟩ (.slice ua un uc)) w.heap.size (e.cells (.slice ua un uc)) 31 := HE_2.out.set 10 (.slice ua un uc)
 have huq := au w2 w.heap.size 10 (.slice ua un uc)
 have HE_3 := hI_ hset
 have HV_3 : Hid (VA (w2.setCell ⟨w.heap.size, 10, none⟩ (.slice ua un uc)) (w.heap.size + 1) ([.int .u8 0, .int .u64 0, .int .i64 0, .int .i64 0, .int .i64 0, .int .i64 0, .int .i64 0, .int .i64 0, .int .i64 0, .int .i64 0, .slice none 0 0] : List Value) 31) := HV_2.out.upd huq (by omega)
 have BB_3 := hI_ (huq.bel BB_2.out (Nat.le_refl _))
 have OU_3 : Hid (OwnT (w2.setCell ⟨w.heap.size, 10, none⟩ (.slice ua un uc)) w.heap.size (.slice ua un uc) e.ts) := OwnT.updV OU_2.out HE_2.out (by decide) huq
 have HM_3 : Hid (MD (w2.setCell ⟨w.heap.size, 10, none⟩ (.slice ua un uc)) B F M) := HMw.out.step BB_3.out
 have HT_3 : Hid (TBL (w2.setCell ⟨w.heap.size, 10, none⟩ (.slice ua un uc))) := HTw.out.step BB_3.out
 have z0 := HE_3.out.cell 0 (v := .int .u8 (e.op : Int)) rfl
 clear hset huq
 go_upto_region 6 with fail
 generalize hW3 : w2.setCell ⟨w.heap.size, 10, none⟩ (.slice ua un uc) = w3 at *
 clear hW3 f10 hbk c10b z0 HM_2 HE_2 HV_2 HTR_2 HT_2 BB_2 OU_2
 refine wp_region_noPanic ?_
 refine wp_region_held_drew (S := fun V => V.cell? ⟨w.heap.size, 2, none⟩ = some (.int .i64 e.n0) ∧ V.cell? ⟨w.heap.size, 3, none⟩ = some (.int .i64 e.n1) ∧ V.cell? ⟨w.heap.size, 4, none⟩ = some (.int .i64 e.n2)) (by kernel_rfl) (⟨(VA.drew HE_3.out).cell 2 (v := .int .i64 e.n0) rfl, (VA.drew HE_3.out).cell 3 (v := .int .i64 e.n1) rfl, (VA.drew HE_3.out).cell 4 (v := .int .i64 e.n2) rfl⟩) ?_
 intro hh_
 have bz := (Below.refl w3.heap.size w3).drew
 have HE_z := hI_ (HE_3.out.step bz)
 have HV_z := hI_ (HV_3.out.step bz)
 have OU_z := hI_ (OU_3.out.step bz)
 have HM_z := hI_ (HM_3.out.step bz)
 have HT_z := hI_ (HT_3.out.step bz)
 have BB_z := hI_ (BB_3.out.trans (bz.mono BB_3.out.size))
 generalize w3.drew = wz at *
 clear bz
 refine tL 0 23 (.pointer (some ⟨F.pm, 0, none⟩)) ?_ ?_
 ·intro wq hS
  go_simp
 try simp only [nrm]
 refine tL 1 24 (.pointer (some ⟨F.pm, 0, none⟩)) ?_ ?_
 ·intro wq hS
  go_simp
 try simp only [nrm]
 refine tL 2 25 (.pointer (some ⟨w.heap.size, 2, none⟩)) ?_ ?_
 ·intro wq hS
  go_simp
 try simp only [nrm]
 refine tL 3 26 (.pointer (some ⟨w.heap.size, 2, none⟩)) ?_ ?_
 ·intro wq hS
  go_simp
 try simp only [nrm]
 refine tL 4 27 (.int .i64 e.n0) ?_ ?_
 ·intro wq hS
  have c := hS.1
  go_simp
 try simp only [nrm]
 refine tL 6 29 (.pointer (some ⟨F.pm, 0, none⟩)) ?_ ?_
 ·intro wq hS
  go_simp
 try simp only [nrm]
 refine tL 7 30 (.pointer (some ⟨w.heap.size, 2, none⟩)) ?_ ?_
 ·intro wq hS
  go_simp
 try simp only [nrm]
 refine tL 8 31 (.pointer (some ⟨w.heap.size, 3, none⟩)) ?_ ?_
 ·intro wq hS
  go_simp
 try simp only [nrm]
 refine tL 9 32 (.int .i64 e.n1) ?_ ?_
 ·intro wq hS
  have c := hS.2.1
  go_simp
 try simp only [nrm]
 refine tL 11 34 (.pointer (some ⟨w.heap.size, 2, none⟩)) ?_ ?_
 ·intro wq hS
  go_simp
 try simp only [nrm]
 refine tL 12 35 (.pointer (some ⟨w.heap.size, 4, none⟩)) ?_ ?_
 ·intro wq hS
  go_simp
 try simp only [nrm]
 refine tL 13 36 (.int .i64 e.n2) ?_ ?_
 ·intro wq hS
  have c := hS.2.2
  go_simp
 try simp only [nrm]
 refine tL 19 41 (.pointer (some ⟨w.heap.size, 2, none⟩)) ?_ ?_
 ·intro wq hS
  go_simp
 try simp only [nrm]
 clear hh_
 refine rdy 5 (fun K hK => ?_)
 go_simp
 refine Calls.mono (bn wz B F M HM_z.out HIA.out HIDA.out) ?_
 rintro e wq ⟨rfl, hwq⟩
 obtain rfl := hwq.symm
 clear hwq
 go_wp2_with fail
 refine hK.out _ _ (⟨HE_z.out.cell 2 (v := .int .i64 e.n0) rfl, HE_z.out.cell 3 (v := .int .i64 e.n1) rfl, HE_z.out.cell 4 (v := .int .i64 e.n2) rfl⟩) (fun hh_ => ?_)
 try simp only [nrm]
 clear hK K hh_
 refine rdy 10 (fun K hK => ?_)
 go_simp
 refine Calls.mono (bn wz B F M HM_z.out HIB.out HIDB.out) ?_
 rintro e wq ⟨rfl, hwq⟩
 obtain rfl := hwq.symm
 clear hwq
 go_wp2_with fail
 refine hK.out _ _ (⟨HE_z.out.cell 2 (v := .int .i64 e.n0) rfl, HE_z.out.cell 3 (v := .int .i64 e.n1) rfl, HE_z.out.cell 4 (v := .int .i64 e.n2) rfl⟩) (fun hh_ => ?_)
 try simp only [nrm]
 clear hK K hh_
 refine rdy 14 (fun K hK => ?_)
 go_simp
 refine Calls.mono (fa wz B F M HM_z.out HT_z.out.cu a b _ _ _ _ e.n2 (HM_z.out.aw HIA.out) (HM_z.out.aw HIB.out) HCU.out.1 HCU.out.2) ?_
 rintro e wc ⟨rfl, bc⟩
 have HE_c := hI_ (HE_z.out.step bc)
 have HV_c := hI_ (HV_z.out.step bc)
 have OU_c := hI_ (OU_z.out.step bc)
 have HM_c := hI_ (HM_z.out.step bc)
 have HT_c := hI_ (HT_z.out.step bc)
 have BB_c := hI_ (BB_z.out.trans (bc.mono BB_z.out.size))
 rw [HCV.out]
 clear bc
 go_wp2_with fail
 refine hK.out _ _ (⟨HE_c.out.cell 2 (v := .int .i64 e.n0) rfl, HE_c.out.cell 3 (v := .int .i64 e.n1) rfl, HE_c.out.cell 4 (v := .int .i64 e.n2) rfl⟩) (fun hh_ => ?_)
 try simp only [nrm]
 clear hK K
 refine tL 15 22 (.tuple #[.int .i64 g, .agg (cvA M a.cur b.cur e.n2).2.1.toArray, .int .i64 (cvA M a.cur b.cur e.n2).2.2]) ?_ ?_
 ·intro wq hS
  go_simp
 try simp only [nrm]
 refine tL 16 38 (.int .i64 g) ?_ ?_
 ·intro wq hS
  go_simp
 try simp only [nrm]
 refine tL 17 39 (.agg (cvA M a.cur b.cur e.n2).2.1.toArray) ?_ ?_
 ·intro wq hS
  go_simp
 try simp only [nrm]
 refine tL 18 40 (.int .i64 (cvA M a.cur b.cur e.n2).2.2) ?_ ?_
 ·intro wq hS
  go_simp
 try simp only [nrm]
 refine tL 20 42 (.pointer (some ⟨w.heap.size, 5, none⟩)) ?_ ?_
 ·intro wq hS
  go_simp
 try simp only [nrm]
 have c5 := HE_c.out.cell 5 (v := .int .i64 e.n3) rfl
 have f5 := HE_c.out.free 5
 have hbk := HE_c.out.blk
 have huq := au wc w.heap.size 5 (.int .i64 g)
 have HE_d : Hid (VA (wc.setCell ⟨w.heap.size, 5, none⟩ (.int .i64 g)) w.heap.size (({ e with n3 := g } : EV).cells (.slice ua un uc)) 31) := HE_c.out.set 5 (.int .i64 g)
 have HV_d : Hid (VA _ (w.heap.size + 1) ([.int .u8 0, .int .u64 0, .int .i64 0, .int .i64 0, .int .i64 0, .int .i64 0, .int .i64 0, .int .i64 0, .int .i64 0, .int .i64 0, .slice none 0 0] : List Value) 31) := HV_c.out.upd huq (by omega)
 have OU_d : Hid (OwnT _ w.heap.size (.slice ua un uc) e.ts) := OwnT.updV OU_c.out HE_c.out (by decide) huq
 have BB_d := hI_ (huq.bel BB_c.out (Nat.le_refl _))
 clear hh_ huq
 refine rdy 21 (fun K hK => ?_)
 go_simp
 refine hK.out _ _ ⟨HE_d.out.cell 2 (v := .int .i64 e.n0) rfl, HE_d.out.cell 3 (v := .int .i64 e.n1) rfl, HE_d.out.cell 4 (v := .int .i64 e.n2) rfl⟩ (fun hh_ => ?_)
 try simp only [nrm]
 clear hK K
 refine dN ?_
 clear hh_ c5 f5 hbk HE_c HV_c OU_c BB_c HM_c HT_c
 generalize wc.setCell ⟨w.heap.size, 5, none⟩ (.int .i64 g) = wd at *
 go_upto_region 7 with fail
 refine wp_region_noPanic ?_
 refine wp_region_held_drew (S := fun V => VA V w.heap.size (({ e with n3 := g } : EV).cells (.slice ua un uc)) 31) (by kernel_rfl) (VA.drew HE_d.out) ?_
 intro hh_
 have bq := (Below.refl wd.heap.size wd).drew
 have HE_q := hI_ (HE_d.out.step bq)
 have HV_q := hI_ (HV_d.out.step bq)
 have OU_q := hI_ (OU_d.out.step bq)
 have BB_q := hI_ (BB_d.out.trans (bq.mono BB_d.out.size))
 generalize wd.drew = wq at *
 clear bq
 refine tK 0 43 (.agg (({ e with n3 := g } : EV).cells (.slice ua un uc)).toArray) (by exact rfl) (yieldsIf_load_mid (by rfl) _ _ rfl _ _ rfl _ _ (fun wq hS => (fun j v hj => by rw [Nat.zero_add]; exact VA.cell hS j hj)) underlying31 rfl aj) ?_
 try simp only [nrm]
 refine tK 1 44 (.agg (({ e with n3 := g } : EV).cells (.slice ua un uc)).toArray) (by exact rfl) (yieldsIf_load_mid (by rfl) _ _ rfl _ _ rfl _ _ (fun wq hS => (fun j v hj => by rw [Nat.zero_add]; exact VA.cell hS j hj)) underlying31 rfl aj) ?_
 try simp only [nrm]
 clear hh_
 refine rdy 2 (fun K hK => ?_)
 go_simp
 refine Calls.mono (kL ({ e with n3 := g } : EV) (.slice ua un uc) wq) ?_
 rintro e wm ⟨rfl, bm⟩
 have HE_m := hI_ (HE_q.out.step bm)
 have HV_m := hI_ (HV_q.out.step bm)
 have OU_m := hI_ (OU_q.out.step bm)
 have BB_m := hI_ (BB_q.out.trans (bm.mono BB_q.out.size))
 clear bm
 go_wp2_with fail
 refine hK.out _ _ (HE_m.out) (fun hh_ => ?_)
 try simp only [nrm]
 clear hK K
 refine rdy 3 (fun K hK => ?_)
 refine dW (by rfl) rfl 31 _ _ rfl (w.heap.size + 1) (by rfl) ([.int .u8 0, .int .u64 0, .int .i64 0, .int .i64 0, .int .i64 0, .int .i64 0, .int .i64 0, .int .i64 0, .int .i64 0, .int .i64 0, .slice none 0 0] : List Value) (({ e with n3 := g } : EV).cells (.slice ua un uc)) (by rfl) 31 HV_m.out aj rfl (EV.one _ hUF.out) ?_
 intro wf vf uf
 have BB_f := hI_ (uf.bel BB_m.out (by omega))
 have OU_f : Hid (OwnT wf w.heap.size (.slice ua un uc) e.ts) := OwnT.updV OU_m.out HV_m.out (by decide) uf
 refine hK.out _ _ (HE_m.out.upd uf (by omega)) (fun hh_2 => ?_)
 clear hK K hh_
 try simp only [nrm]
 refine tL 4 5 (.int .i64 ({ e with n3 := g } : EV).mv) ?_ ?_
 ·intro wq hS
  go_simp
 try simp only [nrm]
 refine tL 5 6 (.int .i64 0) ?_ ?_
 ·intro wq hS
  go_simp
 try simp only [nrm]
 refine dN ?_
 clear hh_2
 go_wp2_with fail
 have hld := run_loadVar_row (P := prog) wf (w.heap.size + 1) 31 31 _ (0, 0) _ vf.blk underlying31 rfl aj
 have hmv : ({ e with n3 := g } : EV).mv = g := by unfold EV.mv; simp [H12.out]
 rw [hmv]
 exact bodyPost_ret (v := .tuple #[.agg (({ e with n3 := g } : EV).cells (.slice ua un uc)).toArray, .int .i64 g, .int .i64 0]) (by simp [results, results19, asAddr, Act.put, hld]) rfl ⟨⟨(.slice ua un uc), rfl, OU_f.out⟩, BB_f.out⟩
theorem iE (c s : Int) (w : World) (hc : InR c) :
  Calls prog 143 #[.agg #[.int .i64 (dhi c), .int .u64 (dlo c), .int .i64 s]] w
   fun e w' => e = .returned (.agg #[.int .i64 (dhi (-c)), .int .u64 (dlo (-c)), .int .i64 s]) ∧ Below w.heap.size w w' := by
 have r1 : ∀ w, (callFunc 103 #[.int .u64 0, .int .u64 (dlo c), .int .u64 0]).run prog w = .ok (.value (.tuple #[.int .u64 (dlo (-c)), .int .u64 (oborrow c)])) w := by
  intro w
  rw [dl 0 (dlo c) 0 ⟨by omega, by omega⟩ (gQ c) (by omega) (by omega), qM]
  rfl
 have r2 : ∀ w, (callFunc 103 #[.int .u64 0, .int .u64 (IntKind.u64.wrap (dhi c)), .int .u64 (oborrow c)]).run prog w = .ok (.value (.tuple #[.int .u64 (ohi c), .int .u64 (orest c)])) w := by
  intro w
  rw [dl 0 _ _ ⟨by omega, by omega⟩ (fM _) (dD c).1 (dD c).2]
  rfl
 have r3 := qL hc
 go_enter func143, ntmps143
 go_wp2
 refine bodyPost_ret (v := .agg _) (by simp [results, results143, go_sem]) rfl ⟨rfl, ?_⟩
 exact ((Below.refl w.heap.size w).alloc (Nat.le_refl _) _).alloc (by simp) _
theorem oN (n : Int) (h : I64 n) : ∃ N hi lo : Nat, IntKind.u64.wrap n = (N : Int) ∧ N < 18446744073709551616 ∧ N * 1000000000000 / 18446744073709551616 = hi ∧ N * 1000000000000 % 18446744073709551616 = lo ∧ hi < 1000000000000 ∧ lo < 18446744073709551616 ∧ dlo (n * 1000000000000) = (lo : Int) ∧ dhi (n * 1000000000000) = if n < 0 then (hi : Int) - 1000000000000 else (hi : Int) := by
 unfold I64 at h
 refine ⟨(n % 18446744073709551616).toNat, _, _, by rw [IntKind.wrap_u64]; omega, by omega, rfl, rfl, by omega, by omega, by unfold dlo; omega, ?_⟩
 unfold dhi
 split <;> omega
theorem gU (n : Int) (w : World) (hn : I64 n) :
  Calls prog 142 #[.int .i64 n] w
   fun e w' => e = .returned (.agg #[.int .i64 (dhi (n * 1000000000000)), .int .u64 (dlo (n * 1000000000000)), .int .i64 12]) ∧ Below w.heap.size w w' := by
 obtain ⟨N, hi, lo, hN, hlt, e1, e2, b1, b2, d1, d2⟩ := oN n hn
 have M1 : ∀ w, Calls prog 182 #[.int .u64 (IntKind.u64.wrap n), .int .u64 1000000000000] w fun e w' => e = .returned (.tuple #[.int .u64 (hi : Int), .int .u64 (lo : Int)]) ∧ w' = w := fun w => by
  rw [hN]
  have := iW N 1000000000000 w hlt (by decide)
  rw [e1, e2] at this
  exact this
 rw [d1, d2]
 have c1 : (hi : Int) < 1000000000000 := by omega
 have c2 : (0 : Int) ≤ hi := by omega
 have HM := hI_ M1
 clear M1 e1 e2 b1 b2 d1 d2 hN hlt
 by_cases h0 : n < 0
 ·rw [if_pos h0]
  go_enter func142, ntmps142
  go_wp2_with fail
  refine (HM.out _).mono ?_
  rintro e w1 ⟨rfl, rfl⟩
  go_wp2_with fail
  have e3 : wrap64 (IntKind.u64.wrap ((hi : Int) - 1000000000000)) = (hi : Int) - 1000000000000 := by unfold wrap64; rw [IntKind.wrap_u64]; omega
  refine bodyPost_ret (v := .agg #[.int .i64 ((hi : Int) - 1000000000000), .int .u64 (lo : Int), .int .i64 12]) (by simp [results, results142, go_sem, e3]) rfl ⟨rfl, ?_⟩
  exact (Below.refl w.heap.size w).alloc (Nat.le_refl _) _
 ·rw [if_neg h0]
  have HC : Hid ((hi : Int) < 1000000000000 ∧ (0 : Int) ≤ hi) := ⟨c1, c2⟩
  clear c1 c2
  generalize (hi : Int) = hh at *
  generalize (lo : Int) = ll at *
  clear hi lo N
  go_enter func142, ntmps142
  go_wp2_with fail
  refine (HM.out _).mono ?_
  rintro e w1 ⟨rfl, rfl⟩
  generalize IntKind.u64.wrap n = z at *
  go_wp2_with fail
  have e3 : IntKind.i64.wrap hh = hh := by have := HC.out.1; have := HC.out.2; rw [IntKind.wrap_i64]; omega
  have e4 : wrap64 hh = hh := by have := HC.out.1; have := HC.out.2; unfold wrap64; omega
  refine bodyPost_ret (v := .agg #[.int .i64 hh, .int .u64 ll, .int .i64 12]) (by simp [results, results142, go_sem, e3, e4]) rfl ⟨rfl, ?_⟩
  exact (Below.refl w.heap.size w).alloc (Nat.le_refl _) _
def xl1 (cur n : Int) : List Ln := [⟨2, cur, dhi n, dlo n, 0⟩, ⟨7, cur, dhi (-n * 1000000000000), dlo (-n * 1000000000000), 12⟩]
def xl2 (cur g r : Int) : List Ln := [⟨7, cur, dhi (g * 1000000000000), dlo (g * 1000000000000), 12⟩, ⟨7, cur, dhi r, dlo r, 12⟩, ⟨2, cur, dhi (-g), dlo (-g), 0⟩, ⟨8, cur, dhi (-r), dlo (-r), 12⟩]
theorem uP (cur n : Int) : (xl1 cur n).length = 2 := rfl
theorem uQ (cur g r : Int) : (xl2 cur g r).length = 4 := rfl
def exM (M : PM) (i : Nat) (a : PA) (n : Int) (j : Nat) (b : PA) (g r : Int) : PM := { M with al := (M.al.set i (setB a (a.bal - n))).set j (setB b (b.bal + g)), b := pst (pst M.b (xl1 a.cur n)) (xl2 b.cur g r), n := pcnt (pst M.b (xl1 a.cur n)) (xl2 b.cur g r) (pcnt M.b (xl1 a.cur n) M.n) }
theorem eQ {z : Int} (h1 : -10000000000000000000000000 ≤ z) (h2 : z ≤ 10000000000000000000000000) : (Lit.int .i64 (dhi z)).wf = true ∧ (Lit.int .u64 (dlo z)).wf = true := by
 refine ⟨?_, ?_⟩
 ·unfold dhi; simp [Lit.wf, IntKind.min, IntKind.max, IntKind.signed, IntKind.bits]; omega
 ·unfold dlo; simp [Lit.wf, IntKind.min, IntKind.max, IntKind.signed, IntKind.bits]; omega
theorem wK {cur n : Int} (hu : 0 ≤ cur ∧ cur ≤ 3) (h1 : 1 ≤ n) (h2 : n ≤ 10000000000000) : ∀ x ∈ xl1 cur n, x.wf := by
 intro x hx
 unfold xl1 at hx
 simp only [List.mem_cons, List.not_mem_nil, or_false] at hx
 rcases hx with rfl | rfl
 ·have k := eQ (z := n) (by omega) (by omega)
  exact ⟨by dsimp only; omega, by dsimp only; omega, k.1, k.2, by dsimp only; omega⟩
 ·have k := eQ (z := -n * 1000000000000) (by omega) (by omega)
  exact ⟨by dsimp only; omega, by dsimp only; omega, k.1, k.2, by dsimp only; omega⟩
theorem wL {cur g r : Int} (hu : 0 ≤ cur ∧ cur ≤ 3) (h1 : 0 ≤ g) (h2 : g ≤ 10000000000000) (r1 : 0 ≤ r) (r2 : r ≤ 1000000000000) : ∀ x ∈ xl2 cur g r, x.wf := by
 intro x hx
 unfold xl2 at hx
 simp only [List.mem_cons, List.not_mem_nil, or_false] at hx
 rcases hx with rfl | rfl | rfl | rfl
 ·have k := eQ (z := g * 1000000000000) (by omega) (by omega)
  exact ⟨by dsimp only; omega, by dsimp only; omega, k.1, k.2, by dsimp only; omega⟩
 ·have k := eQ (z := r) (by omega) (by omega)
  exact ⟨by dsimp only; omega, by dsimp only; omega, k.1, k.2, by dsimp only; omega⟩
 ·have k := eQ (z := -g) (by omega) (by omega)
  exact ⟨by dsimp only; omega, by dsimp only; omega, k.1, k.2, by dsimp only; omega⟩
 ·have k := eQ (z := -r) (by omega) (by omega)
  exact ⟨by dsimp only; omega, by dsimp only; omega, k.1, k.2, by dsimp only; omega⟩
theorem xG (x y z u : Ln) : Instr.fill (fun i => some (i * 5, 5)) ((Array.range (4 * 5)).map (ZLn.cells[· % ZLn.cells.size]!)) [(0, Value.agg x.enc.toArray), (1, Value.agg y.enc.toArray), (2, Value.agg z.enc.toArray), (3, Value.agg u.enc.toArray)] = some (LN.cells [x, y, z, u]).toArray := by kernel_rfl
theorem yn {w : World} {o : Oper} {a : Act} {K : Act → World → Prop} {Q : Exit → Act → World → Prop} (z1 z2 z3 z4 : Operand) (ho : o.op = .buildSlice 46 4 #[(0, z1), (1, z2), (2, z3), (3, z4)]) (x y z u : Ln) (h1 : a.eval z1 = .agg x.enc.toArray) (h2 : a.eval z2 = .agg y.enc.toArray) (h3 : a.eval z3 = .agg z.enc.toArray) (h4 : a.eval z4 = .agg u.enc.toArray)
  (h : K (a.put o.dst (.slice (some ⟨w.heap.size, 0, none⟩) 4 4)) (w.alloc (.cells (LN.cells [x, y, z, u]).toArray 91))) : o.wp prog a w K Q := by
 obtain ⟨i0, hi, hz⟩ := Option.map_eq_some_iff.1 mb
 simp only [Prod.mk.injEq] at hz
 refine wp_buildSlice 46 91 4 _ ho _ i0 ZLn underlying46 hi hz.1 (by rw [hz.2.1]; decide) (by rw [hz.2.1]; decide) ?_ h
 rw [hz.2.1]
 simp only [List.map_toArray, List.map_cons, List.map_nil, h1, h2, h3, h4]
 exact xG x y z u
theorem qy (w : World) (B : Nat) (F : FB) (M : PM) (h : MD w B F M) (T : TBL w) (hB : 6 ≤ B) (i j : Nat) (a b : PA) (x y : Nat × Nat) (hi : IsA F M i a x) (hj : IsA F M j b y) (hij : i ≠ j) (n g r : Int) (hcv : cvA M a.cur b.cur n = (g, dcs r 12, 0)) (n1 : 1 ≤ n) (n2 : n ≤ 10000000000000) (g1 : 0 ≤ g) (g2 : g ≤ 10000000000000) (r1 : 0 ≤ r) (r2 : r ≤ 1000000000000) (v1 : -10000000000000 ≤ a.bal - n) (v2 : a.bal - n ≤ 10000000000000) (u1 : -10000000000000 ≤ b.bal + g) (u2 : b.bal + g ≤ 10000000000000) (hm : 0 ≤ M.n ∧ M.n ≤ 4611686018427387000) :
  Calls prog 91 #[.pointer (some ⟨F.pm, 0, none⟩), .pointer (some ⟨x.1, 0, none⟩), .pointer (some ⟨y.1, 0, none⟩), .int .i64 n] w fun e w' => e = .returned (.tuple #[]) ∧ MD w' B F (exM M i a n j b g r) ∧ But (fun q => q = F.pl ∨ q = F.ml ∨ q = x.1 ∨ q = y.1) w w' := by
 have HA := hI_ (h.awf hi)
 have bb1 := HA.out.bal.1
 have bb2 := HA.out.bal.2
 have HM_0 : Hid (MD w B F M) := h
 have HT_0 : Hid (TBL w) := T
 have HI : Hid (IsA F M i a x) := hi
 have HL : Hid (B ≤ x.1 ∧ B ≤ x.2) := h.hi hi.x
 have HC := hI_ hm
 have HBB : Hid (6 ≤ B) := hB
 have HJ : Hid (IsA F M j b y) := hj
 have HIJ : Hid (i ≠ j) := hij
 have HLJ : Hid (B ≤ y.1 ∧ B ≤ y.2) := h.hi hj.x
 have HAJ := hI_ (h.awf hj)
 have bc1 := HAJ.out.bal.1
 have bc2 := HAJ.out.bal.2
 have HCV := hI_ hcv
 have HN : Hid (I64 n ∧ I64 (-n)) := ⟨⟨by omega, by omega⟩, ⟨by omega, by omega⟩⟩
 have HG : Hid (I64 g ∧ I64 (-g)) := ⟨⟨by omega, by omega⟩, ⟨by omega, by omega⟩⟩
 have HRR : Hid (InR r) := ⟨by unfold M127; omega, by unfold M127; omega⟩
 have HG2 : Hid (0 ≤ g ∧ g ≤ 10000000000000) := ⟨g1, g2⟩
 have HR2 : Hid (0 ≤ r ∧ r ≤ 1000000000000) := ⟨r1, r2⟩
 have HLL : Hid (B ≤ F.pl ∧ B ≤ F.ml) := ⟨h.low.2.1, h.low.2.2.1⟩
 have HLT : Hid (F.pl < w.heap.size ∧ F.ml < w.heap.size) := ⟨h.led.va.lt, by obtain ⟨_, k, _⟩ := h.led.map.ex; exact k.lt⟩
 clear h T hi hj hij hm hB hcv
 go_enter func91, ntmps91
 go_wp2_with fail
 refine (fa w B F M HM_0.out HT_0.out.cu a b _ _ _ _ n (HM_0.out.aw HI.out) (HM_0.out.aw HJ.out) HA.out.cur HAJ.out.cur).mono ?_
 rintro e wa ⟨rfl, b1⟩
 rw [HCV.out]
 dsimp only
 have bv := b1.trans ((Below.refl wa.heap.size wa).alloc (Nat.le_refl _) (.cells #[.int .i64 0, .int .u64 0, .int .i64 0] 44)|>.mono b1.size)
 have HV := hI_ (aa wa zdl 44)
 have HS : Hid (w.heap.size ≤ wa.heap.size) := b1.size
 have BV := hI_ bv
 clear b1 bv
 go_upto_region 1 with (refine stA rfl 44 _ _ rfl wa.heap.size (by rfl) zdl (dcs r 12) (by rfl) 44 HV.out dA rfl (bI r 12) ?_; intro w0 v0 u0)
 have BB_0 : Hid (Below w.heap.size w w0) := u0.bel BV.out HS.out
 have VR_0 : Hid (VA w0 wa.heap.size (dcs r 12) 44) := v0
 have lx : x.1 < wa.heap.size := Nat.lt_of_lt_of_le (HM_0.out.aw HI.out).lt HS.out
 have ly : y.1 < wa.heap.size := Nat.lt_of_lt_of_le (HM_0.out.aw HJ.out).lt HS.out
 have HMb : Hid (MD w0 B F M) := HM_0.out.step BB_0.out
 have HTb : Hid (TBL w0) := HT_0.out.step BB_0.out
 clear v0 u0 HV BV HM_0 HT_0
 have HM_0 := hI_ HMb.out
 have HT_0 := hI_ HTb.out
 clear HMb HTb
 have c5 := (HM_0.out.aw HI.out).cell 5 (v := .int .i64 a.bal) rfl
 have f5 := (HM_0.out.aw HI.out).free 5
 have hbk := (HM_0.out.aw HI.out).blk
 have HM_1 := hI_ (HM_0.out.setB HI.out (v := a.bal - n) v1 v2)
 have HU_1 := hI_ ((au w0 x.1 5 (.int .i64 (a.bal - n))).but)
 have VR_1 : Hid (VA (w0.setCell ⟨x.1, 5, none⟩ (.int .i64 (a.bal - n))) wa.heap.size (dcs r 12) 44) := VR_0.out.upd (au _ _ _ _) (by omega)
 go_upto_region 2 with fail
 generalize hW : w0.setCell ⟨x.1, 5, none⟩ (.int .i64 (a.bal - n)) = w1 at *
 clear hW c5 f5 hbk
 have HT_1 : Hid (TBL w1) := HT_0.out.but HU_1.out (fun j hj => by have := HL.out.1; have := HBB.out; omega)
 have HJ1 := hI_ (HJ.out.other HIJ.out (b := setB a (a.bal - n)))
 have HI1 := hI_ (HI.out.set (b := setB a (a.bal - n)))
 have c5 := (HM_1.out.aw HJ1.out).cell 5 (v := .int .i64 b.bal) rfl
 have f5 := (HM_1.out.aw HJ1.out).free 5
 have hbk := (HM_1.out.aw HJ1.out).blk
 have HM_2 := hI_ (HM_1.out.setB HJ1.out (v := b.bal + g) u1 u2)
 have HU_2 := hI_ ((au w1 y.1 5 (.int .i64 (b.bal + g))).but)
 have VR_2 : Hid (VA (w1.setCell ⟨y.1, 5, none⟩ (.int .i64 (b.bal + g))) wa.heap.size (dcs r 12) 44) := VR_1.out.upd (au _ _ _ _) (by omega)
 go_upto_region 3 with fail
 generalize hW : w1.setCell ⟨y.1, 5, none⟩ (.int .i64 (b.bal + g)) = w2 at *
 clear hW c5 f5 hbk
 have HT_2 : Hid (TBL w2) := HT_1.out.but HU_2.out (fun j hj => by have := HLJ.out.1; have := HBB.out; omega)
 have HIa := hI_ (IsA.other HI1.out (b := setB b (b.bal + g)) (fun e => HIJ.out e.symm))
 have HJb := hI_ (HJ1.out.set (b := setB b (b.bal + g)))
 have HU : Hid (But (fun q => q = F.pl ∨ q = F.ml ∨ q = x.1 ∨ q = y.1) w w2) := (((ac BB_0.out _).trans HU_1.out (fun q _ hq => Or.inr (Or.inr (Or.inl hq)))).trans HU_2.out (fun q _ hq => Or.inr (Or.inr (Or.inr hq))))
 have BB_2 := hI_ (Below.refl w2.heap.size w2)
 have VX_2 : Hid (VA w2 x.1 ((setB a (a.bal - n)).cells x.2) 85) := HM_2.out.aw HIa.out
 have VY_2 : Hid (VA w2 y.1 ((setB b (b.bal + g)).cells y.2) 85) := HM_2.out.aw HJb.out
 clear HU_1 HU_2 HT_0 HT_1 HM_0 HM_1 VR_0 VR_1 BB_0 HJ1 HI1
 refine wp_region_noPanic ?_
 refine wp_region_held_drew (S := fun V => VA V F.pm (mcells F M) 100 ∧ VA V x.1 ((setB a (a.bal - n)).cells x.2) 85) (by kernel_rfl) (⟨HM_2.out.va.drew, VX_2.out.drew⟩) ?_
 intro hh_
 have bz := (Below.refl w2.heap.size w2).drew
 have HM_z := hI_ (HM_2.out.step bz)
 have HT_z := hI_ (HT_2.out.step bz)
 have VR_z := hI_ (VR_2.out.step bz)
 have VX_z := hI_ (VX_2.out.step bz)
 have VY_z := hI_ (VY_2.out.step bz)
 have BB_z := hI_ (BB_2.out.trans (bz.mono BB_2.out.size))
 generalize w2.drew = wz at *
 clear bz
 refine tL 0 40 (.pointer (some ⟨F.pm, 0, none⟩)) ?_ ?_
 ·intro wq hS
  go_simp
 try simp only [nrm]
 refine tL 1 41 (.pointer (some ⟨F.pm, 0, none⟩)) ?_ ?_
 ·intro wq hS
  go_simp
 try simp only [nrm]
 refine tL 2 42 (.pointer (some ⟨F.pm, 4, none⟩)) ?_ ?_
 ·intro wq hS
  go_simp
 try simp only [nrm]
 refine tL 3 43 (.pointer (some ⟨F.pl, 0, none⟩)) ?_ ?_
 ·intro wq hS
  have c := VA.cell hS.1 4 (v := .pointer (some ⟨F.pl, 0, none⟩)) rfl
  go_simp
 try simp only [nrm]
 refine tL 4 44 (.pointer (some ⟨x.1, 0, none⟩)) ?_ ?_
 ·intro wq hS
  go_simp
 try simp only [nrm]
 refine tL 5 45 (.pointer (some ⟨x.1, 0, none⟩)) ?_ ?_
 ·intro wq hS
  go_simp
 try simp only [nrm]
 refine tL 6 46 (.pointer (some ⟨x.1, 0, none⟩)) ?_ ?_
 ·intro wq hS
  go_simp
 try simp only [nrm]
 refine tL 7 47 (.pointer (some ⟨x.1, 2, none⟩)) ?_ ?_
 ·intro wq hS
  go_simp
 try simp only [nrm]
 refine tL 8 48 (.int .i64 a.cur) ?_ ?_
 ·intro wq hS
  have c := VA.cell hS.2 2 (v := .int .i64 a.cur) rfl
  go_simp
 try simp only [nrm]
 refine tL 9 49 (.int .i64 n) ?_ ?_
 ·intro wq hS
  go_simp
 try simp only [nrm]
 refine tL 12 52 (.pointer (some ⟨x.1, 0, none⟩)) ?_ ?_
 ·intro wq hS
  go_simp
 try simp only [nrm]
 refine tL 13 53 (.pointer (some ⟨x.1, 0, none⟩)) ?_ ?_
 ·intro wq hS
  go_simp
 try simp only [nrm]
 refine tL 14 54 (.pointer (some ⟨x.1, 0, none⟩)) ?_ ?_
 ·intro wq hS
  go_simp
 try simp only [nrm]
 refine tL 15 55 (.pointer (some ⟨x.1, 2, none⟩)) ?_ ?_
 ·intro wq hS
  go_simp
 try simp only [nrm]
 refine tL 16 56 (.int .i64 a.cur) ?_ ?_
 ·intro wq hS
  have c := VA.cell hS.2 2 (v := .int .i64 a.cur) rfl
  go_simp
 try simp only [nrm]
 refine tL 17 57 (.int .i64 n) ?_ ?_
 ·intro wq hS
  go_simp
 try simp only [nrm]
 refine tL 18 58 (.int .i64 (-n)) ?_ ?_
 ·intro wq hS
  go_simp
  try (rw [IntKind.wrap_i64]; omega)
 try simp only [nrm]
 clear hh_
 refine rdy 10 (fun K hK => ?_)
 go_simp
 refine Calls.mono (ez wz n HN.out.1) ?_
 rintro e wa3 ⟨rfl, ba3⟩
 have HM_a3 := hI_ (HM_z.out.step ba3)
 have HT_a3 := hI_ (HT_z.out.step ba3)
 have VR_a3 := hI_ (VR_z.out.step ba3)
 have VX_a3 := hI_ (VX_z.out.step ba3)
 have VY_a3 := hI_ (VY_z.out.step ba3)
 have BB_a3 := hI_ (BB_z.out.trans (ba3.mono BB_z.out.size))
 clear ba3
 go_wp2_with fail
 refine hK.out _ _ (⟨HM_a3.out.va, VX_a3.out⟩) (fun hh_ => ?_)
 try simp only [nrm]
 clear hK K
 refine tL 11 51 (.agg #[.int .i64 2, .int .i64 a.cur, .int .i64 (dhi (n)), .int .u64 (dlo (n)), .int .i64 0]) ?_ ?_
 ·intro wq hS
  go_simp
 try simp only [nrm]
 clear hh_
 refine rdy 19 (fun K hK => ?_)
 go_simp
 refine Calls.mono (gU (-n) wa3 HN.out.2) ?_
 rintro e wc3 ⟨rfl, bc3⟩
 have HM_c3 := hI_ (HM_a3.out.step bc3)
 have HT_c3 := hI_ (HT_a3.out.step bc3)
 have VR_c3 := hI_ (VR_a3.out.step bc3)
 have VX_c3 := hI_ (VX_a3.out.step bc3)
 have VY_c3 := hI_ (VY_a3.out.step bc3)
 have BB_c3 := hI_ (BB_a3.out.trans (bc3.mono BB_a3.out.size))
 clear bc3
 go_wp2_with fail
 refine hK.out _ _ (⟨HM_c3.out.va, VX_c3.out⟩) (fun hh_ => ?_)
 try simp only [nrm]
 clear hK K
 refine tL 20 60 (.agg #[.int .i64 7, .int .i64 a.cur, .int .i64 (dhi (-n * 1000000000000)), .int .u64 (dlo (-n * 1000000000000)), .int .i64 12]) ?_ ?_
 ·intro wq hS
  go_simp
 try simp only [nrm]
 clear hh_
 refine rdy 21 (fun K hK => ?_)
 refine s5 (by rfl) (xh _ _ rfl ⟨2, a.cur, dhi (n), dlo (n), 0⟩ ⟨7, a.cur, dhi (-n * 1000000000000), dlo (-n * 1000000000000), 12⟩ (by rfl) (by rfl) ?_)
 have bd := (Below.refl wc3.heap.size wc3).alloc (Nat.le_refl _) (.cells (LN.cells (xl1 a.cur n)).toArray 91)
 have HS_d3 := hI_ (ip (K := LN) (xs := xl1 a.cur n) (aa wc3 (LN.cells (xl1 a.cur n)) 91) (by rw [uP]; decide))
 have HM_d3 := hI_ (HM_c3.out.step bd)
 have HT_d3 := hI_ (HT_c3.out.step bd)
 have VR_d3 := hI_ (VR_c3.out.step bd)
 have VX_d3 := hI_ (VX_c3.out.step bd)
 have VY_d3 := hI_ (VY_c3.out.step bd)
 have BB_d3 := hI_ (BB_c3.out.trans (bd.mono BB_c3.out.size))
 clear bd
 rw [show LN.cells [(⟨2, a.cur, dhi (n), dlo (n), 0⟩ : Ln), ⟨7, a.cur, dhi (-n * 1000000000000), dlo (-n * 1000000000000), 12⟩] = LN.cells (xl1 a.cur n) from rfl]
 rw [uP] at HS_d3
 generalize wc3.alloc (.cells (LN.cells (xl1 a.cur n)).toArray 91) = wd3 at *
 generalize wc3.heap.size = qd3 at *
 refine hK.out _ _ (⟨HM_d3.out.va, VX_d3.out⟩) (fun hh_ => ?_)
 try simp only [nrm]
 clear hK K hh_
 refine rdy 22 (fun K hK => ?_)
 go_simp
 refine Calls.mono (jG F.pl F.ml _ _ _ (xl1 a.cur n) wd3 HM_d3.out.led HS_d3.out (wK HA.out.cur n1 n2) HT_d3.out.lim (⟨by show 0 ≤ M.n; have := HC.out; omega, by show M.n ≤ _; have := HC.out; omega⟩)) ?_
 rintro e we3 ⟨rfl, hL, kB⟩
 have HM_e3 := hI_ (HM_d3.out.setL kB hL)
 have KB : Hid (But (fun q => q = F.pl ∨ q = F.ml) w2 we3) := (ac BB_d3.out _).trans kB (fun _ _ hx => hx)
 have HT_e3 : Hid (TBL we3) := HT_d3.out.but kB (fun q hq => by have := HLL.out; have := HBB.out; rcases hq with h | h <;> omega)
 have VR_e3 : Hid (VA we3 wa.heap.size (dcs r 12) 44) := VR_d3.out.but kB (fun hq => by have := HLT.out; have := HS.out; rcases hq with h | h <;> omega)
 have VX_e3 : Hid (VA we3 x.1 ((setB a (a.bal - n)).cells x.2) 85) := HM_e3.out.aw (i := i) ⟨HIa.out.a, HIa.out.x⟩
 have VY_e3 : Hid (VA we3 y.1 ((setB b (b.bal + g)).cells y.2) 85) := HM_e3.out.aw (i := j) ⟨HJb.out.a, HJb.out.x⟩
 clear hL kB
 go_wp2_with fail
 refine hK.out _ _ (⟨HM_e3.out.va, VX_e3.out⟩) (fun hh_ => ?_)
 try simp only [nrm]
 clear hK K
 refine dN ?_
 clear hh_
 have HU3 : Hid (But (fun q => q = F.pl ∨ q = F.ml ∨ q = x.1 ∨ q = y.1) w we3) := HU.out.trans KB.out (fun q _ hq => hq.elim Or.inl (fun e => Or.inr (Or.inl e)))
 have BB_e3 := hI_ (Below.refl we3.heap.size we3)
 have hcc : 0 ≤ pcnt M.b (xl1 a.cur n) M.n ∧ pcnt M.b (xl1 a.cur n) M.n ≤ 4611686018427387904 := by have := HC.out; unfold pcnt; split <;> omega
 have HCC := hI_ hcc
 clear hcc KB HU HS_d3 HM_d3 HT_d3 VR_d3 VX_d3 VY_d3 BB_d3
 go_upto_region 4 with fail
 clear VX_e3
 refine wp_region_noPanic ?_
 refine wp_region_held_drew (S := fun V => VA V F.pm (mcells F M) 100 ∧ VA V y.1 ((setB b (b.bal + g)).cells y.2) 85 ∧ VA V wa.heap.size (dcs r 12) 44) (by kernel_rfl) (⟨HM_e3.out.va.drew, VY_e3.out.drew, VR_e3.out.drew⟩) ?_
 intro hh_
 have by4 := (Below.refl we3.heap.size we3).drew
 have HM_y4 := hI_ (HM_e3.out.step by4)
 have HT_y4 := hI_ (HT_e3.out.step by4)
 have VR_y4 := hI_ (VR_e3.out.step by4)
 have VY_y4 := hI_ (VY_e3.out.step by4)
 have BB_y4 := hI_ (BB_e3.out.trans (by4.mono BB_e3.out.size))
 generalize we3.drew = wy4 at *
 clear by4
 refine tL 0 63 (.pointer (some ⟨F.pm, 0, none⟩)) ?_ ?_
 ·intro wq hS
  go_simp
 try simp only [nrm]
 refine tL 1 64 (.pointer (some ⟨F.pm, 0, none⟩)) ?_ ?_
 ·intro wq hS
  go_simp
 try simp only [nrm]
 refine tL 2 65 (.pointer (some ⟨F.pm, 4, none⟩)) ?_ ?_
 ·intro wq hS
  go_simp
 try simp only [nrm]
 refine tL 3 66 (.pointer (some ⟨F.pl, 0, none⟩)) ?_ ?_
 ·intro wq hS
  have c := VA.cell hS.1 4 (v := .pointer (some ⟨F.pl, 0, none⟩)) rfl
  go_simp
 try simp only [nrm]
 refine tL 4 67 (.pointer (some ⟨y.1, 0, none⟩)) ?_ ?_
 ·intro wq hS
  go_simp
 try simp only [nrm]
 refine tL 5 68 (.pointer (some ⟨y.1, 0, none⟩)) ?_ ?_
 ·intro wq hS
  go_simp
 try simp only [nrm]
 refine tL 6 69 (.pointer (some ⟨y.1, 0, none⟩)) ?_ ?_
 ·intro wq hS
  go_simp
 try simp only [nrm]
 refine tL 7 70 (.pointer (some ⟨y.1, 2, none⟩)) ?_ ?_
 ·intro wq hS
  go_simp
 try simp only [nrm]
 refine tL 8 71 (.int .i64 b.cur) ?_ ?_
 ·intro wq hS
  have c := VA.cell hS.2.1 2 (v := .int .i64 b.cur) rfl
  go_simp
 try simp only [nrm]
 refine tL 9 72 (.int .i64 g) ?_ ?_
 ·intro wq hS
  go_simp
 try simp only [nrm]
 refine tL 12 75 (.pointer (some ⟨y.1, 0, none⟩)) ?_ ?_
 ·intro wq hS
  go_simp
 try simp only [nrm]
 refine tL 13 76 (.pointer (some ⟨y.1, 0, none⟩)) ?_ ?_
 ·intro wq hS
  go_simp
 try simp only [nrm]
 refine tL 14 77 (.pointer (some ⟨y.1, 0, none⟩)) ?_ ?_
 ·intro wq hS
  go_simp
 try simp only [nrm]
 refine tL 15 78 (.pointer (some ⟨y.1, 2, none⟩)) ?_ ?_
 ·intro wq hS
  go_simp
 try simp only [nrm]
 refine tL 16 79 (.int .i64 b.cur) ?_ ?_
 ·intro wq hS
  have c := VA.cell hS.2.1 2 (v := .int .i64 b.cur) rfl
  go_simp
 try simp only [nrm]
 refine tK 17 80 (.agg #[.int .i64 (dhi (r)), .int .u64 (dlo (r)), .int .i64 12]) (by exact rfl) (yieldsIf_load_mid (by rfl) _ _ rfl _ _ rfl _ _ (fun wq hS => (fun k v hk => by rw [Nat.zero_add]; exact VA.cell hS.2.2 k hk)) underlying44 rfl dA) ?_
 try simp only [nrm]
 refine tL 18 81 (.agg #[.int .i64 7, .int .i64 b.cur, .int .i64 (dhi (r)), .int .u64 (dlo (r)), .int .i64 12]) ?_ ?_
 ·intro wq hS
  go_simp
 try simp only [nrm]
 refine tL 19 82 (.pointer (some ⟨y.1, 0, none⟩)) ?_ ?_
 ·intro wq hS
  go_simp
 try simp only [nrm]
 refine tL 20 83 (.pointer (some ⟨y.1, 0, none⟩)) ?_ ?_
 ·intro wq hS
  go_simp
 try simp only [nrm]
 refine tL 21 84 (.pointer (some ⟨y.1, 0, none⟩)) ?_ ?_
 ·intro wq hS
  go_simp
 try simp only [nrm]
 refine tL 22 85 (.pointer (some ⟨y.1, 2, none⟩)) ?_ ?_
 ·intro wq hS
  go_simp
 try simp only [nrm]
 refine tL 23 86 (.int .i64 b.cur) ?_ ?_
 ·intro wq hS
  have c := VA.cell hS.2.1 2 (v := .int .i64 b.cur) rfl
  go_simp
 try simp only [nrm]
 refine tL 24 87 (.int .i64 g) ?_ ?_
 ·intro wq hS
  go_simp
 try simp only [nrm]
 refine tL 25 88 (.int .i64 (-g)) ?_ ?_
 ·intro wq hS
  go_simp
  try (rw [IntKind.wrap_i64]; omega)
 try simp only [nrm]
 refine tL 28 91 (.pointer (some ⟨y.1, 0, none⟩)) ?_ ?_
 ·intro wq hS
  go_simp
 try simp only [nrm]
 refine tL 29 92 (.pointer (some ⟨y.1, 0, none⟩)) ?_ ?_
 ·intro wq hS
  go_simp
 try simp only [nrm]
 refine tL 30 93 (.pointer (some ⟨y.1, 0, none⟩)) ?_ ?_
 ·intro wq hS
  go_simp
 try simp only [nrm]
 refine tL 31 94 (.pointer (some ⟨y.1, 2, none⟩)) ?_ ?_
 ·intro wq hS
  go_simp
 try simp only [nrm]
 refine tL 32 95 (.int .i64 b.cur) ?_ ?_
 ·intro wq hS
  have c := VA.cell hS.2.1 2 (v := .int .i64 b.cur) rfl
  go_simp
 try simp only [nrm]
 refine tK 33 96 (.agg #[.int .i64 (dhi (r)), .int .u64 (dlo (r)), .int .i64 12]) (by exact rfl) (yieldsIf_load_mid (by rfl) _ _ rfl _ _ rfl _ _ (fun wq hS => (fun k v hk => by rw [Nat.zero_add]; exact VA.cell hS.2.2 k hk)) underlying44 rfl dA) ?_
 try simp only [nrm]
 clear hh_
 refine rdy 10 (fun K hK => ?_)
 go_simp
 refine Calls.mono (gU g wy4 HG.out.1) ?_
 rintro e wa4 ⟨rfl, ba4⟩
 have HM_a4 := hI_ (HM_y4.out.step ba4)
 have HT_a4 := hI_ (HT_y4.out.step ba4)
 have VR_a4 := hI_ (VR_y4.out.step ba4)
 have VY_a4 := hI_ (VY_y4.out.step ba4)
 have BB_a4 := hI_ (BB_y4.out.trans (ba4.mono BB_y4.out.size))
 clear ba4
 go_wp2_with fail
 refine hK.out _ _ (⟨HM_a4.out.va, VY_a4.out, VR_a4.out⟩) (fun hh_ => ?_)
 try simp only [nrm]
 clear hK K
 refine tL 11 74 (.agg #[.int .i64 7, .int .i64 b.cur, .int .i64 (dhi (g * 1000000000000)), .int .u64 (dlo (g * 1000000000000)), .int .i64 12]) ?_ ?_
 ·intro wq hS
  go_simp
 try simp only [nrm]
 clear hh_
 refine rdy 26 (fun K hK => ?_)
 go_simp
 refine Calls.mono (ez wa4 (-g) HG.out.2) ?_
 rintro e wc4 ⟨rfl, bc4⟩
 have HM_c4 := hI_ (HM_a4.out.step bc4)
 have HT_c4 := hI_ (HT_a4.out.step bc4)
 have VR_c4 := hI_ (VR_a4.out.step bc4)
 have VY_c4 := hI_ (VY_a4.out.step bc4)
 have BB_c4 := hI_ (BB_a4.out.trans (bc4.mono BB_a4.out.size))
 clear bc4
 go_wp2_with fail
 refine hK.out _ _ (⟨HM_c4.out.va, VY_c4.out, VR_c4.out⟩) (fun hh_ => ?_)
 try simp only [nrm]
 clear hK K
 refine tL 27 90 (.agg #[.int .i64 2, .int .i64 b.cur, .int .i64 (dhi (-g)), .int .u64 (dlo (-g)), .int .i64 0]) ?_ ?_
 ·intro wq hS
  go_simp
 try simp only [nrm]
 clear hh_
 refine rdy 34 (fun K hK => ?_)
 go_simp
 refine Calls.mono (iE r 12 wc4 HRR.out) ?_
 rintro e wg4 ⟨rfl, bg4⟩
 have HM_g4 := hI_ (HM_c4.out.step bg4)
 have HT_g4 := hI_ (HT_c4.out.step bg4)
 have VR_g4 := hI_ (VR_c4.out.step bg4)
 have VY_g4 := hI_ (VY_c4.out.step bg4)
 have BB_g4 := hI_ (BB_c4.out.trans (bg4.mono BB_c4.out.size))
 clear bg4
 go_wp2_with fail
 refine hK.out _ _ (⟨HM_g4.out.va, VY_g4.out, VR_g4.out⟩) (fun hh_ => ?_)
 try simp only [nrm]
 clear hK K
 refine tL 35 98 (.agg #[.int .i64 8, .int .i64 b.cur, .int .i64 (dhi (-r)), .int .u64 (dlo (-r)), .int .i64 12]) ?_ ?_
 ·intro wq hS
  go_simp
 try simp only [nrm]
 clear hh_
 refine rdy 36 (fun K hK => ?_)
 refine s5 (by rfl) (yn _ _ _ _ rfl ⟨7, b.cur, dhi (g * 1000000000000), dlo (g * 1000000000000), 12⟩ ⟨7, b.cur, dhi (r), dlo (r), 12⟩ ⟨2, b.cur, dhi (-g), dlo (-g), 0⟩ ⟨8, b.cur, dhi (-r), dlo (-r), 12⟩ (by rfl) (by rfl) (by rfl) (by rfl) ?_)
 have bd := (Below.refl wg4.heap.size wg4).alloc (Nat.le_refl _) (.cells (LN.cells (xl2 b.cur g r)).toArray 91)
 have HS_d4 := hI_ (ip (K := LN) (xs := xl2 b.cur g r) (aa wg4 (LN.cells (xl2 b.cur g r)) 91) (by rw [uQ]; decide))
 have HM_d4 := hI_ (HM_g4.out.step bd)
 have HT_d4 := hI_ (HT_g4.out.step bd)
 have VR_d4 := hI_ (VR_g4.out.step bd)
 have VY_d4 := hI_ (VY_g4.out.step bd)
 have BB_d4 := hI_ (BB_g4.out.trans (bd.mono BB_g4.out.size))
 clear bd
 rw [show LN.cells [(⟨7, b.cur, dhi (g * 1000000000000), dlo (g * 1000000000000), 12⟩ : Ln), ⟨7, b.cur, dhi (r), dlo (r), 12⟩, ⟨2, b.cur, dhi (-g), dlo (-g), 0⟩, ⟨8, b.cur, dhi (-r), dlo (-r), 12⟩] = LN.cells (xl2 b.cur g r) from rfl]
 rw [uQ] at HS_d4
 generalize wg4.alloc (.cells (LN.cells (xl2 b.cur g r)).toArray 91) = wd4 at *
 generalize wg4.heap.size = qd4 at *
 refine hK.out _ _ (⟨HM_d4.out.va, VY_d4.out, VR_d4.out⟩) (fun hh_ => ?_)
 try simp only [nrm]
 clear hK K hh_
 refine rdy 37 (fun K hK => ?_)
 go_simp
 refine Calls.mono (jG F.pl F.ml _ _ _ (xl2 b.cur g r) wd4 HM_d4.out.led HS_d4.out (wL HAJ.out.cur HG2.out.1 HG2.out.2 HR2.out.1 HR2.out.2) HT_d4.out.lim (HCC.out)) ?_
 rintro e we4 ⟨rfl, hL, kB⟩
 have HM_e4 := hI_ (HM_d4.out.setL kB hL)
 have KB : Hid (But (fun q => q = F.pl ∨ q = F.ml) we3 we4) := (ac BB_d4.out _).trans kB (fun _ _ hx => hx)
 have VR_e4 : Hid (VA we4 wa.heap.size (dcs r 12) 44) := VR_d4.out.but kB (fun hq => by have := HLT.out; have := HS.out; rcases hq with h | h <;> omega)
 have VY_e4 : Hid (VA we4 y.1 ((setB b (b.bal + g)).cells y.2) 85) := HM_e4.out.aw (i := j) ⟨HJb.out.a, HJb.out.x⟩
 clear hL kB
 go_wp2_with fail
 refine hK.out _ _ (⟨HM_e4.out.va, VY_e4.out, VR_e4.out⟩) (fun hh_ => ?_)
 try simp only [nrm]
 clear hK K
 refine dN ?_
 clear hh_
 have HU4 : Hid (But (fun q => q = F.pl ∨ q = F.ml ∨ q = x.1 ∨ q = y.1) w we4) := HU3.out.trans KB.out (fun q _ hq => hq.elim Or.inl (fun e => Or.inr (Or.inl e)))
 go_wp2_with fail
 exact bodyPost_end (v := .tuple #[]) (by simp [results, results91, go_sem]) rfl ⟨rfl, HM_e4.out, HU4.out⟩
theorem nR (w : World) (B : Nat) (F : FB) (M : PM) (hM : MD w B F M) (T : TBL w) (hB : 6 ≤ B) (e : EV) (tv : Value) (hop : e.op = 12) (i : Nat) (a : PA) (x : Nat × Nat) (hi : IsA F M i a x) (hid : a.id = e.n0) (j : Nat) (b : PA) (y : Nat × Nat) (hj : IsA F M j b y) (hjd : b.id = e.n1) (hij : i ≠ j) (g rs : Int) (hcv : cvA M a.cur b.cur e.n2 = (g, dcs rs 12, 0)) (n1 : 1 ≤ e.n2) (n2 : e.n2 ≤ 10000000000000) (g1 : 0 ≤ g) (g2 : g ≤ 10000000000000) (r1 : 0 ≤ rs) (r2 : rs ≤ 1000000000000) (v1 : -10000000000000 ≤ a.bal - e.n2) (v2 : a.bal - e.n2 ≤ 10000000000000) (u1 : -10000000000000 ≤ b.bal + g) (u2 : b.bal + g ≤ 10000000000000) (hm : 0 ≤ M.n ∧ M.n ≤ 4611686018427387000) :
  Calls prog 55 #[.pointer (some ⟨F.pm, 0, none⟩), .agg (e.cells tv).toArray] w fun r w' => r = .returned (.tuple #[]) ∧ MD w' B F (exM M i a e.n2 j b g rs) ∧ But F.core w w' := by
 obtain ⟨HE0, HB0, HN0, y0, y1, y2, y3, y4, y5, y6, y7⟩ := cr w e tv
 have HH : Hid (MD w B F M ∧ TBL w) := ⟨hM, T⟩
 have HQ : Hid (6 ≤ B ∧ ∀ j, F.core j → j < w.heap.size) := ⟨hB, fun j hj => hM.core_lt hj⟩
 have HOP : Hid (e.op = 12) := hop
 have H_hi := hI_ hi
 have H_hid := hI_ hid
 have H_hj := hI_ hj
 have H_hjd := hI_ hjd
 have H_hij := hI_ hij
 have H_hm := hI_ hm
 have H_hcv := hI_ hcv
 clear hi hid hj hjd hij hm hcv hM T hB hop
 go_enter func55, ntmps55
 go_upto_region 2 with (refine eSt e HN0 ?_; intro w1 hv1 hu1)
 have hb1 := hu1.bel HB0.out (by omega)
 have HM_1 : Hid (MD w1 B F M) := HH.out.1.step hb1
 have HT_1 : Hid (TBL w1) := HH.out.2.step hb1
 have BB_1 := hI_ hb1
 have HE_1 := hI_ (HE0.out.upd hu1 (by omega))
 have HN_1 := hI_ hv1
 have y := eY 12 HE_1 HOP
 clear hb1 hv1 hu1 HN0 HE0 HB0 HH y0 y1 y2 y3 y4 y5 y6 y7
 go_upto_region 27 with fail
 clear y
 refine wp_region_noPanic ?_
 refine wp_region_held_drew (S := fun V => VA V (w.heap.size + 1) [.int .i64 e.n0, .int .i64 e.n1, .int .i64 e.n2, .int .i64 e.n3, .int .i64 e.n4, .int .i64 e.n5, .int .i64 e.n6, .int .i64 e.n7] 28) (by kernel_rfl) (HN_1.out.drew) ?_
 intro hh_
 have bz := (Below.refl w1.heap.size w1).drew
 have HM_z := hI_ (HM_1.out.step bz)
 have HT_z := hI_ (HT_1.out.step bz)
 have HN_z := hI_ (HN_1.out.step bz)
 have BB_z := hI_ (BB_1.out.trans (bz.mono BB_1.out.size))
 generalize w1.drew = wz at *
 clear bz
 refine tL 0 140 (.pointer (some ⟨F.pm, 0, none⟩)) ?_ ?_
 ·intro wq hS
  go_simp
 try simp only [nrm]
 refine tL 1 141 (.pointer (some ⟨F.pm, 0, none⟩)) ?_ ?_
 ·intro wq hS
  go_simp
 try simp only [nrm]
 refine tL 2 142 (.pointer (some ⟨w.heap.size + 1, 0, none⟩)) ?_ ?_
 ·intro wq hS
  go_simp
 try simp only [nrm]
 refine tL 3 143 (.int .i64 e.n0) ?_ ?_
 ·intro wq hS
  have c := VA.cell hS 0 (v := .int .i64 e.n0) rfl
  go_simp
 try simp only [nrm]
 refine tL 5 145 (.pointer (some ⟨F.pm, 0, none⟩)) ?_ ?_
 ·intro wq hS
  go_simp
 try simp only [nrm]
 refine tL 6 146 (.pointer (some ⟨w.heap.size + 1, 1, none⟩)) ?_ ?_
 ·intro wq hS
  go_simp
 try simp only [nrm]
 refine tL 7 147 (.int .i64 e.n1) ?_ ?_
 ·intro wq hS
  have c := VA.cell hS 1 (v := .int .i64 e.n1) rfl
  go_simp
 try simp only [nrm]
 refine tL 9 149 (.pointer (some ⟨w.heap.size + 1, 2, none⟩)) ?_ ?_
 ·intro wq hS
  go_simp
 try simp only [nrm]
 refine tL 10 150 (.int .i64 e.n2) ?_ ?_
 ·intro wq hS
  have c := VA.cell hS 2 (v := .int .i64 e.n2) rfl
  go_simp
 try simp only [nrm]
 clear hh_
 refine rdy 4 (fun K hK => ?_)
 go_simp
 refine Calls.mono (bn wz B F M HM_z.out H_hi.out H_hid.out) ?_
 rintro e wq ⟨rfl, hwq⟩
 obtain rfl := hwq.symm
 clear hwq
 go_wp2_with fail
 refine hK.out _ _ (HN_z.out) (fun hh_ => ?_)
 try simp only [nrm]
 clear hK K hh_
 refine rdy 8 (fun K hK => ?_)
 go_simp
 refine Calls.mono (bn wz B F M HM_z.out H_hj.out H_hjd.out) ?_
 rintro e wq ⟨rfl, hwq⟩
 obtain rfl := hwq.symm
 clear hwq
 go_wp2_with fail
 refine hK.out _ _ (HN_z.out) (fun hh_ => ?_)
 try simp only [nrm]
 clear hK K hh_
 refine rdy 11 (fun K hK => ?_)
 go_simp
 refine (qy wz B F M HM_z.out HT_z.out HQ.out.1 i j a b x y H_hi.out H_hj.out H_hij.out e.n2 g rs H_hcv.out n1 n2 g1 g2 r1 r2 v1 v2 u1 u2 H_hm.out).mono ?_
 rintro r w4 ⟨rfl, h1, h2⟩
 have HM_4 : Hid (MD w4 B F _) := h1
 have HN_4 : Hid (VA w4 (w.heap.size + 1) [.int .i64 e.n0, .int .i64 e.n1, .int .i64 e.n2, .int .i64 e.n3, .int .i64 e.n4, .int .i64 e.n5, .int .i64 e.n6, .int .i64 e.n7] 28) := HN_z.out.but h2 (fun hj => by have := HQ.out.2 _ (gj H_hi.out.x H_hj.out.x hj); omega)
 have HB_4 : Hid (But F.core w w4) := (ac BB_z.out F.core).trans h2 (fun j _ hj => gj H_hi.out.x H_hj.out.x hj)
 clear h1 h2
 go_wp2_with fail
 refine hK.out _ _ HN_4.out (fun hh_ => ?_)
 try simp only [nrm]
 clear hK K hh_
 refine dN ?_
 go_wp2_with fail
 exact bodyPost_end (v := .tuple #[]) (by simp [results, results55, go_sem]) rfl ⟨rfl, HM_4.out, HB_4.out⟩
theorem pn (w : World) (B : Nat) (F : FB) (M M' : PM) (hM : MD w B F M) (e : EV) (he : e.ok) (tv : Value) (R : Tr w tv e.ts) (hno : ∀ n c, tv = .slice none n c → c = 0) (T : TBL w) (f : Bool) (hform : f = true ↔ ({ e with n3 := 0 } : EV).e8.form) (hday : ofDay e.op = false) (h12 : e.op = 12) (hE : EX M { e with n3 := 0 } = e) (hyes : refL M { e with n3 := 0 } f = 0) (hlen : e.ts.length ≤ 8796093022208)
  (hch : ∀ w1, Below w.heap.size w w1 → Calls prog 55 #[.pointer (some ⟨F.pm, 0, none⟩), .agg (e.cells tv).toArray] w1 fun r w' => ∃ F', r = .returned (.tuple #[]) ∧ MD w' B F' M' ∧ F'.pm = F.pm ∧ F'.km = F.km ∧ But (F.reach w1 B) w1 w') (hkl : M'.keys.length < 1000000000000) (hs1 : 0 ≤ M'.seq) (hs2 : M'.seq < 1000000000000000) :
  Calls prog 29 #[.pointer (some ⟨F.pm, 0, none⟩), .agg (e.cells tv).toArray] w fun r w' => ∃ F', r = .returned (.int .i64 0) ∧ MD w' B F' { M' with keys := useL M'.keys e.key, seq := M'.seq + 1 } ∧ F'.pm = F.pm ∧ F'.km = F.km ∧ But (F.reach w B) w w' := by
 have HTF := eTF R
 have hz : ({ e with n3 := 0 } : EV).ok := ⟨he.op, he.key, he.n0, he.n1, he.n2, qk, he.n4, he.n5, he.n6, he.n7⟩
 have HP := (show Hid (∀ w1, Below w.heap.size w w1 → Calls prog 19 #[.pointer (some ⟨F.pm, 0, none⟩), .agg (({ e with n3 := 0 } : EV).cells tv).toArray] w1 fun r w' => (∃ u, r = .returned (.tuple #[.agg (e.cells u).toArray, .int .i64 (gotM M { e with n3 := 0 }), .int .i64 0]) ∧ OwnT w' w1.heap.size u e.ts) ∧ Below w1.heap.size w1 w') from fun w1 (b : Below w.heap.size w w1) => by
  have h := nh w1 B F M (hM.step b) { e with n3 := 0 } hz tv (R.step b) hno (T.step b) f hform hyes h12 hlen
  rw [hE] at h
  exact h)
 have HCH := hI_ hch
 have HR : Hid (∀ w1, Below w.heap.size w w1 → Tr w1 tv e.ts) := fun w1 b => R.step b
 have HW : Hid (MD w B F M) := hM
 have HOK : Hid (e.ok ∧ M'.keys.length < 1000000000000) := ⟨he, hkl⟩
 have e12 : ((e.op : Int) == 12) = true := by rw [h12]; rfl
 have b0 := (Below.refl w.heap.size w).alloc (Nat.le_refl _) (.cells (e.cells tv).toArray 31)
 have b1 := b0.alloc (by simp) (.cells #[.int .u8 0, .int .u64 0, .int .i64 0, .int .i64 0, .int .i64 0, .int .i64 0, .int .i64 0, .int .i64 0, .int .i64 0, .int .i64 0, .slice none 0 0] 31)
 have V0 := aa w (e.cells tv) 31
 have hv1 := aa (w.alloc (.cells (e.cells tv).toArray 31)) ([.int .u8 0, .int .u64 0, .int .i64 0, .int .i64 0, .int .i64 0, .int .i64 0, .int .i64 0, .int .i64 0, .int .i64 0, .int .i64 0, .slice none 0 0] : List Value) 31
 rw [World.size_alloc] at hv1
 have y := V0.cell 0 (v := .int .u8 (e.op : Int)) rfl
 have HE_0 := hI_ V0
 have HF_0 := hI_ (V0.alloc (.cells #[.int .u8 0, .int .u64 0, .int .i64 0, .int .i64 0, .int .i64 0, .int .i64 0, .int .i64 0, .int .i64 0, .int .i64 0, .int .i64 0, .slice none 0 0] 31))
 have HV_0 := hI_ hv1
 have BB_0 := hI_ b1
 clear b0 b1 V0 hv1 hM R hno T hform hyes h12 hch hkl he hz hE
 go_enter func29, ntmps29
 go_wp2_with fail
 refine (dj e.op _).mono ?_
 rintro r wq ⟨rfl, hq⟩
 obtain rfl := hq.symm
 clear hq
 rw [hday]
 go_upto_region 4 with (first | (refine ldA rfl 31 _ rfl w.heap.size (by rfl) _ _ HE_0.out _ underlying31 rfl aj ?_) | (refine stA rfl 31 _ _ rfl (w.heap.size + 1) (by rfl) ([.int .u8 0, .int .u64 0, .int .i64 0, .int .i64 0, .int .i64 0, .int .i64 0, .int .i64 0, .int .i64 0, .int .i64 0, .int .i64 0, .slice none 0 0] : List Value) (e.cells tv) (by rfl) 31 HV_0.out aj rfl (EV.one e HTF.out) ?_; intro w1 v1 u1))
 have BB_1 : Hid (Below w.heap.size w w1) := u1.bel BB_0.out (by omega)
 have HV_1 := hI_ v1
 have HE_1 : Hid (VA w1 w.heap.size (e.cells tv) 31) := HF_0.out.upd u1 (by omega)
 have z := HV_1.out.cell 0 (v := .int .u8 (e.op : Int)) rfl
 clear v1 u1 y HE_0 HF_0 HV_0 BB_0
 have c5 := HV_1.out.cell 5 (v := .int .i64 e.n3) rfl
 have f5 := HV_1.out.free 5
 have hbk := HV_1.out.blk
 have uq := au w1 (w.heap.size + 1) 5 (.int .i64 0)
 have HVz : Hid (VA (w1.setCell ⟨w.heap.size + 1, 5, none⟩ (.int .i64 0)) (w.heap.size + 1) (({ e with n3 := 0 } : EV).cells tv) 31) := HV_1.out.set 5 (.int .i64 0)
 have HEz : Hid (VA (w1.setCell ⟨w.heap.size + 1, 5, none⟩ (.int .i64 0)) w.heap.size (e.cells tv) 31) := HE_1.out.upd uq (by omega)
 have BBz := hI_ (uq.bel BB_1.out (by omega))
 go_upto_region 6 with fail
 clear uq c5 f5 hbk z HV_1 HE_1 BB_1
 generalize w1.setCell ⟨w.heap.size + 1, 5, none⟩ (.int .i64 0) = wy at *
 have HV_1 := hI_ HVz.out
 have HE_1 := hI_ HEz.out
 have BB_1 := hI_ BBz.out
 clear HVz HEz BBz
 go_wp2_with (refine ldA rfl 31 _ rfl (w.heap.size + 1) (by rfl) _ _ HV_1.out _ underlying31 rfl aj ?_)
 refine (HP.out wy BB_1.out).mono ?_
 rintro r w2 ⟨⟨u, rfl, ou⟩, b2⟩
 obtain ⟨ua, un, uc, rfl⟩ := ou.form
 have BB_2 : Hid (Below w.heap.size w w2) := BB_1.out.trans (b2.mono BB_1.out.size)
 have V2 := aa w2 ([.int .u8 0, .int .u64 0, .int .i64 0, .int .i64 0, .int .i64 0, .int .i64 0, .int .i64 0, .int .i64 0, .int .i64 0, .int .i64 0, .slice none 0 0] : List Value) 31
 have B2 := (Below.refl w2.heap.size w2).alloc (Nat.le_refl _) (.cells #[.int .u8 0, .int .u64 0, .int .i64 0, .int .i64 0, .int .i64 0, .int .i64 0, .int .i64 0, .int .i64 0, .int .i64 0, .int .i64 0, .slice none 0 0] 31)
 have HV_2 := hI_ V2
 have HO_2 : Hid (OwnT _ wy.heap.size (.slice ua un uc) e.ts) := ou.step B2
 have HE_2 := hI_ ((HE_1.out.step b2).step B2)
 have BB_3 := hI_ (BB_2.out.trans (B2.mono BB_2.out.size))
 have s2 := BB_2.out.size
 have l2 := (HE_1.out.step b2).lt
 clear b2 V2 B2 HV_1 BB_1 ou HE_1
 go_upto_region 9 with (refine stA rfl 31 _ _ rfl w2.heap.size (by rfl) ([.int .u8 0, .int .u64 0, .int .i64 0, .int .i64 0, .int .i64 0, .int .i64 0, .int .i64 0, .int .i64 0, .int .i64 0, .int .i64 0, .slice none 0 0] : List Value) (e.cells (.slice ua un uc)) (by rfl) 31 HV_2.out aj rfl (EV.one e ⟨ua, un, uc, rfl⟩) ?_; intro w3 v3 u3)
 have BB_4 : Hid (Below w.heap.size w w3) := u3.bel BB_3.out s2
 have HV_3 := hI_ v3
 have HO_3 : Hid (OwnT w3 wy.heap.size (.slice ua un uc) e.ts) := OwnT.updV HO_2.out HV_2.out (by decide) u3
 have HE_3 : Hid (VA w3 w.heap.size (e.cells tv) 31) := HE_2.out.upd u3 (by omega)
 clear v3 u3 HV_2 HO_2 HE_2 BB_3 BB_2
 go_wp2_with (first | (refine ldA rfl 31 _ rfl w2.heap.size (by rfl) _ _ HV_3.out _ underlying31 rfl aj ?_) | (refine ldA rfl 31 _ rfl w.heap.size (by rfl) _ _ HE_3.out _ underlying31 rfl aj ?_))
 refine Calls.mono (gR e.e8 (.slice ua un uc) tv w3 (EV.ok8 HOK.out.1) HO_3.out.tr (HR.out w3 BB_4.out)) ?_
 rintro r w4 ⟨rfl, b4⟩
 have BB_5 : Hid (Below w.heap.size w w4) := BB_4.out.trans (b4.mono BB_4.out.size)
 have HE_4 : Hid (VA w4 w.heap.size (e.cells tv) 31) := HE_3.out.step b4
 clear b4 HV_3 HO_3 HE_3 BB_4
 go_wp2_with (refine ldA rfl 31 _ rfl w.heap.size (by rfl) _ _ HE_4.out _ underlying31 rfl aj ?_)
 refine (HCH.out w4 BB_5.out).mono ?_
 rintro r w5 ⟨F', rfl, h1, h2, h3, h4⟩
 have HM_5 : Hid (MD w5 B F' M') := h1
 have HPK : Hid (F'.pm = F.pm ∧ F'.km = F.km) := ⟨h2, h3⟩
 have HB_5 : Hid (But (F.reach w B) w w5) := (ac BB_5.out _).trans h4 (fun j hl hj => FB.reach_back BB_5.out hl hj)
 have HE_5 : Hid (VA w5 w.heap.size (e.cells tv) 31) := HE_4.out.but h4 (HW.out.reach_no HE_4.out (Nat.le_refl _) (by decide) (by decide))
 have y := HE_5.out.cell 1 (v := .int .u64 (e.key : Int)) rfl
 rw [← h2]
 clear h1 h2 h3 h4 HE_4 BB_5
 go_wp2_with fail
 refine (n9 w5 B F' M' HM_5.out e.key (by have := HOK.out.1.key; omega) HOK.out.2).mono ?_
 rintro r w6 ⟨rfl, h1, h2⟩
 have HM_6 := hI_ h1
 have HB_6 : Hid (But (F.reach w B) w w6) := HB_5.out.trans h2 (fun j _ hj => Or.inl (Or.inr (Or.inr (Or.inr (Or.inr (Or.inl (hj.trans HPK.out.2)))))))
 clear h1 h2 y HE_5
 have c9 := HM_6.out.va.cell 9 (v := .int .i64 M'.seq) rfl
 have f9 := HM_6.out.va.free 9
 have hbk := HM_6.out.va.blk
 have U7 := au w6 F'.pm 9 (.int .i64 (M'.seq + 1))
 have V7 : VA (w6.setCell ⟨F'.pm, 9, none⟩ (.int .i64 (M'.seq + 1))) F'.pm (mcells F' { M' with keys := useL M'.keys e.key, seq := M'.seq + 1 }) 100 := HM_6.out.va.set 9 (.int .i64 (M'.seq + 1))
 go_wp2_with fail
 have hw := HM_6.out.wf
 refine bodyPost_ret (v := .int .i64 0) (by simp [results, results29, go_sem]) rfl ⟨F', rfl, HM_6.out.setM U7 V7 ⟨rfl, rfl, rfl, rfl, rfl, rfl⟩ ⟨hw.day, hw.acs, hw.sort, hw.len, hw.rats, ⟨by show 0 ≤ M'.seq + 1; omega, by show M'.seq + 1 ≤ _; omega⟩, hw.run, hw.adds⟩, HPK.out.1, HPK.out.2, HB_6.out.trans U7.but (fun j _ hj => Or.inl (Or.inl (hj.trans HPK.out.1)))⟩
theorem xA {M : PM} {c u n : Int} (h : (cvA M c u n).2.2 = 0) : ∃ r, rateO M c u = some r ∧ c ≠ u ∧ (1 ≤ n ∧ n ≤ 10000000000000) ∧ gt u.toNat (wor c.toNat n.toNat r.toNat) ≤ 10000000000000 ∧ cvA M c u n = (((gt u.toNat (wor c.toNat n.toNat r.toNat) : Nat) : Int), dcs ((rsd u.toNat (wor c.toNat n.toNat r.toNat) : Nat) : Int) 12, 0) := by
 cases hr : rateO M c u with
 | none =>
  unfold cvA at h
  rw [hr] at h
  cases h
 | some r =>
  have e : cvA M c u n = cvR c u n r := by unfold cvA; rw [hr]
  rw [e] at h ⊢
  unfold cvR at h ⊢
  split at h
  ·rename_i h1
   rw [if_pos h1]
   split at h
   ·rename_i h2
    rw [if_pos h2]
    split at h
    ·cases h
    ·rename_i h3
     rw [if_neg h3]
     exact ⟨r, rfl, h3, h1, h2, rfl⟩
   ·cases h
  ·cases h
def resM (M : PM) (e : EV) : Int := match acctO M e.n0, acctO M e.n1 with
 | some a, some b => match rateO M a.cur b.cur with
  | some r => ((rsd b.cur.toNat (wor a.cur.toNat e.n2.toNat r.toNat) : Nat) : Int)
  | none => 0
 | _, _ => 0
def chgX (M : PM) (e : EV) : PM := { M with al := onA (onA M.al e.n0 (addB (-e.n2))) e.n1 (addB (gotM M e)), b := pst (pst M.b (xl1 (curA M e.n0) e.n2)) (xl2 (curA M e.n1) (gotM M e) (resM M e)), n := pcnt (pst M.b (xl1 (curA M e.n0) e.n2)) (xl2 (curA M e.n1) (gotM M e) (resM M e)) (pcnt M.b (xl1 (curA M e.n0) e.n2) M.n) }
def nxtX (M : PM) (e : EV) : PM := { chgX M e with keys := useL M.keys e.key, seq := M.seq + 1 }
theorem nf (b : Int → Int → Int) (ls : List Ln) (m : Int) : m ≤ pcnt b ls m ∧ pcnt b ls m ≤ m + 1 := by
 unfold pcnt
 split <;> omega
theorem qI {M : PM} (h : M.cnt) (hs : M.seq < 1000000000) (e : EV) : (nxtX M e).cnt := by
 obtain ⟨h1, h2, h3, h4⟩ := h
 have a1 := nf M.b (xl1 (curA M e.n0) e.n2) M.n
 have a2 := nf (pst M.b (xl1 (curA M e.n0) e.n2)) (xl2 (curA M e.n1) (gotM M e) (resM M e)) (pcnt M.b (xl1 (curA M e.n0) e.n2) M.n)
 have a3 := lm M.keys e.key
 refine ⟨?_, ?_, ?_, ?_⟩
 ·show (M.rates.length : Int) ≤ M.seq + 1
  omega
 ·show ((useL M.keys e.key).length : Int) ≤ M.seq + 1
  omega
 ·show 0 ≤ (chgX M e).n ∧ (chgX M e).n ≤ 2 * (M.seq + 1)
  unfold chgX
  dsimp only
  omega
 ·show 0 ≤ M.seq + 1 ∧ M.seq + 1 ≤ 1000000000
  omega
structure Good12 (M : PM) (e : EV) : Prop where
 ok : e.ok
 op : e.op = 12
 form : e.e8.form
 yes : refL M e true = 0
 len : e.ts.length ≤ 8
theorem Good12.got {M : PM} {e : EV} (g : Good12 M e) : ∃ a b r, acctO M e.n0 = some a ∧ acctO M e.n1 = some b ∧ e.n0 ≠ e.n1 ∧ (1 ≤ e.n2 ∧ e.n2 ≤ 10000000000000) ∧ e.n2 ≤ spend M a ∧ roomO (some b) (gotM M e) = false ∧ rateO M a.cur b.cur = some r ∧ a.cur ≠ b.cur ∧ gotM M e = ((gt b.cur.toNat (wor a.cur.toNat e.n2.toNat r.toNat) : Nat) : Int) ∧ resM M e = ((rsd b.cur.toNat (wor a.cur.toNat e.n2.toNat r.toNat) : Nat) : Int) ∧ (0 ≤ gotM M e ∧ gotM M e ≤ 10000000000000) ∧ (0 ≤ resM M e ∧ resM M e ≤ 1000000000000) ∧ cvA M a.cur b.cur e.n2 = (gotM M e, dcs (resM M e) 12, 0) := by
 obtain ⟨h3, hne, hn2, a, b, ha, hb, _, _, _, _, hf, hc, hr⟩ := lX g.op g.yes
 obtain ⟨r, h1, h2, _, h4, h5⟩ := xA hc
 have e1 : gotM M e = ((gt b.cur.toNat (wor a.cur.toNat e.n2.toNat r.toNat) : Nat) : Int) := by
  unfold gotM
  rw [ha, hb]
  show (cvA M a.cur b.cur e.n2).1 = _
  rw [h5]
 have e2 : resM M e = ((rsd b.cur.toNat (wor a.cur.toNat e.n2.toNat r.toNat) : Nat) : Int) := by
  unfold resM
  rw [ha, hb]
  show (match rateO M a.cur b.cur with | some r => ((rsd b.cur.toNat (wor a.cur.toNat e.n2.toNat r.toNat) : Nat) : Int) | none => 0) = _
  rw [h1]
 have h6 := (jK b.cur.toNat (wor a.cur.toNat e.n2.toNat r.toNat)).1
 refine ⟨a, b, r, ha, hb, hne, hn2, hf, ?_, h1, h2, e1, e2, ⟨by omega, by omega⟩, ⟨by omega, by omega⟩, ?_⟩
 ·rw [e1]
  rw [h5] at hr
  exact hr
 ·rw [h5, e1, e2]
theorem yh {M : PM} {e : EV} (h : e.n3 = 0) : ({ EX M e with n3 := 0 } : EV) = e := by
 show ({ e with n3 := 0 } : EV) = e
 rw [← h]
theorem Good12.exok {M : PM} {e : EV} (g : Good12 M e) : (EX M e).ok := by
 obtain ⟨_, _, _, _, _, _, _, _, _, _, _, _, _, h, _, _⟩ := g.got
 have he := g.ok
 exact ⟨he.op, he.key, he.n0, he.n1, he.n2, ⟨by show _ ≤ gotM M e; omega, by show gotM M e ≤ _; omega⟩, he.n4, he.n5, he.n6, he.n7⟩
theorem uz {M : PM} (hs : M.al.Pairwise fun a b => a.id < b.id) {i j : Nat} {a b : PA} {e : EV} (ha : M.al[i]? = some a) (hb : M.al[j]? = some b) (hij : i ≠ j) (hp : a.id = e.n0) (hq : b.id = e.n1) (ho : acctO M e.n0 = some a) (ho2 : acctO M e.n1 = some b) : exM M i a e.n2 j b (gotM M e) (resM M e) = chgX M e := by
 unfold exM chgX
 rw [jo ho, jo ho2, ← na hs ha hb hij hp hq (-e.n2) (gotM M e)]
 rfl
theorem vB (w : World) (B : Nat) (F : FB) (M : PM) (hM : MD w B F M) (T : TBL w) (hB : 6 ≤ B) (e : EV) (g : Good12 M e) (tv : Value) (hc : 0 ≤ M.n ∧ M.n ≤ 4611686018427387000) :
  Calls prog 55 #[.pointer (some ⟨F.pm, 0, none⟩), .agg ((EX M e).cells tv).toArray] w fun r w' => ∃ F', r = .returned (.tuple #[]) ∧ MD w' B F' (chgX M e) ∧ F'.pm = F.pm ∧ F'.km = F.km ∧ But (F.reach w B) w w' := by
 obtain ⟨a, b, r, ha, hb, hne, hn2, hf, hr, _, _, _, _, g1, g2, hcv⟩ := g.got
 obtain ⟨i, x, hi, hid, _⟩ := hM.acct ha
 obtain ⟨j, y, hj, hjd, _⟩ := hM.acct hb
 have wa := hM.awf hi
 have wb := hM.awf hj
 have h1 := wa.bal
 have h2 := wb.bal
 have h3 := wa.held
 have h4 := hM.lim a.prod
 unfold spend at hf
 have k6 := gz wb (by omega) (by omega) hr
 have hij := hi.ne hj (by rw [hid, hjd]; exact hne)
 rw [← uz hM.wf.sort hi.a hj.a hij hid hjd ha hb]
 refine (nR w B F M hM T hB (EX M e) tv g.op i a x hi hid j b y hj hjd hij (gotM M e) (resM M e) hcv hn2.1 hn2.2 g1.1 g1.2 g2.1 g2.2 (by show _ ≤ a.bal - e.n2; omega) (by show a.bal - e.n2 ≤ _; omega) (by omega) (by omega) hc).mono ?_
 rintro r w' ⟨rfl, h1, h2⟩
 exact ⟨F, rfl, h1, rfl, rfl, h2.mono (fun j hj => Or.inl hj)⟩
theorem po (w : World) (B : Nat) (F : FB) (M : PM) (hM : MD w B F M) (hcn : M.cnt) (hs : M.seq < 1000000000) (T : TBL w) (hB : 6 ≤ B) (e : EV) (g : Good12 M e) (tv : Value) (R : Tr w tv e.ts) (hno : ∀ n c, tv = .slice none n c → c = 0) :
  Calls prog 29 #[.pointer (some ⟨F.pm, 0, none⟩), .agg ((EX M e).cells tv).toArray] w fun r w' => ∃ F', r = .returned (.int .i64 0) ∧ MD w' B F' (nxtX M e) ∧ F'.pm = F.pm ∧ F'.km = F.km ∧ But (F.reach w B) w w' := by
 have c2 := hcn.key
 have c3 := hcn.ent
 have c4 := hcn.seq
 have hz := yh (M := M) (lX g.op g.yes).1
 exact pn w B F M (chgX M e) hM (EX M e) g.exok tv R hno T true (by rw [hz]; simp [g.form]) (by show decide (e.op = 13 ∨ e.op = 14 ∨ e.op = 15) = false; rw [decide_eq_false_iff_not]; have := g.op; omega) g.op (by rw [hz]) (by rw [hz]; exact g.yes) (by have := g.len; show e.ts.length ≤ _; omega) (fun w1 b => vB w1 B F M (hM.step b) (T.step b) hB e g tv (by omega)) (by show M.keys.length < _; omega) (by show 0 ≤ M.seq; omega) (by show M.seq < _; omega)
theorem nO {w : World} {B p : Nat} {M : PM} {e : EV} (h : BK w B p M) (g : Good12 M e) {tv : Value} (R : Tr w tv e.ts) (hno : ∀ n c, tv = .slice none n c → c = 0) :
  Calls prog 19 #[.pointer (some ⟨p, 0, none⟩), .agg (e.cells tv).toArray] w fun r w' => ∃ u, r = .returned (.tuple #[.agg ((EX M e).cells u).toArray, .int .i64 (gotM M e), .int .i64 0]) ∧ OwnT w' w.heap.size u e.ts ∧ BK w' B p M ∧ KT B w w' := by
 obtain ⟨F, hM, rfl⟩ := h.md
 refine (nh w B F M hM e g.ok tv R hno h.tb true (by simp [g.form]) g.yes g.op (by have := g.len; omega)).mono ?_
 rintro r w' ⟨⟨u, rfl, o⟩, b⟩
 exact ⟨u, rfl, o, h.step b, KT.of b h.low⟩
theorem lN {w : World} {B p : Nat} {M : PM} {e : EV} (h : BK w B p M) (g : Good12 M e) (hs : M.seq < 1000000000) {tv : Value} (R : Tr w tv e.ts) (hno : ∀ n c, tv = .slice none n c → c = 0) :
  Calls prog 29 #[.pointer (some ⟨p, 0, none⟩), .agg ((EX M e).cells tv).toArray] w fun r w' => r = .returned (.int .i64 0) ∧ BK w' B p (nxtX M e) ∧ KT B w w' := by
 obtain ⟨F, hM, rfl⟩ := h.md
 refine (po w B F M hM h.cnt hs h.tb h.six e g tv R hno).mono ?_
 rintro r w' ⟨F', rfl, h1, h2, _, k⟩
 exact ⟨rfl, ⟨⟨F', h1, h2⟩, h.tb.keptM hM k h.six, h.six, qI h.cnt hs e⟩, kA hM k⟩
end Go.Proofs.YtjkiplndbcmmbaaGreatDoor
namespace Go.Proofs.YtjkiplndbcmmbaaGreatDoor
open Go.RowKit Go.Maps
def XC (c o A R : Int) : List EV := [PL 1 1 c 500, PL 2 1 o 500, mkE 2 [1, 1], mkE 2 [2, 2], mkE 4 [1, A], mkE 11 [c, o, R]]
def X1 (c : Int) : PM := ⟨100, [(PL 1 1 c 500).pv], [], [], fun _ _ => 0, 0, [], false, 0, 0, 1⟩
def X2 (c o : Int) : PM := ⟨100, [(PL 1 1 c 500).pv, (PL 2 1 o 500).pv], [], [], fun _ _ => 0, 0, [], false, 0, 0, 2⟩
def X3 (c o : Int) : PM := ⟨100, [(PL 1 1 c 500).pv, (PL 2 1 o 500).pv], [AO 1 c 1], [], fun _ _ => 0, 0, [], false, 0, 0, 3⟩
def X4 (c o : Int) : PM := ⟨100, [(PL 1 1 c 500).pv, (PL 2 1 o 500).pv], [AO 1 c 1, AO 2 o 1], [], fun _ _ => 0, 0, [], false, 0, 0, 4⟩
def X5 (c o A : Int) : PM := nxt (X4 c o) (mkE 4 [1, A])
def X6 (c o A R : Int) : PM := nxt (X5 c o A) (mkE 11 [c, o, R])
def AX (c A : Int) : PA := ⟨1, 1, c, 1, true, A, 0, 0, []⟩
theorem sf (c o A : Int) : (X5 c o A).al = [AX c A, AO 2 o 1] := by
 have h : (X5 c o A).al = [AX c (0 + A), AO 2 o 1] := rfl
 rw [h, Int.zero_add]
theorem yf (c o A : Int) : acctO (X5 c o A) 1 = some (AX c A) := by unfold acctO; rw [sf]; rfl
theorem sg (c o A R : Int) : acctO (X6 c o A R) 1 = some (AX c A) := yf c o A
theorem sh (c o A R : Int) : acctO (X6 c o A R) 2 = some (AO 2 o 1) := by
 show acctO (X5 c o A) 2 = _
 unfold acctO; rw [sf]; rfl
theorem nD (c o A R : Int) : rateO (X6 c o A R) c o = some R := by
 unfold rateO
 rw [show (X6 c o A R).rates = ((c, o), R) :: [] from rfl, di, if_pos rfl]
theorem yg (c o A R : Int) : spend (X6 c o A R) (AX c A) = A + 500 - 0 := rfl
theorem uA {c o A R : Int} (hc : 0 ≤ c ∧ c ≤ 3) (ho : 0 ≤ o ∧ o ≤ 3) (hne : c ≠ o) (hA : 1 ≤ A ∧ A ≤ 10000000000000) (hR : 1 ≤ R ∧ R ≤ 1000000000000) : ∀ (k : Nat) e, (XC c o A R)[k]? = some e → Good (runM (bank0 100) ((XC c o A R).take k)) e := by
 have g1 : Good (bank0 100) (PL 1 1 c 500) := jF (by decide) (by decide) hc (by decide) rfl rfl rfl (by decide)
 have g2 : Good (X1 c) (PL 2 1 o 500) := jF (by decide) (by decide) ho (by decide) rfl rfl rfl (by show 1 < 64; decide)
 have g3 : Good (X2 c o) (mkE 2 [1, 1]) := jD (by decide) ⟨by decide, by decide⟩ rfl rfl rfl rfl (by show 0 < 256; decide) rfl
 have g4 : Good (X3 c o) (mkE 2 [2, 2]) := jD (by decide) ⟨by decide, by decide⟩ rfl rfl rfl rfl (by show 1 < 256; decide) rfl
 have g5 : Good (X4 c o) (mkE 4 [1, A]) := js rfl rfl (by decide) (uW ⟨by decide, by decide⟩ ⟨by omega, by omega⟩) (by show 2 ≤ ct.getD 4 0; decide) (by
  rw [pq (M := X4 c o) (a := AO 1 c 1) rfl rfl rfl hA.1 hA.2, nk (by show (_ : Int) ≤ 0 + A; omega) (by show (0 : Int) + A ≤ _; omega), wl])
 have g6 : Good (X5 c o A) (mkE 11 [c, o, R]) := js rfl rfl (by decide) (wS ⟨by omega, by omega⟩ ⟨by omega, by omega⟩ ⟨by omega, by omega⟩) (by show 3 ≤ ct.getD 11 0; decide) (by
  show rateL 0 c o R = 0
  unfold rateL
  have e1 : wi c 0 3 = true := by unfold wi; simp; omega
  have e2 : wi o 0 3 = true := by unfold wi; simp; omega
  have e3 : (c == o) = false := by simpa using hne
  rw [iK (by omega) (by omega), e1, e2, e3]
  rfl)
 intro k e h
 have hk : k < 6 := (List.getElem?_eq_some_iff.1 h).1
 have hc : k = 0 ∨ k = 1 ∨ k = 2 ∨ k = 3 ∨ k = 4 ∨ k = 5 := by omega
 rcases hc with rfl | rfl | rfl | rfl | rfl | rfl <;> cases h
 ·exact g1
 ·exact g2
 ·exact g3
 ·exact g4
 ·exact g5
 ·exact g6
theorem nj {M : PM} {ns : List Int} (h1 : M.keys = []) (h2 : M.uw = false) (h3 : ns.getD 3 0 = 0) : refL M (mkE 12 ns) true = askL M 0 (mkE 12 ns) :=
 jH rfl (fun h => h.2 h3) rfl (by unfold usedK; rw [h1]; rfl) h2
theorem si {c o A R : Int} (hA : 1 ≤ A ∧ A ≤ 10000000000000) (g e : Int) (ds : List Value) (hc : cvA (X6 c o A R) c o A = (g, ds, e)) (hg : 0 ≤ g ∧ g ≤ 10000000000000) : askL (X6 c o A R) 0 (mkE 12 [1, 2, A]) = wth 0 e := by
 show exchL (X6 c o A R) 0 1 2 A = _
 unfold exchL
 rw [sg, sh]
 show whn (wth (whn (namedK (X6 c o A R) (namedK (X6 c o A R) (whn (whn 0 (beyond A 10000000000000) 1) ((1 : Int) == 2) 1) 1 1) 2 1) (fundsO (X6 c o A R) (some (AX c A)) A) 13) (cvA (X6 c o A R) c o A).2.2) (roomO (some (AO 2 o 1)) (cvA (X6 c o A R) c o A).1) 4 = _
 rw [hc, iK (by omega) (by omega), wl, show ((1 : Int) == 2) = false from rfl, wl, dC (k := 1) (sg c o A R) rfl rfl, dC (k := 1) (sh c o A R) rfl rfl, qj (by rw [yg]; omega), wl, nk (by show (_ : Int) ≤ 0 + g; omega) (by show (0 : Int) + g ≤ _; omega), wl]
def xe (A : Int) : EV := mkE 12 [1, 2, A]
theorem uO {A : Int} (hA : 1 ≤ A ∧ A ≤ 10000000000000) : (xe A).ok := jz (by decide) (wS ⟨by decide, by decide⟩ ⟨by decide, by decide⟩ ⟨by omega, by omega⟩)
theorem nE (A : Int) : (xe A).e8.form := fx (by decide) (by decide) (by show 3 ≤ ct.getD 12 0; decide)
theorem wJ {c o A R : Int} (hne : c ≠ o) (hA : 1 ≤ A ∧ A ≤ 10000000000000) : Good12 (X6 c o A R) (xe A) ∨ refL (X6 c o A R) (xe A) true = 4 := by
 by_cases h : gt o.toNat (wor c.toNat A.toNat R.toNat) ≤ 10000000000000
 ·have hc : cvA (X6 c o A R) c o A = (((gt o.toNat (wor c.toNat A.toNat R.toNat) : Nat) : Int), dcs ((rsd o.toNat (wor c.toNat A.toNat R.toNat) : Nat) : Int) 12, 0) := by
   unfold cvA
   rw [nD]
   show cvR c o A R = _
   unfold cvR
   rw [if_pos hA, if_pos h, if_neg hne]
  refine Or.inl ⟨uO hA, rfl, nE A, ?_, by show 0 ≤ 8; decide⟩
  unfold xe
  rw [nj rfl rfl rfl, si hA _ 0 _ hc (by omega)]
  rfl
 ·have hc : cvA (X6 c o A R) c o A = (0, zdl, 4) := by
   unfold cvA
   rw [nD]
   show cvR c o A R = _
   unfold cvR
   rw [if_pos hA, if_neg h]
  refine Or.inr ?_
  unfold xe
  rw [nj rfl rfl rfl, si hA 0 4 zdl hc (by decide)]
  rfl
theorem fF (c n x u : Int) : sat (xl1 c n) x u = (if 2 = x ∧ c = u then n * 1000000000000 else 0) + (if 7 = x ∧ c = u then -n * 1000000000000 else 0) := by
 unfold sat xl1
 simp only [List.map_cons, List.map_nil, List.sum_cons, List.sum_nil, iU]
 rw [show (10 : Int) ^ (12 - (0 : Int).toNat) = 1000000000000 from by decide, show (10 : Int) ^ (12 - (12 : Int).toNat) = 1 from by decide, Int.mul_one]
 omega
theorem gB (c g r x u : Int) : sat (xl2 c g r) x u = (if 7 = x ∧ c = u then g * 1000000000000 else 0) + ((if 7 = x ∧ c = u then r else 0) + ((if 2 = x ∧ c = u then -g * 1000000000000 else 0) + (if 8 = x ∧ c = u then -r else 0))) := by
 unfold sat xl2
 simp only [List.map_cons, List.map_nil, List.sum_cons, List.sum_nil, iU]
 rw [show (10 : Int) ^ (12 - (0 : Int).toNat) = 1000000000000 from by decide, show (10 : Int) ^ (12 - (12 : Int).toNat) = 1 from by decide, Int.mul_one, Int.mul_one, Int.mul_one]
 omega
theorem cX (p : Prop) [Decidable p] (z b : Int) (h0 : 0 ≤ b) (h : -b ≤ z ∧ z ≤ b) : -b ≤ (if p then z else 0) ∧ (if p then z else 0) ≤ b := by
 split <;> omega
theorem tZ {b : Int → Int → Int} {c n : Int} (hu : 0 ≤ c ∧ c ≤ 3) (hn : 1 ≤ n ∧ n ≤ 10000000000000) (hb : ∀ x u, -100000000000000000000000000000000000 ≤ b x u ∧ b x u ≤ 100000000000000000000000000000000000) : pst b (xl1 c n) = fun x u => b x u + sat (xl1 c n) x u := by
 refine qX (ii (fun x hx => ?_) (by show 2 ≤ 16; decide) (fun x hx => ?_) (fun x u => ?_) (fun u => ?_))
 ·unfold xl1 at hx
  simp only [List.mem_cons, List.not_mem_nil, or_false] at hx
  rcases hx with rfl | rfl <;> exact mX (by decide) hu
 ·unfold xl1 at hx
  simp only [List.mem_cons, List.not_mem_nil, or_false] at hx
  rcases hx with rfl | rfl
  ·exact gp (by decide) (Or.inl (by omega))
  ·exact gp (by decide) (Or.inr ⟨rfl, by omega, by omega⟩)
 ·rw [fF]
  have h1 := hb x u
  have h2 := cX (2 = x ∧ c = u) (n * 1000000000000) 100000000000000000000000000000000000 (by decide) (by omega)
  have h3 := cX (7 = x ∧ c = u) (-n * 1000000000000) 100000000000000000000000000000000000 (by decide) (by omega)
  omega
 ·unfold sau xl1
  simp only [List.map_cons, List.map_nil, List.sum_cons, List.sum_nil, iU]
  rw [show (10 : Int) ^ (12 - (0 : Int).toNat) = 1000000000000 from by decide, show (10 : Int) ^ (12 - (12 : Int).toNat) = 1 from by decide, Int.mul_one]
  split <;> omega
theorem u6 {b : Int → Int → Int} {c g r : Int} (hu : 0 ≤ c ∧ c ≤ 3) (hg : 0 ≤ g ∧ g ≤ 10000000000000) (hr : 0 ≤ r ∧ r ≤ 1000000000000) (hb : ∀ x u, -100000000000000000000000000000000000 ≤ b x u ∧ b x u ≤ 100000000000000000000000000000000000) : pst b (xl2 c g r) = fun x u => b x u + sat (xl2 c g r) x u := by
 refine qX (ii (fun x hx => ?_) (by show 4 ≤ 16; decide) (fun x hx => ?_) (fun x u => ?_) (fun u => ?_))
 ·unfold xl2 at hx
  simp only [List.mem_cons, List.not_mem_nil, or_false] at hx
  rcases hx with rfl | rfl | rfl | rfl <;> exact mX (by decide) hu
 ·unfold xl2 at hx
  simp only [List.mem_cons, List.not_mem_nil, or_false] at hx
  rcases hx with rfl | rfl | rfl | rfl
  ·exact gp (by decide) (Or.inr ⟨rfl, by omega, by omega⟩)
  ·exact gp (by decide) (Or.inl (by omega))
  ·exact gp (by decide) (Or.inl (by omega))
  ·exact gp (by decide) (Or.inl (by omega))
 ·rw [gB]
  have h1 := hb x u
  have h2 := cX (7 = x ∧ c = u) (g * 1000000000000) 100000000000000000000000000000000000 (by decide) (by omega)
  have h3 := cX (7 = x ∧ c = u) r 100000000000000000000000000000000000 (by decide) (by omega)
  have h4 := cX (2 = x ∧ c = u) (-g * 1000000000000) 100000000000000000000000000000000000 (by decide) (by omega)
  have h5 := cX (8 = x ∧ c = u) (-r) 100000000000000000000000000000000000 (by decide) (by omega)
  omega
 ·unfold sau xl2
  simp only [List.map_cons, List.map_nil, List.sum_cons, List.sum_nil, iU]
  rw [show (10 : Int) ^ (12 - (0 : Int).toNat) = 1000000000000 from by decide, show (10 : Int) ^ (12 - (12 : Int).toNat) = 1 from by decide, Int.mul_one, Int.mul_one, Int.mul_one]
  split <;> omega
structure XE (M : PM) (c o A g r : Int) : Prop where
 a1 : ∃ a, acctO M 1 = some a ∧ a.bal = 0
 a2 : ∃ a, acctO M 2 = some a ∧ a.bal = g
 p1 : M.b 7 c = -A * 1000000000000
 p2 : M.b 7 o = g * 1000000000000 + r
 p3 : M.b 8 o = -r
theorem x7 {c o A R : Int} (hc : 0 ≤ c ∧ c ≤ 3) (ho : 0 ≤ o ∧ o ≤ 3) (hne : c ≠ o) (hA : 1 ≤ A ∧ A ≤ 10000000000000) (G : Good12 (X6 c o A R) (xe A)) : ∃ g r, gotM (X6 c o A R) (xe A) = g ∧ (0 ≤ g ∧ g ≤ 10000000000000) ∧ (0 ≤ r ∧ r ≤ 1000000000000) ∧ XE (nxtX (X6 c o A R) (xe A)) c o A g r := by
 obtain ⟨_, _, _, _, _, _, _, _, _, _, _, _, _, hg, hr, _⟩ := G.got
 obtain ⟨g, eg⟩ : ∃ g, gotM (X6 c o A R) (xe A) = g := ⟨_, rfl⟩
 obtain ⟨r, er⟩ : ∃ r, resM (X6 c o A R) (xe A) = r := ⟨_, rfl⟩
 rw [eg] at hg
 rw [er] at hr
 have hal : (nxtX (X6 c o A R) (xe A)).al = [⟨1, 1, c, 1, true, A + -A, 0, 0, []⟩, ⟨2, 2, o, 1, true, 0 + g, 0, 0, []⟩] := by
  show onA (onA (X5 c o A).al 1 (addB (-A))) 2 (addB (gotM (X6 c o A R) (xe A))) = _
  rw [sf, eg]
  rfl
 have hb : (nxtX (X6 c o A R) (xe A)).b = pst (pst (pstB (fun _ _ => 0) c 1 2 A) (xl1 c A)) (xl2 o g r) := by
  show pst (pst (pstB (fun _ _ => 0) (curA (X4 c o) 1) 1 2 A) (xl1 (curA (X6 c o A R) 1) A)) (xl2 (curA (X6 c o A R) 2) (gotM (X6 c o A R) (xe A)) (resM (X6 c o A R) (xe A))) = _
  rw [eg, er]
  unfold curA
  rw [sg, sh]
  rfl
 have hb5 : ∀ x u, -1000000000000000000000000000000 ≤ pstB (fun _ _ => 0) c 1 2 A x u ∧ pstB (fun _ _ => 0) c 1 2 A x u ≤ 1000000000000000000000000000000 := fun x u => by
  rw [kV (by decide) (by decide) hc (by omega) (fun _ _ => by decide)]
  dsimp only
  have h2 := cX (1 = x ∧ c = u) (A * 1000000000000) 100000000000000000000000000000 (by decide) (by omega)
  have h3 := cX (2 = x ∧ c = u) (-A * 1000000000000) 100000000000000000000000000000 (by decide) (by omega)
  omega
 rw [tZ hc hA (fun x u => by have := hb5 x u; omega), u6 ho hg hr (fun x u => by
  have := hb5 x u
  rw [fF]
  have h2 := cX (2 = x ∧ c = u) (A * 1000000000000) 100000000000000000000000000000 (by decide) (by omega)
  have h3 := cX (7 = x ∧ c = u) (-A * 1000000000000) 100000000000000000000000000000 (by decide) (by omega)
  omega), kV (by decide) (by decide) hc (by omega) (fun _ _ => by decide)] at hb
 refine ⟨g, r, eg, hg, hr, ⟨_, by unfold acctO; rw [hal]; rfl, by show A + -A = 0; omega⟩, ⟨_, by unfold acctO; rw [hal]; rfl, by show 0 + g = g; omega⟩, ?_, ?_, ?_⟩
 ·rw [hb]
  dsimp only
  rw [fF, gB]
  simp [Ne.symm hne]
 ·rw [hb]
  dsimp only
  rw [fF, gB]
  simp [hne]
 ·rw [hb]
  dsimp only
  rw [fF, gB]
  simp
end Go.Proofs.YtjkiplndbcmmbaaGreatDoor
namespace Go.Proofs.YtjkiplndbcmmbaaGreatDoor
open Tryz
open Go.RowKit Go.Maps
theorem ss {o : Oper} {a : Act} {w : World} {K : Act → World → Prop} {Q : Exit → Act → World → Prop} (z0 z1 : Operand) (ho : o.op = .call { callee := .value (.func 12), args := #[z0, z1], argTypes := #[5, 80] }) (v0 v1 : Value) (h0 : a.eval z0 = v0) (h1 : a.eval z1 = v1) {v : Value} {R : World → Prop}
  (C : Calls prog 12 #[v0, v1] w fun e w' => e = .returned v ∧ R w') (k : ∀ w', R w' → K (a.put o.dst v) w') : o.wp prog a w K Q := by
 unfold Oper.wp execOp
 simp only [ho, resolve, List.map_toArray, List.map_cons, List.map_nil, h0, h1]
 go_simp
 refine Calls.mono C ?_
 rintro e w' ⟨rfl, hr⟩
 exact k w' hr
theorem pp {o : Oper} {a : Act} {w : World} {K : Act → World → Prop} {Q : Exit → Act → World → Prop} (z : Operand) (ho : o.op = .move z) (v : Value) (h : a.eval z = v) (k : K (a.put o.dst v) w) : o.wp prog a w K Q := by
 unfold Oper.wp execOp
 simp only [ho, h]
 exact k
theorem yl {o : Oper} {a : Act} {w : World} {K : Act → World → Prop} {Q : Exit → Act → World → Prop} (z : Operand) (ho : o.op = .call { callee := .builtin .len, args := #[z], argTypes := #[70] }) (b : Option Addr) (n c : Nat) (h : a.eval z = .slice b n c) (k : K (a.put o.dst (.int .i64 (n : Int))) w) : o.wp prog a w K Q := by
 unfold Oper.wp execOp
 simp only [ho, resolve, List.map_toArray, List.map_cons, List.map_nil, h]
 go_simp
 exact k
theorem wX {o : Oper} {a : Act} {w : World} {K : Act → World → Prop} {Q : Exit → Act → World → Prop} (x : Operand) (ho : o.op = .load 31 x) (q : Nat) (hx : a.eval x = .pointer (some ⟨q, 0, none⟩)) (cs : List Value) (hl : cs.length = 11) (h : VA w q cs 31) (k : K (a.put o.dst (.agg cs.toArray)) w) : o.wp prog a w K Q :=
 wp_load_mid 31 x ho q 0 hx cs _ (fun j v hv => by rw [Nat.zero_add]; exact h.cell j hv) underlying31 rfl (by rw [hl]; exact aj) k
structure EF (w : World) (p q : Nat) (u1 u2 : Value) (c o : Int) (wx : World) : Prop where
 k : BK wx w.heap.size p (bank0 100)
 o1 : OwnT wx w.heap.size u1 [(0, 36500000)]
 o2 : OwnT wx w.heap.size u2 [(0, 36500000)]
 v8 : VA wx q ((PL 1 1 c 500).cells u1) 31
 v9 : VA wx (q + 1) ((PL 2 1 o 500).cells u2) 31
 b : Below w.heap.size w wx
theorem EF.step {w wx wy : World} {p q : Nat} {u1 u2 : Value} {c o : Int} (h : EF w p q u1 u2 c o wx) (k : Below wx.heap.size wx wy) : EF w p q u1 u2 c o wy := ⟨h.k.step k, h.o1.step k, h.o2.step k, h.v8.step k, h.v9.step k, h.b.trans (k.mono h.b.size)⟩
def VI (w : World) (r : Nat) (ns : List Int) : Prop := VA w r (ns.map fun n => Value.int .i64 n) 2
def nilT : Value := .slice none 0 0
def XX (c o A R : Int) (u1 u2 : Value) : List (EV × Value) := [(PL 1 1 c 500, u1), (PL 2 1 o 500, u2), (mkE 2 [1, 1], nilT), (mkE 2 [2, 2], nilT), (mkE 4 [1, A], nilT), (mkE 11 [c, o, R], nilT)]
theorem wR {c o A R : Int} {u1 u2 : Value} {w : World} {B : Nat} (o1 : OwnT w B u1 [(0, 36500000)]) (o2 : OwnT w B u2 [(0, 36500000)]) {k : Nat} (hk : k < 6) : ∃ x, (XX c o A R u1 u2)[k]? = some x ∧ (XC c o A R)[k]? = some x.1 ∧ OwnT w B x.2 x.1.ts := by
 have hc : k = 0 ∨ k = 1 ∨ k = 2 ∨ k = 3 ∨ k = 4 ∨ k = 5 := by omega
 rcases hc with rfl | rfl | rfl | rfl | rfl | rfl
 ·exact ⟨_, rfl, rfl, o1⟩
 ·exact ⟨_, rfl, rfl, o2⟩
 ·exact ⟨_, rfl, rfl, bV _ _⟩
 ·exact ⟨_, rfl, rfl, bV _ _⟩
 ·exact ⟨_, rfl, rfl, bV _ _⟩
 ·exact ⟨_, rfl, rfl, bV _ _⟩
def XP (c o A R : Int) (u1 u2 : Value) : Nat → World → Value → Prop
 | 0, _, v => v = .agg ((PL 1 1 c 500).cells u1).toArray
 | 1, _, v => v = .agg ((PL 2 1 o 500).cells u2).toArray
 | 2, w, v => ∃ r, v = .slice (some ⟨r, 0, none⟩) 2 2 ∧ VI w r [1, 1]
 | 3, _, v => v = .agg ((mkE 2 [1, 1]).cells nilT).toArray
 | 4, w, v => ∃ r, v = .slice (some ⟨r, 0, none⟩) 2 2 ∧ VI w r [2, 2]
 | 5, _, v => v = .agg ((mkE 2 [2, 2]).cells nilT).toArray
 | 6, _, v => v = .int .i64 A
 | 7, w, v => ∃ r, v = .slice (some ⟨r, 0, none⟩) 2 2 ∧ VI w r [1, A]
 | 8, _, v => v = .agg ((mkE 4 [1, A]).cells nilT).toArray
 | 9, _, v => v = .int .i64 c
 | 10, _, v => v = .int .i64 o
 | 11, _, v => v = .int .i64 R
 | 12, w, v => ∃ r, v = .slice (some ⟨r, 0, none⟩) 3 3 ∧ VI w r [c, o, R]
 | 13, _, v => v = .agg ((mkE 11 [c, o, R]).cells nilT).toArray
 | 14, w, v => ∃ r, v = .slice (some ⟨r, 0, none⟩) 6 6 ∧ VA w r (ECS (XX c o A R u1 u2)) 31
 | 15, _, v => v = .int .i64 6
 | 16, _, v => v = .int .i64 0
 | _, _, _ => True
theorem XP.step {c o A R : Int} {u1 u2 : Value} {w w' : World} (b : Below w.heap.size w w') : ∀ (j : Nat) (v : Value), XP c o A R u1 u2 j w v → XP c o A R u1 u2 j w' v
 | 0, _, h => h
 | 1, _, h => h
 | 2, _, ⟨r, e, h⟩ => ⟨r, e, VA.step h b⟩
 | 3, _, h => h
 | 4, _, ⟨r, e, h⟩ => ⟨r, e, VA.step h b⟩
 | 5, _, h => h
 | 6, _, h => h
 | 7, _, ⟨r, e, h⟩ => ⟨r, e, VA.step h b⟩
 | 8, _, h => h
 | 9, _, h => h
 | 10, _, h => h
 | 11, _, h => h
 | 12, _, ⟨r, e, h⟩ => ⟨r, e, VA.step h b⟩
 | 13, _, h => h
 | 14, _, ⟨r, e, h⟩ => ⟨r, e, VA.step h b⟩
 | 15, _, h => h
 | 16, _, h => h
 | _ + 17, _, h => h
def DX : List (Option Nat) := [some 75, some 76, some 77, some 78, some 79, some 80, some 81, some 82, some 83, some 84, some 85, some 86, some 87, some 88, some 89, some 90, some 91]
theorem wO : (DX.filterMap (fun x => x)).Nodup := by decide
theorem inX {a : Act} {s : Nat → Value} (h : a.tmps.size = 210) (i d : Nat) (hd : DX[i]? = some (some d) := by rfl) (hl : d < 210 := by decide) : (puts a DX 0 s).eval (.tmp d) = s i := ud wO i d hd (by omega)
theorem oL {a : Act} {s : Nat → Value} {d : Nat} {v : Value} (h : a.eval (.tmp d) = v) (hd : some d ∉ DX := by decide) : (puts a DX 0 s).eval (.tmp d) = v := (ij DX a 0 s hd).trans h
theorem yq {w : World} {ops : Array Oper} {rest : List Oper} {o : Oper} {a : Act} {Q : Exit → Act → World → Prop} (hgd : Region.wanted o (yielded ops a.tmps) = true) (t : TypeId) (x : Operand) (ho : o.op = .load t x)
  (p : Nat) (hx : a.eval x = .pointer (some ⟨p, 0, none⟩)) (cs : List Value) (T : TypeId) (h : VA w p cs T) (d : TypeDesc) (hu : prog.underlying t = some d) (hd : d.isRow = true) (hi : (prog.info? t).map (·.size) = some cs.length)
  (k : wpList prog ops Q rest (a.put o.dst (.agg cs.toArray)) w) : wpList prog ops Q (o :: rest) a w := by
 refine wpList_step fun K hK => ?_
 rw [if_pos hgd]
 exact wp_load_mid t x ho p 0 hx cs d (fun j v hv => by rw [Nat.zero_add]; exact h.cell j hv) hu hd hi (hK _ _ k)
theorem t9 (x y : Int) (w : World) (h1 : -100000000000000000000000000000 ≤ x ∧ x ≤ 100000000000000000000000000000) (h2 : -100000000000000000000000000000 ≤ y ∧ y ≤ 100000000000000000000000000000) : Calls prog 30 #[.agg (dcs x 12).toArray, .agg (dcs y 12).toArray] w fun e w' => e = .returned (.tuple #[.agg (dcs (x + y) 12).toArray, .int .i64 0]) ∧ Below w.heap.size w w' := by
 have e : tv x 12 y 12 = x + y := by unfold tv; simp
 have h := mF x y 12 12 w ⟨by unfold M127; omega, by unfold M127; omega⟩ ⟨by unfold M127; omega, by unfold M127; omega⟩ (by decide) (by decide) (by rw [e]; exact ⟨by unfold M127; omega, by unfold M127; omega⟩)
 rw [e] at h
 exact h
theorem qr (x : Int) (w : World) (h1 : -100000000000000000000000000000 ≤ x ∧ x ≤ 100000000000000000000000000000) : Calls prog 32 #[.agg (dcs x 12).toArray] w fun e w' => (∃ r, e = .returned r ∧ In w' r x) ∧ Below w.heap.size w w' := sQ x 12 w ⟨by unfold M127; omega, by unfold M127; omega⟩
theorem wt {z : Int} (h : z ≤ 0) : sgn z ≤ 0 := by
 unfold sgn
 split
 ·decide
 ·split
  ·decide
  ·omega
end Go.Proofs.YtjkiplndbcmmbaaGreatDoor