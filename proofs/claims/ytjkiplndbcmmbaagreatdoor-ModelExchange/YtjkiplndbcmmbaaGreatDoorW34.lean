/- texts of the model: Mql Moy Mqm Mqn Mqo Mqp Mqr Mqs Mqt Mqu Mqv Mqw Mrj Mrk -/
import Derived.Test.YtjkiplndbcmmbaaGreatDoorW33
import Derived.Test.YtjkiplndbcmmbaaGreatDoorW13
import Derived.Test.YtjkiplndbcmmbaaGreatDoorW26
import Derived.Test.YtjkiplndbcmmbaaGreatDoorW12
set_option linter.unusedVariables false
set_option linter.unusedSimpArgs false
set_option maxHeartbeats 16000000
set_option maxRecDepth 100000
namespace Go.Proofs.YtjkiplndbcmmbaaGreatDoor
open Tryz
open Go.RowKit Go.Maps
def bank0 (d : Int) : PM := ⟨d, [], [], [], fun _ _ => 0, 0, [], false, 0, 0, 0⟩
theorem tA (w : World) (d : Int) (h1 : 1 ≤ d) (h2 : d ≤ 3652059) : Calls prog 27 #[.int .i64 d] w fun e w' => ∃ F : FB, e = .returned (.tuple #[.pointer (some ⟨F.pm, 0, none⟩), .int .i64 0]) ∧ MD w' w.heap.size F (bank0 d) ∧ F.sv = .slice none 0 0 ∧ F.ab = [] ∧ Below w.heap.size w w' := by
 have hmm := @run_makeMap prog
 go_enter func27, ntmps27
 go_wp2_with fail
 refine (lF d w h1 h2).mono ?_
 rintro e wq ⟨rfl, hq⟩
 obtain rfl := hq.symm
 clear hq
 go_wp2_with fail
 refine (qG w).mono ?_
 rintro e w1 ⟨⟨pc, rfl, C⟩, b1⟩
 obtain ⟨_, _, _, bm, sv, n, f, a1, a2, a3, a4, a5, a6, a7, a8⟩ := id C
 have HC := hI_ C
 have HV : Hid (VA w1 pc [.map (some bm), sv] 154) := a1
 have HB : Hid (bm < w1.heap.size ∧ w.heap.size ≤ bm) := ⟨by obtain ⟨es, c, e⟩ := mY a4; exact (Array.getElem?_eq_some_iff.1 e).1, a3⟩
 have BB_1 := hI_ b1
 clear C a1 a2 a3 a4 a5 a6 a7 a8 b1
 have A1 := hI_ (gu KR encI w1)
 have B1 := hI_ ((Below.refl w1.heap.size w1).alloc (Nat.le_refl _) (.map #[] 0))
 go_wp2_with fail
 refine (sP _).mono ?_
 rintro e w2 ⟨⟨pl, ml, rfl, l1, l2, L⟩, b2⟩
 have s1 := BB_1.out.size
 have s2 := b2.size
 rw [World.size_alloc] at l1 l2 s2
 have HL := hI_ L
 have B2 : Hid (Below w1.heap.size w1 w2) := B1.out.trans (b2.mono (by simp))
 have A2 := hI_ (A1.out.step b2)
 have A3 := hI_ (gu KU encS w2)
 have V3 := aa (w2.alloc (.map #[] 0)) [.int .i64 d, .pointer (some ⟨pc, 0, none⟩), .slice none 0 0, .map (some w1.heap.size), .pointer (some ⟨pl, 0, none⟩), .map (some w2.heap.size), .bool false, .int .i64 0, .int .i64 0, .int .i64 0] 100
 rw [World.size_alloc] at V3
 have HV3 := hI_ V3
 have B3 := hI_ (((Below.refl w2.heap.size w2).alloc (Nat.le_refl _) (.map #[] 0)).alloc (by simp) (.cells #[.int .i64 d, .pointer (some ⟨pc, 0, none⟩), .slice none 0 0, .map (some w1.heap.size), .pointer (some ⟨pl, 0, none⟩), .map (some w2.heap.size), .bool false, .int .i64 0, .int .i64 0, .int .i64 0] 100))
 have b3 := (Below.refl (w2.alloc (.map #[] 0)).heap.size (w2.alloc (.map #[] 0))).alloc (Nat.le_refl _) (.cells #[.int .i64 d, .pointer (some ⟨pc, 0, none⟩), .slice none 0 0, .map (some w1.heap.size), .pointer (some ⟨pl, 0, none⟩), .map (some w2.heap.size), .bool false, .int .i64 0, .int .i64 0, .int .i64 0] 100)
 have A4 := hI_ (A3.out.step b3)
 have ml2 : ml < w2.heap.size := by obtain ⟨es, c, e⟩ := bO HL.out.map; exact (Array.getElem?_eq_some_iff.1 e).1
 clear b2 L V3 b3
 go_wp2_with fail
 have hb := HB.out
 refine bodyPost_ret (v := .tuple #[.pointer (some ⟨w2.heap.size + 1, 0, none⟩), .int .i64 0]) (by simp [results, results27, go_sem]) rfl ⟨⟨w2.heap.size + 1, pc, bm, pl, ml, w1.heap.size, w2.heap.size, .slice none 0 0, []⟩, rfl, ⟨HV3.out, ⟨_, (HC.out.step B2.out).step B3.out⟩, ⟨sv, (HV.out.step B2.out).step B3.out⟩, HL.out.step B3.out, A2.out.step B3.out, A4.out, jE KP _ _, rfl, fun i a x ha _ => (by cases ha), ⟨by show _ ≤ w2.heap.size + 1; omega, by show _ ≤ pl; omega, by show _ ≤ ml; omega, by show _ ≤ w1.heap.size; omega, by show _ ≤ w2.heap.size; omega, fun x hx => (by cases hx)⟩, ?_, List.nodup_nil, ⟨⟨h1, h2⟩, fun a ha => (by cases ha), List.Pairwise.nil, by show 0 ≤ 256; decide, fun p hp => (by cases hp), ⟨by show (0 : Int) ≤ 0; decide, by show (0 : Int) ≤ _; decide⟩, ⟨⟨by show _ ≤ (0 : Int); decide, by show (0 : Int) ≤ _; decide⟩, ⟨by show _ ≤ (0 : Int); decide, by show (0 : Int) ≤ _; decide⟩⟩, fun k x hx => (by cases hx)⟩⟩, rfl, rfl, (BB_1.out.trans (B2.out.mono s1)).trans (B3.out.mono (by omega))⟩
 show [bm, ml, w1.heap.size, w2.heap.size].Nodup
 simp only [List.nodup_cons, List.mem_cons, List.not_mem_nil, or_false, not_or, not_false_eq_true, List.nodup_nil, and_true]
 omega
def closedA (a : PA) : PA := { a with opn := false, acc := 0 }
theorem PA.wf.closedA {a : PA} (h : a.wf) : (closedA a).wf := ⟨h.id, h.prod, h.cur, h.kind, h.bal, h.held, ⟨by show (0 : Int) ≤ 0; decide, by show (0 : Int) ≤ _; decide⟩, h.hs, h.hl, h.hv, h.sum⟩
theorem pP (w : World) (B : Nat) (F : FB) (M : PM) (hM : MD w B F M) (T : TBL w) (hB : 6 ≤ B) (e : EV) (tv : Value) (hop : e.op = 3) (i : Nat) (a : PA) (x : Nat × Nat) (hi : IsA F M i a x) (hid : a.id = e.n0)  :
  Calls prog 55 #[.pointer (some ⟨F.pm, 0, none⟩), .agg (e.cells tv).toArray] w fun r w' => r = .returned (.tuple #[]) ∧ MD w' B F ({ M with al := M.al.set i (closedA a) }) ∧ But F.core w w' := by
 obtain ⟨HE0, HB0, HN0, y0, y1, y2, y3, y4, y5, y6, y7⟩ := cr w e tv
 have HH : Hid (MD w B F M ∧ TBL w) := ⟨hM, T⟩
 have HQ : Hid (6 ≤ B ∧ ∀ j, F.core j → j < w.heap.size) := ⟨hB, fun j hj => hM.core_lt hj⟩
 have HOP : Hid (e.op = 3) := hop
 have H_hi := hI_ hi
 have H_hid := hI_ hid
 clear hi hid hM T hB hop
 go_enter func55, ntmps55
 go_upto_region 2 with (refine eSt e HN0 ?_; intro w1 hv1 hu1)
 have hb1 := hu1.bel HB0.out (by omega)
 have HM_1 : Hid (MD w1 B F M) := HH.out.1.step hb1
 have HT_1 : Hid (TBL w1) := HH.out.2.step hb1
 have BB_1 := hI_ hb1
 have HE_1 := hI_ (HE0.out.upd hu1 (by omega))
 have HN_1 := hI_ hv1
 have y := eY 3 HE_1 HOP
 clear hb1 hv1 hu1 HN0 HE0 HB0 HH y0 y1 y2 y3 y4 y5 y6 y7
 have m0 := HN_1.out.cell 0 (v := .int .i64 e.n0) rfl
 have HV_1 : Hid (VA w1 x.1 (a.cells x.2) 85) := HM_1.out.aw H_hi.out
 have f4 := HV_1.out.free 4
 have c4 := HV_1.out.cell 4 (v := .bool a.opn) rfl
 have c7 := HV_1.out.cell 7 (v := .int .i64 a.acc) rfl
 have hbk := HV_1.out.blk
 have HV_2 := hI_ (HV_1.out.set 4 (.bool false))
 have f7 := HV_2.out.free 7
 have hbk2 := HV_2.out.blk
 have HV_3 : Hid (VA ((w1.setCell ⟨x.1, 4, none⟩ (.bool false)).setCell ⟨x.1, 7, none⟩ (.int .i64 0)) x.1 ((closedA a).cells x.2) 85) := HV_2.out.set 7 (.int .i64 0)
 have HU := hI_ ((au w1 x.1 4 (.bool false)).trans (au (w1.setCell ⟨x.1, 4, none⟩ (.bool false)) x.1 7 (.int .i64 0)))
 have HM_4 := hI_ (HM_1.out.setA1 H_hi.out HU.out HV_3.out rfl (HM_1.out.awf H_hi.out).closedA rfl)
 have HB_4 : Hid (But F.core w _) := (ac BB_1.out F.core).trans HU.out.but (fun j _ hj => gi H_hi.out.x (Or.inl hj))
 go_wp2_with fail
 refine (bn w1 B F M HM_1.out H_hi.out H_hid.out).mono ?_
 rintro r w2 ⟨rfl, hq⟩
 obtain rfl := hq.symm
 clear hq
 go_wp2_with fail
 exact bodyPost_end (v := .tuple #[]) (by simp [results, results55, go_sem]) rfl ⟨rfl, HM_4.out, HB_4.out⟩
theorem nQ (w : World) (B : Nat) (F : FB) (M : PM) (hM : MD w B F M) (T : TBL w) (hB : 6 ≤ B) (e : EV) (tv : Value) (hop : e.op = 11) (hc : 0 ≤ e.n0 ∧ e.n0 ≤ 3) (hu : 0 ≤ e.n1 ∧ e.n1 ≤ 3) (hr : 1 ≤ e.n2 ∧ e.n2 ≤ 1000000000000) (hl : M.rates.length < 1000000000000) :
  Calls prog 55 #[.pointer (some ⟨F.pm, 0, none⟩), .agg (e.cells tv).toArray] w fun r w' => r = .returned (.tuple #[]) ∧ MD w' B F ({ M with rates := ((e.n0, e.n1), e.n2) :: M.rates }) ∧ But F.core w w' := by
 obtain ⟨HE0, HB0, HN0, y0, y1, y2, y3, y4, y5, y6, y7⟩ := cr w e tv
 have HH : Hid (MD w B F M ∧ TBL w) := ⟨hM, T⟩
 have HQ : Hid (6 ≤ B ∧ ∀ j, F.core j → j < w.heap.size) := ⟨hB, fun j hj => hM.core_lt hj⟩
 have HOP : Hid (e.op = 11) := hop
 have H_hc := hI_ hc
 have H_hu := hI_ hu
 have H_hr := hI_ hr
 have H_hl := hI_ hl
 clear hc hu hr hl hM T hB hop
 go_enter func55, ntmps55
 go_upto_region 2 with (refine eSt e HN0 ?_; intro w1 hv1 hu1)
 have hb1 := hu1.bel HB0.out (by omega)
 have HM_1 : Hid (MD w1 B F M) := HH.out.1.step hb1
 have HT_1 : Hid (TBL w1) := HH.out.2.step hb1
 have BB_1 := hI_ hb1
 have HE_1 := hI_ (HE0.out.upd hu1 (by omega))
 have HN_1 := hI_ hv1
 have y := eY 11 HE_1 HOP
 clear hb1 hv1 hu1 HN0 HE0 HB0 HH y0 y1 y2 y3 y4 y5 y6 y7
 go_upto_region 25 with fail
 clear y
 refine wp_region_noPanic ?_
 refine wp_region_held_drew (S := fun V => VA V (w.heap.size + 1) [.int .i64 e.n0, .int .i64 e.n1, .int .i64 e.n2, .int .i64 e.n3, .int .i64 e.n4, .int .i64 e.n5, .int .i64 e.n6, .int .i64 e.n7] 28 ∧ VA V F.pm (mcells F M) 100) (by kernel_rfl) (⟨HN_1.out.drew, HM_1.out.va.drew⟩) ?_
 intro hh_
 have bz := (Below.refl w1.heap.size w1).drew
 have HM_z := hI_ (HM_1.out.step bz)
 have HT_z := hI_ (HT_1.out.step bz)
 have HN_z := hI_ (HN_1.out.step bz)
 have BB_z := hI_ (BB_1.out.trans (bz.mono BB_1.out.size))
 generalize w1.drew = wz at *
 clear bz
 refine tL 0 127 (.pointer (some ⟨F.pm, 0, none⟩)) ?_ ?_
 ·intro wq hS
  go_simp
 try simp only [nrm]
 refine tL 1 128 (.pointer (some ⟨F.pm, 0, none⟩)) ?_ ?_
 ·intro wq hS
  go_simp
 try simp only [nrm]
 refine tL 2 129 (.pointer (some ⟨F.pm, 3, none⟩)) ?_ ?_
 ·intro wq hS
  go_simp
 try simp only [nrm]
 refine tL 3 130 (.map (some F.rm)) ?_ ?_
 ·intro wq hS
  have c := VA.cell hS.2 3 (v := .map (some F.rm)) rfl
  go_simp
 try simp only [nrm]
 refine tL 4 131 (.pointer (some ⟨w.heap.size + 1, 0, none⟩)) ?_ ?_
 ·intro wq hS
  go_simp
 try simp only [nrm]
 refine tL 5 132 (.int .i64 e.n0) ?_ ?_
 ·intro wq hS
  have c := VA.cell hS.1 0 (v := .int .i64 e.n0) rfl
  go_simp
 try simp only [nrm]
 refine tL 6 133 (.pointer (some ⟨w.heap.size + 1, 1, none⟩)) ?_ ?_
 ·intro wq hS
  go_simp
 try simp only [nrm]
 refine tL 7 134 (.int .i64 e.n1) ?_ ?_
 ·intro wq hS
  have c := VA.cell hS.1 1 (v := .int .i64 e.n1) rfl
  go_simp
 try simp only [nrm]
 refine tL 8 135 (.agg #[.int .i64 e.n0, .int .i64 e.n1]) ?_ ?_
 ·intro wq hS
  go_simp
 try simp only [nrm]
 refine tL 9 136 (.pointer (some ⟨w.heap.size + 1, 2, none⟩)) ?_ ?_
 ·intro wq hS
  go_simp
 try simp only [nrm]
 refine tL 10 137 (.int .i64 e.n2) ?_ ?_
 ·intro wq hS
  have c := VA.cell hS.1 2 (v := .int .i64 e.n2) rfl
  go_simp
 try simp only [nrm]
 clear hh_
 refine rdy 11 (fun K hK => ?_)
 refine xW (by rfl) _ _ _ 94 rfl KR encI 2 underlying94 F.rm M.rates (by rfl) HM_z.out.rts (by have := H_hl.out; unfold maxLen; omega) (e.n0, e.n1) e.n2 (by rfl) (by rfl) ⟨⟨by have := H_hc.out.1; simp only; omega, by have := H_hc.out.2; simp only; omega⟩, ⟨by have := H_hu.out.1; simp only; omega, by have := H_hu.out.2; simp only; omega⟩⟩ ?_
 intro w4 am tn
 have HM_4 := (show Hid (MD w4 B F { M with rates := ((e.n0, e.n1), e.n2) :: M.rates }) from HM_z.out.setR (aI tn) am (fun p hp => by
  rcases List.mem_cons.1 hp with rfl | hp
  ·exact ⟨H_hc.out, H_hu.out, H_hr.out⟩
  ·exact HM_z.out.wf.rats p hp))
 have HN_4 : Hid (VA w4 (w.heap.size + 1) [.int .i64 e.n0, .int .i64 e.n1, .int .i64 e.n2, .int .i64 e.n3, .int .i64 e.n4, .int .i64 e.n5, .int .i64 e.n6, .int .i64 e.n7] 28) := HN_z.out.but (aI tn) (fun hj => by have := HQ.out.2 _ (show F.core F.rm from Or.inr (Or.inr (Or.inr (Or.inl rfl)))); omega)
 have HB_4 : Hid (But F.core w w4) := (ac BB_z.out F.core).trans (aI tn) (fun j _ hj => Or.inr (Or.inr (Or.inr (Or.inl hj))))
 clear am tn
 refine hK.out _ _ ⟨HN_4.out, HM_4.out.va⟩ (fun hh_ => ?_)
 try simp only [nrm]
 clear hK K hh_
 refine dN ?_
 go_wp2_with fail
 exact bodyPost_end (v := .tuple #[]) (by simp [results, results55, go_sem]) rfl ⟨rfl, HM_4.out, HB_4.out⟩
end Go.Proofs.YtjkiplndbcmmbaaGreatDoor
namespace Go.Proofs.YtjkiplndbcmmbaaGreatDoor
open Go.RowKit Go.Maps
theorem wth_0 {l e : Int} : wth l e = 0 ↔ l = 0 ∧ e = 0 := by
 unfold wth
 constructor
 ·intro h
  split at h
  ·rename_i c; exact absurd h c.1
  ·rename_i c
   subst h
   refine ⟨rfl, ?_⟩
   by_cases he : e = 0
   ·exact he
   ·exact absurd ⟨he, Or.inl rfl⟩ c
 ·rintro ⟨rfl, rfl⟩
  simp
theorem aE {l e : Int} {b : Bool} (he : e ≠ 0) : whn l b e = 0 ↔ l = 0 ∧ b = false := by
 unfold whn
 cases b
 ·simp
 ·simp [wth_0, he]
theorem namedK_0 {M : PM} {l id k : Int} : namedK M l id k = 0 ↔ l = 0 ∧ ∃ a, acctO M id = some a ∧ a.opn = true ∧ (k = 0 ∨ a.kind = k) := by
 unfold namedK
 cases h : acctO M id with
 | none => simp [wth_0]
 | some a =>
  simp only [Option.some.injEq, exists_eq_left']
  rw [aE (by decide), aE (by decide)]
  constructor
  ·rintro ⟨⟨h1, h2⟩, h3⟩
   refine ⟨h1, by simpa using h2, ?_⟩
   by_cases hk : k = 0
   ·exact Or.inl hk
   ·right
    simpa [hk] using h3
  ·rintro ⟨h1, h2, h3⟩
   refine ⟨⟨h1, by simp [h2]⟩, ?_⟩
   rcases h3 with h3 | h3 <;> simp [h3]
theorem beyond_0 {n g : Int} : beyond n g = false ↔ 1 ≤ n ∧ n ≤ g := by
 unfold beyond
 rw [decide_eq_false_iff_not]
 omega
def onA (al : List PA) (id : Int) (f : PA → PA) : List PA := al.map fun a => if a.id = id then f a else a
theorem eD {al : List PA} (hs : al.Pairwise fun a b => a.id < b.id) {i : Nat} {a : PA} (ha : al[i]? = some a) {id : Int} (hid : a.id = id) (f : PA → PA) : al.set i (f a) = onA al id f := by
 refine List.ext_getElem? (fun j => ?_)
 unfold onA
 rw [List.getElem?_map, List.getElem?_set]
 obtain ⟨hl, e⟩ := List.getElem?_eq_some_iff.1 ha
 split
 ·rename_i hij
  subst hij
  rw [ha]
  simp [hid]
 ·rename_i hij
  cases hb : al[j]? with
  | none => rfl
  | some b =>
   obtain ⟨hl2, e2⟩ := List.getElem?_eq_some_iff.1 hb
   have hne : b.id ≠ id := by
    rw [← hid]
    rcases Nat.lt_or_gt_of_ne hij with h | h
    ·have := List.pairwise_iff_getElem.1 hs i j hl hl2 h
     rw [e, e2] at this
     omega
    ·have := List.pairwise_iff_getElem.1 hs j i hl2 hl h
     rw [e, e2] at this
     omega
   simp [hne]
theorem rG {al : List PA} (hs : al.Pairwise fun a b => a.id < b.id) {i : Nat} {a a' : PA} (ha : al[i]? = some a) (hid : a'.id = a.id) : (al.set i a').Pairwise fun a b => a.id < b.id := by
 have h1 : (al.map (·.id)).Pairwise (· < ·) := List.pairwise_map.2 hs
 rw [← mQ ha hid] at h1
 exact List.pairwise_map.1 h1
def addB (n : Int) (a : PA) : PA := setB a (a.bal + n)
theorem na {al : List PA} (hs : al.Pairwise fun a b => a.id < b.id) {i j : Nat} {a b : PA} (ha : al[i]? = some a) (hb : al[j]? = some b) (hij : i ≠ j) {p q : Int} (hp : a.id = p) (hq : b.id = q) (n m : Int) : (al.set i (addB n a)).set j (addB m b) = onA (onA al p (addB n)) q (addB m) := by
 have h1 : (al.set i (addB n a))[j]? = some b := by rw [List.getElem?_set_ne hij]; exact hb
 rw [eD (rG (a' := addB n a) hs ha rfl) h1 hq (addB m), eD hs ha hp (addB n)]
def curA (M : PM) (id : Int) : Int := ((acctO M id).map (·.cur)).getD 0
def cshM (M : PM) (id n : Int) : PM := { M with al := onA M.al id (addB n), b := pstB M.b (curA M id) 1 2 n, n := pstN M.b M.n (curA M id) 1 2 n }
def dblM (M : PM) (id n id2 m d c v : Int) : PM := { M with al := onA (onA M.al id (addB n)) id2 (addB m), b := pstB M.b (curA M id) d c v, n := pstN M.b M.n (curA M id) d c v }
def chg (M : PM) (e : EV) : PM :=
 if e.op = 1 then { M with vs := M.vs ++ [e.pv] } else
 if e.op = 2 then { M with al := M.al.take (plc M.al e.n0) ++ newA M e.n0 e.n1 :: M.al.drop (plc M.al e.n0) } else
 if e.op = 3 then { M with al := onA M.al e.n0 closedA } else
 if e.op = 4 then cshM M e.n0 e.n1 else
 if e.op = 5 then cshM M e.n0 (-e.n1) else
 if e.op = 6 then dblM M e.n0 (-e.n2) e.n1 e.n2 2 2 e.n2 else
 if e.op = 7 then { M with al := onA M.al e.n0 fun a => heldA a e.n1 e.n2 } else
 if e.op = 8 then { M with al := onA M.al e.n0 fun a => freedA a e.n1 ((lkA a.hs e.n1).getD 0) } else
 if e.op = 9 then dblM M e.n0 e.n2 e.n1 e.n2 3 2 e.n2 else
 if e.op = 10 then dblM M e.n0 (-e.n2) e.n1 (-e.n2) 3 2 (-e.n2) else
 if e.op = 11 then { M with rates := ((e.n0, e.n1), e.n2) :: M.rates } else M
theorem ji {P : PM → Prop} (M : PM) (e : EV) (h1 : e.op = 1 → P { M with vs := M.vs ++ [e.pv] }) (h2 : e.op = 2 → P { M with al := M.al.take (plc M.al e.n0) ++ newA M e.n0 e.n1 :: M.al.drop (plc M.al e.n0) }) (h3 : e.op = 3 → P { M with al := onA M.al e.n0 closedA }) (h4 : e.op = 4 → P (cshM M e.n0 e.n1)) (h5 : e.op = 5 → P (cshM M e.n0 (-e.n1))) (h6 : e.op = 6 → P (dblM M e.n0 (-e.n2) e.n1 e.n2 2 2 e.n2)) (h7 : e.op = 7 → P { M with al := onA M.al e.n0 fun a => heldA a e.n1 e.n2 }) (h8 : e.op = 8 → P { M with al := onA M.al e.n0 fun a => freedA a e.n1 ((lkA a.hs e.n1).getD 0) }) (h9 : e.op = 9 → P (dblM M e.n0 e.n2 e.n1 e.n2 3 2 e.n2)) (h10 : e.op = 10 → P (dblM M e.n0 (-e.n2) e.n1 (-e.n2) 3 2 (-e.n2))) (h11 : e.op = 11 → P { M with rates := ((e.n0, e.n1), e.n2) :: M.rates }) (h0 : ¬ (1 ≤ e.op ∧ e.op ≤ 11) → P M) : P (chg M e) := by
 unfold chg
 by_cases k1 : e.op = 1
 ·rw [if_pos k1]; exact h1 k1
 rw [if_neg k1]
 by_cases k2 : e.op = 2
 ·rw [if_pos k2]; exact h2 k2
 rw [if_neg k2]
 by_cases k3 : e.op = 3
 ·rw [if_pos k3]; exact h3 k3
 rw [if_neg k3]
 by_cases k4 : e.op = 4
 ·rw [if_pos k4]; exact h4 k4
 rw [if_neg k4]
 by_cases k5 : e.op = 5
 ·rw [if_pos k5]; exact h5 k5
 rw [if_neg k5]
 by_cases k6 : e.op = 6
 ·rw [if_pos k6]; exact h6 k6
 rw [if_neg k6]
 by_cases k7 : e.op = 7
 ·rw [if_pos k7]; exact h7 k7
 rw [if_neg k7]
 by_cases k8 : e.op = 8
 ·rw [if_pos k8]; exact h8 k8
 rw [if_neg k8]
 by_cases k9 : e.op = 9
 ·rw [if_pos k9]; exact h9 k9
 rw [if_neg k9]
 by_cases k10 : e.op = 10
 ·rw [if_pos k10]; exact h10 k10
 rw [if_neg k10]
 by_cases k11 : e.op = 11
 ·rw [if_pos k11]; exact h11 k11
 rw [if_neg k11]
 exact h0 (by omega)
theorem dx (M : PM) (e : EV) : (chg M e).seq = M.seq := ji (P := fun X => X.seq = M.seq) M e (fun _ => rfl) (fun _ => rfl) (fun _ => rfl) (fun _ => rfl) (fun _ => rfl) (fun _ => rfl) (fun _ => rfl) (fun _ => rfl) (fun _ => rfl) (fun _ => rfl) (fun _ => rfl) (fun _ => rfl)
theorem gK (M : PM) (e : EV) : (chg M e).keys = M.keys := ji (P := fun X => X.keys = M.keys) M e (fun _ => rfl) (fun _ => rfl) (fun _ => rfl) (fun _ => rfl) (fun _ => rfl) (fun _ => rfl) (fun _ => rfl) (fun _ => rfl) (fun _ => rfl) (fun _ => rfl) (fun _ => rfl) (fun _ => rfl)
theorem fC (b : Int → Int → Int) (m cur d c n : Int) : m ≤ pstN b m cur d c n ∧ pstN b m cur d c n ≤ m + 1 := by
 unfold pstN
 split
 ·omega
 ·unfold pcnt
  split <;> omega
theorem xy (M : PM) (e : EV) : M.n ≤ (chg M e).n ∧ (chg M e).n ≤ M.n + 1 := by
 have h : M.n ≤ M.n ∧ M.n ≤ M.n + 1 := by omega
 exact ji (P := fun X => M.n ≤ X.n ∧ X.n ≤ M.n + 1) M e (fun _ => h) (fun _ => h) (fun _ => h) (fun _ => fC _ _ _ _ _ _) (fun _ => fC _ _ _ _ _ _) (fun _ => fC _ _ _ _ _ _) (fun _ => h) (fun _ => h) (fun _ => fC _ _ _ _ _ _) (fun _ => fC _ _ _ _ _ _) (fun _ => h) (fun _ => h)
theorem nT (M : PM) (e : EV) : (chg M e).rates.length ≤ M.rates.length + 1 := by
 have h : M.rates.length ≤ M.rates.length + 1 := by omega
 exact ji (P := fun X => X.rates.length ≤ M.rates.length + 1) M e (fun _ => h) (fun _ => h) (fun _ => h) (fun _ => h) (fun _ => h) (fun _ => h) (fun _ => h) (fun _ => h) (fun _ => h) (fun _ => h) (fun _ => by simp) (fun _ => h)
theorem lm (ks : List (Nat × Unit)) (k : Nat) : (useL ks k).length ≤ ks.length + 1 := by
 unfold useL
 split <;> simp
def nxt (M : PM) (e : EV) : PM := { chg M e with keys := useL (chg M e).keys e.key, seq := (chg M e).seq + 1 }
theorem tG {M : PM} (h : M.cnt) (hs : M.seq < 1000000000) (e : EV) : (nxt M e).cnt := by
 obtain ⟨h1, h2, h3, h4⟩ := h
 have a1 := nT M e
 have a2 := xy M e
 have a3 := lm (chg M e).keys e.key
 rw [gK] at a3
 refine ⟨?_, ?_, ?_, ?_⟩
 ·show ((chg M e).rates.length : Int) ≤ (chg M e).seq + 1
  rw [dx]; omega
 ·show ((useL (chg M e).keys e.key).length : Int) ≤ (chg M e).seq + 1
  rw [dx, gK]; omega
 ·show 0 ≤ (chg M e).n ∧ (chg M e).n ≤ 2 * ((chg M e).seq + 1)
  rw [dx]; omega
 ·show 0 ≤ (chg M e).seq + 1 ∧ (chg M e).seq + 1 ≤ 1000000000
  rw [dx]; omega
theorem ri {M : PM} {e : EV} {f : Bool} (h : refL M e f = 0) : f = true ∧ ¬ (e.op = 12 ∧ e.n3 ≠ 0) ∧ ofDay e.op = false ∧ usedK M e.key = false ∧ M.uw = false ∧ askL M 0 e = 0 := by
 unfold refL at h
 split at h
 ·cases h
 ·rename_i h1
  split at h
  ·cases h
  ·rename_i h2
   split at h
   ·cases h
   ·rename_i h3
    split at h
    ·cases h
    ·rename_i h4
     refine ⟨by cases f <;> simp_all, fun h5 => h1 (Or.inr h5), by simpa using h2, by simpa using h3, by simpa using h4, h⟩
theorem jH {M : PM} {e : EV} {f : Bool} (h1 : f = true) (h2 : ¬ (e.op = 12 ∧ e.n3 ≠ 0)) (h3 : ofDay e.op = false) (h4 : usedK M e.key = false) (h5 : M.uw = false) : refL M e f = askL M 0 e := by
 unfold refL
 rw [if_neg (by simp [h1]; intro a; exact Classical.not_not.1 (fun b => h2 ⟨a, b⟩)), if_neg (by simp [h3]), if_neg (by simp [h4]), if_neg (by simp [h5])]
end Go.Proofs.YtjkiplndbcmmbaaGreatDoor
namespace Go.Proofs.YtjkiplndbcmmbaaGreatDoor
open Tryz
open Go.RowKit Go.Maps
theorem rZ (n : Int) (h : -9223372036854775808 ≤ n ∧ n ≤ 9223372036854775807) : wrap64 n = n := by unfold wrap64; omega
theorem gz {a : PA} {n : Int} (hw : a.wf) (h1 : -10000000000000 ≤ n) (h2 : n ≤ 10000000000000) (h : roomO (some a) n = false) : a.bal + n ≤ 10000000000000 := by
 have hb := hw.bal
 unfold roomO at h
 rw [decide_eq_false_iff_not, rZ _ ⟨by omega, by omega⟩] at h
 omega
theorem fu {M : PM} {a : PA} {n : Int} (h : fundsO M (some a) n = false) : n ≤ a.bal + (ver M a.prod).lim - a.held := by
 unfold fundsO spend at h
 rw [decide_eq_false_iff_not] at h
 omega
theorem sX {vs : List PV} {id day : Int} {x : PV} (h : hold vs id day = some x) : x.id = id := by
 unfold hold at h
 have := List.find?_some h
 rw [decide_eq_true_iff] at this
 exact this.1
theorem tF {w : World} {B : Nat} {F : FB} {M : PM} (h : MD w B F M) {id p : Int} (hi : 1 ≤ id ∧ id ≤ 1000000000) (hv : (verO M p).isSome = true) : (newA M id p).wf := by
 obtain ⟨S, hC⟩ := h.cat
 obtain ⟨x, hx⟩ := Option.isSome_iff_exists.1 hv
 have hm := hC.fine x (kq hx)
 have hid := sX hx
 have e : ver M p = x := by unfold ver; rw [hx]; rfl
 unfold chk at hm
 split at hm
 ·rename_i h1
  unfold PV.inr wi at h1
  simp only [Bool.and_eq_true, decide_eq_true_iff] at h1
  unfold newA
  rw [e]
  refine ⟨hi, by rw [← hid]; exact h1.1.1.1.1.1.1.1, h1.1.1.1.1.1.2, h1.1.1.1.1.1.1.2, ⟨by show _ ≤ (0 : Int); decide, by show (0 : Int) ≤ _; decide⟩, ⟨by show _ ≤ (0 : Int); decide, by show (0 : Int) ≤ _; decide⟩, ⟨by show _ ≤ (0 : Int); decide, by show (0 : Int) ≤ _; decide⟩, List.Pairwise.nil, by show 0 ≤ 64; decide, fun q hq => (by cases hq), rfl⟩
 ·cases hm
theorem tT {al : List PA} (hs : al.Pairwise fun a b => a.id < b.id) {id : Int} (h : plc al id = al.length) : ∀ b ∈ al, b.id < id := by
 intro b hb
 obtain ⟨i, hi⟩ := List.getElem?_of_mem hb
 exact (ff hs hi id).2 (by rw [h]; exact (List.getElem?_eq_some_iff.1 hi).1)
theorem jo {M : PM} {id : Int} {a : PA} (h : acctO M id = some a) : curA M id = a.cur := by unfold curA; rw [h]; rfl
theorem mH {M : PM} (hs : M.al.Pairwise fun a b => a.id < b.id) {i : Nat} {a : PA} {id : Int} (ha : M.al[i]? = some a) (hid : a.id = id) (ho : acctO M id = some a) (n : Int) : cashM M i a n = cshM M id n := by
 unfold cashM cshM
 rw [jo ho, ← eD hs ha hid (addB n)]
 rfl
theorem my {M : PM} (hs : M.al.Pairwise fun a b => a.id < b.id) {i j : Nat} {a b : PA} {p q : Int} (ha : M.al[i]? = some a) (hb : M.al[j]? = some b) (hij : i ≠ j) (hp : a.id = p) (hq : b.id = q) (ho : acctO M p = some a) (n m d c v : Int) : twoM M i a (a.bal + n) j b (b.bal + m) d c v = dblM M p n q m d c v := by
 unfold twoM dblM
 rw [jo ho, ← na hs ha hb hij hp hq n m]
 rfl
theorem IsA.ne {F : FB} {M : PM} {i j : Nat} {a b : PA} {x y : Nat × Nat} (h : IsA F M i a x) (k : IsA F M j b y) (hn : a.id ≠ b.id) : i ≠ j := by
 rintro rfl
 have := h.a.symm.trans k.a
 injection this with this
 exact hn (by rw [this])
theorem xm (w : World) (B : Nat) (F : FB) (M : PM) (hM : MD w B F M) (T : TBL w) (hB : 6 ≤ B) (e : EV) (he : e.ok) (tv : Value) (R : Tr w tv e.ts) (hno : ∀ n c, tv = .slice none n c → c = 0) (hop : e.op = 1) (h : askL M 0 e = 0) (hc : 0 ≤ M.n ∧ M.n ≤ 4611686018427387904) (hl : M.rates.length < 1000000000000) :
  Calls prog 55 #[.pointer (some ⟨F.pm, 0, none⟩), .agg (e.cells tv).toArray] w fun r w' => ∃ F', r = .returned (.tuple #[]) ∧ MD w' B F' (chg M e) ∧ F'.pm = F.pm ∧ F'.km = F.km ∧ But (F.reach w B) w w' := by
 rw [show askL M 0 e = wth 0 (addE M.vs e.pv) from by unfold askL; rw [if_pos hop]] at h
 have hw := hM.wf
 rw [show chg M e = { M with vs := M.vs ++ [e.pv] } from by unfold chg; rw [if_pos hop]]
 refine (pN w B F M hM T hB e tv hop he R hno (wth_0.1 h).2).mono ?_
 rintro r w' ⟨rfl, h1, h2⟩
 exact ⟨F, rfl, h1, rfl, rfl, h2⟩
theorem xn (w : World) (B : Nat) (F : FB) (M : PM) (hM : MD w B F M) (T : TBL w) (hB : 6 ≤ B) (e : EV) (he : e.ok) (tv : Value) (R : Tr w tv e.ts) (hno : ∀ n c, tv = .slice none n c → c = 0) (hop : e.op = 2) (h : askL M 0 e = 0) (hc : 0 ≤ M.n ∧ M.n ≤ 4611686018427387904) (hl : M.rates.length < 1000000000000) (hend : plc M.al e.n0 = M.al.length) :
  Calls prog 55 #[.pointer (some ⟨F.pm, 0, none⟩), .agg (e.cells tv).toArray] w fun r w' => ∃ F', r = .returned (.tuple #[]) ∧ MD w' B F' (chg M e) ∧ F'.pm = F.pm ∧ F'.km = F.km ∧ But (F.reach w B) w w' := by
 rw [show askL M 0 e = openL M 0 e.n0 e.n1 from by unfold askL; rw [if_neg (by omega), if_pos hop]] at h
 have hw := hM.wf
 rw [show chg M e = { M with al := M.al.take (plc M.al e.n0) ++ newA M e.n0 e.n1 :: M.al.drop (plc M.al e.n0) } from by unfold chg; rw [if_neg (by omega), if_pos hop]]
 unfold openL at h
 rw [aE (by decide), aE (by decide), wth_0, aE (by decide)] at h
 obtain ⟨⟨⟨⟨_, k1⟩, k2⟩, k3⟩, k4⟩ := h
 have k1 := beyond_0.1 k1
 have k2 : (verO M e.n1).isSome = true := by
  cases hv : (verO M e.n1).isSome with
  | true => rfl
  | false => rw [hv] at k2; cases k2
 rw [decide_eq_false_iff_not] at k4
 refine (pO w B F M hM T hB e tv hop he.n0 hend (tF hM k1 k2) (tT hw.sort hend) (by omega)).mono ?_
 rintro r w' ⟨v, q, hb, rfl, h1, h2, _, _⟩
 refine ⟨F.more v q hb, rfl, ?_, rfl, rfl, h2⟩
 rw [hend, List.take_length, List.drop_length]
 exact h1
theorem xo (w : World) (B : Nat) (F : FB) (M : PM) (hM : MD w B F M) (T : TBL w) (hB : 6 ≤ B) (e : EV) (he : e.ok) (tv : Value) (R : Tr w tv e.ts) (hno : ∀ n c, tv = .slice none n c → c = 0) (hop : e.op = 3) (h : askL M 0 e = 0) (hc : 0 ≤ M.n ∧ M.n ≤ 4611686018427387904) (hl : M.rates.length < 1000000000000) :
  Calls prog 55 #[.pointer (some ⟨F.pm, 0, none⟩), .agg (e.cells tv).toArray] w fun r w' => ∃ F', r = .returned (.tuple #[]) ∧ MD w' B F' (chg M e) ∧ F'.pm = F.pm ∧ F'.km = F.km ∧ But (F.reach w B) w w' := by
 rw [show askL M 0 e = whn (namedK M 0 e.n0 0) (emptyO (acctO M e.n0)) 15 from by unfold askL; rw [if_neg (by omega), if_neg (by omega), if_pos hop]] at h
 have hw := hM.wf
 rw [show chg M e = { M with al := onA M.al e.n0 closedA } from by unfold chg; rw [if_neg (by omega), if_neg (by omega), if_pos hop]]
 rw [aE (by decide), namedK_0] at h
 obtain ⟨⟨_, a, ha, k1, k2⟩, k3⟩ := h
 obtain ⟨i, x, hi, hid, _⟩ := hM.acct ha
 rw [← eD hw.sort hi.a hid closedA]
 refine (pP w B F M hM T hB e tv hop i a x hi hid).mono ?_
 rintro r w' ⟨rfl, h1, h2⟩
 exact ⟨F, rfl, h1, rfl, rfl, h2.mono (fun j hj => Or.inl hj)⟩
theorem xp (w : World) (B : Nat) (F : FB) (M : PM) (hM : MD w B F M) (T : TBL w) (hB : 6 ≤ B) (e : EV) (he : e.ok) (tv : Value) (R : Tr w tv e.ts) (hno : ∀ n c, tv = .slice none n c → c = 0) (hop : e.op = 4) (h : askL M 0 e = 0) (hc : 0 ≤ M.n ∧ M.n ≤ 4611686018427387904) (hl : M.rates.length < 1000000000000) :
  Calls prog 55 #[.pointer (some ⟨F.pm, 0, none⟩), .agg (e.cells tv).toArray] w fun r w' => ∃ F', r = .returned (.tuple #[]) ∧ MD w' B F' (chg M e) ∧ F'.pm = F.pm ∧ F'.km = F.km ∧ But (F.reach w B) w w' := by
 rw [show askL M 0 e = whn (namedK M (whn 0 (beyond e.n1 10000000000000) 1) e.n0 1) (roomO (acctO M e.n0) e.n1) 4 from by unfold askL; rw [if_neg (by omega), if_neg (by omega), if_neg (by omega), if_pos hop]] at h
 have hw := hM.wf
 rw [show chg M e = cshM M e.n0 e.n1 from by unfold chg; rw [if_neg (by omega), if_neg (by omega), if_neg (by omega), if_pos hop]]
 rw [aE (by decide), namedK_0, aE (by decide)] at h
 obtain ⟨⟨⟨_, k0⟩, a, ha, k1, k2⟩, k3⟩ := h
 have k0 := beyond_0.1 k0
 obtain ⟨i, x, hi, hid, _⟩ := hM.acct ha
 have wa := hM.awf hi
 have hb := wa.bal
 have hh := wa.held
 rw [ha] at k3
 have k3 := gz wa (by omega) (by omega) k3
 rw [← mH hw.sort hi.a hid ha]
 refine (pQ w B F M hM T hB e tv hop i a x hi hid k0.1 k0.2 (by omega) (by omega) hc).mono ?_
 rintro r w' ⟨rfl, h1, h2⟩
 exact ⟨F, rfl, h1, rfl, rfl, h2.mono (fun j hj => Or.inl hj)⟩
theorem xr (w : World) (B : Nat) (F : FB) (M : PM) (hM : MD w B F M) (T : TBL w) (hB : 6 ≤ B) (e : EV) (he : e.ok) (tv : Value) (R : Tr w tv e.ts) (hno : ∀ n c, tv = .slice none n c → c = 0) (hop : e.op = 5) (h : askL M 0 e = 0) (hc : 0 ≤ M.n ∧ M.n ≤ 4611686018427387904) (hl : M.rates.length < 1000000000000) :
  Calls prog 55 #[.pointer (some ⟨F.pm, 0, none⟩), .agg (e.cells tv).toArray] w fun r w' => ∃ F', r = .returned (.tuple #[]) ∧ MD w' B F' (chg M e) ∧ F'.pm = F.pm ∧ F'.km = F.km ∧ But (F.reach w B) w w' := by
 rw [show askL M 0 e = whn (namedK M (whn 0 (beyond e.n1 10000000000000) 1) e.n0 1) (fundsO M (acctO M e.n0) e.n1) 13 from by unfold askL; rw [if_neg (by omega), if_neg (by omega), if_neg (by omega), if_neg (by omega), if_pos hop]] at h
 have hw := hM.wf
 rw [show chg M e = cshM M e.n0 (-e.n1) from by unfold chg; rw [if_neg (by omega), if_neg (by omega), if_neg (by omega), if_neg (by omega), if_pos hop]]
 rw [aE (by decide), namedK_0, aE (by decide)] at h
 obtain ⟨⟨⟨_, k0⟩, a, ha, k1, k2⟩, k3⟩ := h
 have k0 := beyond_0.1 k0
 obtain ⟨i, x, hi, hid, _⟩ := hM.acct ha
 have wa := hM.awf hi
 have hb := wa.bal
 have hh := wa.held
 rw [ha] at k3
 have k3 := fu k3
 have hl1 := hM.lim a.prod
 rw [← mH hw.sort hi.a hid ha]
 refine (pR w B F M hM T hB e tv hop i a x hi hid k0.1 k0.2 (by omega) (by omega) hc).mono ?_
 rintro r w' ⟨rfl, h1, h2⟩
 exact ⟨F, rfl, h1, rfl, rfl, h2.mono (fun j hj => Or.inl hj)⟩
theorem xt (w : World) (B : Nat) (F : FB) (M : PM) (hM : MD w B F M) (T : TBL w) (hB : 6 ≤ B) (e : EV) (he : e.ok) (tv : Value) (R : Tr w tv e.ts) (hno : ∀ n c, tv = .slice none n c → c = 0) (hop : e.op = 6) (h : askL M 0 e = 0) (hc : 0 ≤ M.n ∧ M.n ≤ 4611686018427387904) (hl : M.rates.length < 1000000000000) :
  Calls prog 55 #[.pointer (some ⟨F.pm, 0, none⟩), .agg (e.cells tv).toArray] w fun r w' => ∃ F', r = .returned (.tuple #[]) ∧ MD w' B F' (chg M e) ∧ F'.pm = F.pm ∧ F'.km = F.km ∧ But (F.reach w B) w w' := by
 rw [show askL M 0 e = transferL M 0 e.n0 e.n1 e.n2 from by unfold askL; rw [if_neg (by omega), if_neg (by omega), if_neg (by omega), if_neg (by omega), if_neg (by omega), if_pos hop]] at h
 have hw := hM.wf
 rw [show chg M e = dblM M e.n0 (-e.n2) e.n1 e.n2 2 2 e.n2 from by unfold chg; rw [if_neg (by omega), if_neg (by omega), if_neg (by omega), if_neg (by omega), if_neg (by omega), if_pos hop]]
 unfold transferL at h
 rw [aE (by decide), aE (by decide), aE (by decide), namedK_0, namedK_0, aE (by decide), aE (by decide)] at h
 obtain ⟨⟨⟨⟨⟨⟨⟨_, k0⟩, k9⟩, a, ha, k1, k2⟩, b, hb, k3, k4⟩, k5⟩, k6⟩, k7⟩ := h
 have k0 := beyond_0.1 k0
 obtain ⟨i, x, hi, hid, _⟩ := hM.acct ha
 obtain ⟨j, y, hj, hjd, _⟩ := hM.acct hb
 have wa := hM.awf hi
 have wb := hM.awf hj
 have h1 := wa.bal
 have h2 := wb.bal
 have h3 := wa.held
 have h4 := hM.lim a.prod
 rw [ha] at k5
 rw [hb] at k6
 have k5 := fu k5
 have k6 := gz wb (by omega) (by omega) k6
 have hne : e.n0 ≠ e.n1 := by simpa using k9
 have hij := hi.ne hj (by rw [hid, hjd]; exact hne)
 rw [← my hw.sort hi.a hj.a hij hid hjd ha]
 refine (pS w B F M hM T hB e tv hop i a x hi hid j b y hj hjd hij k0.1 k0.2 (by omega) (by omega) (by omega) (by omega) hc).mono ?_
 rintro r w' ⟨rfl, h1, h2⟩
 exact ⟨F, rfl, h1, rfl, rfl, h2.mono (fun j hj => Or.inl hj)⟩
theorem xu (w : World) (B : Nat) (F : FB) (M : PM) (hM : MD w B F M) (T : TBL w) (hB : 6 ≤ B) (e : EV) (he : e.ok) (tv : Value) (R : Tr w tv e.ts) (hno : ∀ n c, tv = .slice none n c → c = 0) (hop : e.op = 7) (h : askL M 0 e = 0) (hc : 0 ≤ M.n ∧ M.n ≤ 4611686018427387904) (hl : M.rates.length < 1000000000000) :
  Calls prog 55 #[.pointer (some ⟨F.pm, 0, none⟩), .agg (e.cells tv).toArray] w fun r w' => ∃ F', r = .returned (.tuple #[]) ∧ MD w' B F' (chg M e) ∧ F'.pm = F.pm ∧ F'.km = F.km ∧ But (F.reach w B) w w' := by
 rw [show askL M 0 e = holdL M 0 e.n0 e.n1 e.n2 from by unfold askL; rw [if_neg (by omega), if_neg (by omega), if_neg (by omega), if_neg (by omega), if_neg (by omega), if_neg (by omega), if_pos hop]] at h
 have hw := hM.wf
 rw [show chg M e = { M with al := onA M.al e.n0 fun a => heldA a e.n1 e.n2 } from by unfold chg; rw [if_neg (by omega), if_neg (by omega), if_neg (by omega), if_neg (by omega), if_neg (by omega), if_neg (by omega), if_pos hop]]
 unfold holdL at h
 rw [aE (by decide), aE (by decide), aE (by decide), namedK_0, aE (by decide), aE (by decide)] at h
 obtain ⟨⟨⟨⟨⟨⟨_, k0⟩, k9⟩, a, ha, k1, k2⟩, k3⟩, k4⟩, k5⟩ := h
 have k0 := beyond_0.1 k0
 have k9 := beyond_0.1 k9
 obtain ⟨i, x, hi, hid, _⟩ := hM.acct ha
 have wa := hM.awf hi
 have h1 := wa.bal
 have h3 := wa.held
 have h4 := hM.lim a.prod
 rw [ha] at k3 k4 k5
 have k3 := fu k3
 have k4 : lkA a.hs e.n1 = none := by
  cases hz : lkA a.hs e.n1 with
  | none => rfl
  | some z =>
   have := (wa.hv _ (gx hz)).2.1
   have k4 : ((lkA a.hs e.n1).getD 0 != 0) = false := k4
   rw [hz] at k4
   have : z = 0 := by simpa using k4
   omega
 have k5 : a.hs.length < 64 := by
  have k5 : decide ((64 : Int) ≤ (a.hs.length : Int)) = false := k5
  rw [decide_eq_false_iff_not] at k5
  omega
 rw [← eD hw.sort hi.a hid fun a => heldA a e.n1 e.n2]
 refine (pT w B F M hM T hB e tv hop i a x hi hid k0.1 k0.2 k9 k4 k5 (by omega)).mono ?_
 rintro r w' ⟨rfl, h1, h2⟩
 exact ⟨F, rfl, h1, rfl, rfl, h2.mono (fun j hj => Or.inl hj)⟩
theorem xv (w : World) (B : Nat) (F : FB) (M : PM) (hM : MD w B F M) (T : TBL w) (hB : 6 ≤ B) (e : EV) (he : e.ok) (tv : Value) (R : Tr w tv e.ts) (hno : ∀ n c, tv = .slice none n c → c = 0) (hop : e.op = 8) (h : askL M 0 e = 0) (hc : 0 ≤ M.n ∧ M.n ≤ 4611686018427387904) (hl : M.rates.length < 1000000000000) :
  Calls prog 55 #[.pointer (some ⟨F.pm, 0, none⟩), .agg (e.cells tv).toArray] w fun r w' => ∃ F', r = .returned (.tuple #[]) ∧ MD w' B F' (chg M e) ∧ F'.pm = F.pm ∧ F'.km = F.km ∧ But (F.reach w B) w w' := by
 rw [show askL M 0 e = freeL M 0 e.n0 e.n1 from by unfold askL; rw [if_neg (by omega), if_neg (by omega), if_neg (by omega), if_neg (by omega), if_neg (by omega), if_neg (by omega), if_neg (by omega), if_pos hop]] at h
 have hw := hM.wf
 rw [show chg M e = { M with al := onA M.al e.n0 fun a => freedA a e.n1 ((lkA a.hs e.n1).getD 0) } from by unfold chg; rw [if_neg (by omega), if_neg (by omega), if_neg (by omega), if_neg (by omega), if_neg (by omega), if_neg (by omega), if_neg (by omega), if_pos hop]]
 unfold freeL at h
 rw [aE (by decide), namedK_0, aE (by decide)] at h
 obtain ⟨⟨⟨_, k0⟩, a, ha, k1, k2⟩, k3⟩ := h
 obtain ⟨i, x, hi, hid, _⟩ := hM.acct ha
 rw [ha] at k3
 have k3 : ((lkA a.hs e.n1).getD 0 == 0) = false := k3
 obtain ⟨z, hz⟩ : ∃ z, lkA a.hs e.n1 = some z := by
  cases hz : lkA a.hs e.n1 with
  | none => rw [hz] at k3; cases k3
  | some z => exact ⟨z, rfl⟩
 rw [← eD hw.sort hi.a hid fun a => freedA a e.n1 ((lkA a.hs e.n1).getD 0), hz]
 refine (pU w B F M hM T hB e tv hop i a x hi hid z hz).mono ?_
 rintro r w' ⟨rfl, h1, h2⟩
 exact ⟨F, rfl, h1, rfl, rfl, h2.mono (fun j hj => Or.inl hj)⟩
theorem xw (w : World) (B : Nat) (F : FB) (M : PM) (hM : MD w B F M) (T : TBL w) (hB : 6 ≤ B) (e : EV) (he : e.ok) (tv : Value) (R : Tr w tv e.ts) (hno : ∀ n c, tv = .slice none n c → c = 0) (hop : e.op = 9) (h : askL M 0 e = 0) (hc : 0 ≤ M.n ∧ M.n ≤ 4611686018427387904) (hl : M.rates.length < 1000000000000) :
  Calls prog 55 #[.pointer (some ⟨F.pm, 0, none⟩), .agg (e.cells tv).toArray] w fun r w' => ∃ F', r = .returned (.tuple #[]) ∧ MD w' B F' (chg M e) ∧ F'.pm = F.pm ∧ F'.km = F.km ∧ But (F.reach w B) w w' := by
 rw [show askL M 0 e = lendL M 0 e.n0 e.n1 e.n2 e.n3 from by unfold askL; rw [if_neg (by omega), if_neg (by omega), if_neg (by omega), if_neg (by omega), if_neg (by omega), if_neg (by omega), if_neg (by omega), if_neg (by omega), if_pos hop]] at h
 have hw := hM.wf
 rw [show chg M e = dblM M e.n0 e.n2 e.n1 e.n2 3 2 e.n2 from by unfold chg; rw [if_neg (by omega), if_neg (by omega), if_neg (by omega), if_neg (by omega), if_neg (by omega), if_neg (by omega), if_neg (by omega), if_neg (by omega), if_pos hop]]
 unfold lendL at h
 rw [aE (by decide), aE (by decide), aE (by decide), aE (by decide), namedK_0, namedK_0, aE (by decide), aE (by decide)] at h
 obtain ⟨⟨⟨⟨⟨⟨⟨⟨_, k0⟩, k9⟩, a, ha, k1, k2⟩, b, hb, k3, k4⟩, k5⟩, k6⟩, k7⟩, k8⟩ := h
 have k0 := beyond_0.1 k0
 obtain ⟨i, x, hi, hid, _⟩ := hM.acct ha
 obtain ⟨j, y, hj, hjd, _⟩ := hM.acct hb
 have wa := hM.awf hi
 have wb := hM.awf hj
 have h1 := wa.bal
 have h2 := wb.bal
 rw [hb] at k5
 rw [ha] at k8
 have k5 := gz wb (by omega) (by omega) k5
 have k8 : a.bal = 0 := by simpa [owesO] using k8
 have k2 : a.kind = 2 := k2.elim (fun h => by cases h) id
 have k4 : b.kind = 1 := k4.elim (fun h => by cases h) id
 have hij : i ≠ j := by
  rintro rfl
  have := hi.a.symm.trans hj.a
  injection this with this
  rw [this, k4] at k2
  cases k2
 rw [← my hw.sort hi.a hj.a hij hid hjd ha]
 refine (pV w B F M hM T hB e tv hop i a x hi hid j b y hj hjd hij k0.1 k0.2 (by omega) (by omega) (by omega) (by omega) hc).mono ?_
 rintro r w' ⟨rfl, h1, h2⟩
 exact ⟨F, rfl, h1, rfl, rfl, h2.mono (fun j hj => Or.inl hj)⟩
theorem vz (w : World) (B : Nat) (F : FB) (M : PM) (hM : MD w B F M) (T : TBL w) (hB : 6 ≤ B) (e : EV) (he : e.ok) (tv : Value) (R : Tr w tv e.ts) (hno : ∀ n c, tv = .slice none n c → c = 0) (hop : e.op = 10) (h : askL M 0 e = 0) (hc : 0 ≤ M.n ∧ M.n ≤ 4611686018427387904) (hl : M.rates.length < 1000000000000) :
  Calls prog 55 #[.pointer (some ⟨F.pm, 0, none⟩), .agg (e.cells tv).toArray] w fun r w' => ∃ F', r = .returned (.tuple #[]) ∧ MD w' B F' (chg M e) ∧ F'.pm = F.pm ∧ F'.km = F.km ∧ But (F.reach w B) w w' := by
 rw [show askL M 0 e = repayL M 0 e.n0 e.n1 e.n2 from by unfold askL; rw [if_neg (by omega), if_neg (by omega), if_neg (by omega), if_neg (by omega), if_neg (by omega), if_neg (by omega), if_neg (by omega), if_neg (by omega), if_neg (by omega), if_pos hop]] at h
 have hw := hM.wf
 rw [show chg M e = dblM M e.n0 (-e.n2) e.n1 (-e.n2) 3 2 (-e.n2) from by unfold chg; rw [if_neg (by omega), if_neg (by omega), if_neg (by omega), if_neg (by omega), if_neg (by omega), if_neg (by omega), if_neg (by omega), if_neg (by omega), if_neg (by omega), if_pos hop]]
 unfold repayL at h
 rw [aE (by decide), aE (by decide), aE (by decide), namedK_0, namedK_0, aE (by decide)] at h
 obtain ⟨⟨⟨⟨⟨⟨_, k0⟩, a, ha, k1, k2⟩, b, hb, k3, k4⟩, k5⟩, k6⟩, k7⟩ := h
 have k0 := beyond_0.1 k0
 obtain ⟨i, x, hi, hid, _⟩ := hM.acct ha
 obtain ⟨j, y, hj, hjd, _⟩ := hM.acct hb
 have wa := hM.awf hi
 have wb := hM.awf hj
 have h1 := wa.bal
 have h2 := wb.bal
 have h3 := wb.held
 have h4 := hM.lim b.prod
 rw [hb] at k7
 rw [ha] at k6
 have k7 := fu k7
 have k6 : decide (a.bal < e.n2) = false := k6
 rw [decide_eq_false_iff_not] at k6
 have k2 : a.kind = 2 := k2.elim (fun h => by cases h) id
 have k4 : b.kind = 1 := k4.elim (fun h => by cases h) id
 have hij : i ≠ j := by
  rintro rfl
  have := hi.a.symm.trans hj.a
  injection this with this
  rw [this, k4] at k2
  cases k2
 rw [← my hw.sort hi.a hj.a hij hid hjd ha]
 refine (nP w B F M hM T hB e tv hop i a x hi hid j b y hj hjd hij k0.1 k0.2 (by omega) (by omega) (by omega) (by omega) hc).mono ?_
 rintro r w' ⟨rfl, h1, h2⟩
 exact ⟨F, rfl, h1, rfl, rfl, h2.mono (fun j hj => Or.inl hj)⟩
theorem vA (w : World) (B : Nat) (F : FB) (M : PM) (hM : MD w B F M) (T : TBL w) (hB : 6 ≤ B) (e : EV) (he : e.ok) (tv : Value) (R : Tr w tv e.ts) (hno : ∀ n c, tv = .slice none n c → c = 0) (hop : e.op = 11) (h : askL M 0 e = 0) (hc : 0 ≤ M.n ∧ M.n ≤ 4611686018427387904) (hl : M.rates.length < 1000000000000) :
  Calls prog 55 #[.pointer (some ⟨F.pm, 0, none⟩), .agg (e.cells tv).toArray] w fun r w' => ∃ F', r = .returned (.tuple #[]) ∧ MD w' B F' (chg M e) ∧ F'.pm = F.pm ∧ F'.km = F.km ∧ But (F.reach w B) w w' := by
 rw [show askL M 0 e = rateL 0 e.n0 e.n1 e.n2 from by unfold askL; rw [if_neg (by omega), if_neg (by omega), if_neg (by omega), if_neg (by omega), if_neg (by omega), if_neg (by omega), if_neg (by omega), if_neg (by omega), if_neg (by omega), if_neg (by omega), if_pos hop]] at h
 have hw := hM.wf
 rw [show chg M e = { M with rates := ((e.n0, e.n1), e.n2) :: M.rates } from by unfold chg; rw [if_neg (by omega), if_neg (by omega), if_neg (by omega), if_neg (by omega), if_neg (by omega), if_neg (by omega), if_neg (by omega), if_neg (by omega), if_neg (by omega), if_neg (by omega), if_pos hop]]
 unfold rateL at h
 rw [aE (by decide), aE (by decide), aE (by decide)] at h
 obtain ⟨⟨⟨_, k0⟩, k1⟩, k2⟩ := h
 have k1 := beyond_0.1 k1
 unfold wi at k0
 simp only [Bool.or_eq_false_iff, Bool.not_eq_false', decide_eq_true_iff] at k0
 refine (nQ w B F M hM T hB e tv hop k0.1 k0.2 k1 hl).mono ?_
 rintro r w' ⟨rfl, h1, h2⟩
 exact ⟨F, rfl, h1, rfl, rfl, h2.mono (fun j hj => Or.inl hj)⟩
theorem lP (w : World) (B : Nat) (F : FB) (M : PM) (hM : MD w B F M) (T : TBL w) (hB : 6 ≤ B) (e : EV) (he : e.ok) (tv : Value) (R : Tr w tv e.ts) (hno : ∀ n c, tv = .slice none n c → c = 0) (hop : 1 ≤ e.op ∧ e.op ≤ 11) (h : askL M 0 e = 0) (hc : 0 ≤ M.n ∧ M.n ≤ 4611686018427387904) (hl : M.rates.length < 1000000000000) (hend : e.op = 2 → plc M.al e.n0 = M.al.length) :
  Calls prog 55 #[.pointer (some ⟨F.pm, 0, none⟩), .agg (e.cells tv).toArray] w fun r w' => ∃ F', r = .returned (.tuple #[]) ∧ MD w' B F' (chg M e) ∧ F'.pm = F.pm ∧ F'.km = F.km ∧ But (F.reach w B) w w' := by
 have hk : e.op = 1 ∨ e.op = 2 ∨ e.op = 3 ∨ e.op = 4 ∨ e.op = 5 ∨ e.op = 6 ∨ e.op = 7 ∨ e.op = 8 ∨ e.op = 9 ∨ e.op = 10 ∨ e.op = 11 := by omega
 rcases hk with k | k | k | k | k | k | k | k | k | k | k
 ·exact xm w B F M hM T hB e he tv R hno k h hc hl
 ·exact xn w B F M hM T hB e he tv R hno k h hc hl (hend k)
 ·exact xo w B F M hM T hB e he tv R hno k h hc hl
 ·exact xp w B F M hM T hB e he tv R hno k h hc hl
 ·exact xr w B F M hM T hB e he tv R hno k h hc hl
 ·exact xt w B F M hM T hB e he tv R hno k h hc hl
 ·exact xu w B F M hM T hB e he tv R hno k h hc hl
 ·exact xv w B F M hM T hB e he tv R hno k h hc hl
 ·exact xw w B F M hM T hB e he tv R hno k h hc hl
 ·exact vz w B F M hM T hB e he tv R hno k h hc hl
 ·exact vA w B F M hM T hB e he tv R hno k h hc hl
theorem nI (w : World) (B : Nat) (F : FB) (M : PM) (hM : MD w B F M) (hcn : M.cnt) (hs : M.seq < 1000000000) (T : TBL w) (hB : 6 ≤ B) (e : EV) (he : e.ok) (tv : Value) (R : Tr w tv e.ts) (hno : ∀ n c, tv = .slice none n c → c = 0) (f : Bool) (hform : f = true ↔ e.e8.form) (hop : 1 ≤ e.op ∧ e.op ≤ 11) (hyes : refL M e f = 0) (hlen : e.ts.length ≤ 8796093022208) (hend : e.op = 2 → plc M.al e.n0 = M.al.length) :
  Calls prog 29 #[.pointer (some ⟨F.pm, 0, none⟩), .agg (e.cells tv).toArray] w fun r w' => ∃ F', r = .returned (.int .i64 0) ∧ MD w' B F' (nxt M e) ∧ F'.pm = F.pm ∧ F'.km = F.km ∧ But (F.reach w B) w w' := by
 have h0 := ri hyes
 have c1 := hcn.rat
 have c2 := hcn.key
 have c3 := hcn.ent
 have c4 := hcn.seq
 exact nJ w B F M (chg M e) hM e he tv R hno T f hform h0.2.2.1 (by omega) hyes hlen (fun w1 b => lP w1 B F M (hM.step b) (T.step b) hB e he tv (R.step b) hno hop h0.2.2.2.2.2 (by omega) (by omega) hend) (by rw [gK]; omega) (by rw [dx]; omega) (by rw [dx]; omega)
end Go.Proofs.YtjkiplndbcmmbaaGreatDoor
namespace Go.Proofs.YtjkiplndbcmmbaaGreatDoor
open Go.RowKit Go.Maps
def mT : List TypeId := [100, 85, 81, 144, 154, 208]
theorem MD.reach_ty {w : World} {B : Nat} {F : FB} {M : PM} (h : MD w B F M) {p : Nat} {cs : List Value} {T : TypeId} (v : VA w p cs T) (hT : T ∉ mT) : ¬ F.reach w B p := by
 unfold mT at hT
 simp only [List.mem_cons, List.not_mem_nil, or_false, not_or] at hT
 obtain ⟨t1, t2, t3, t4, t5, t6⟩ := hT
 obtain ⟨sv, hV⟩ := h.cbm
 rintro (hr | hr | hr | ⟨_, cs', fr, e⟩ | ⟨_, cs', fr, e⟩)
 ·rcases hr with hr | hr | hr | hr | hr | ⟨x, hx, e⟩
  ·exact v.ne h.va t1 hr
  ·exact v.ne h.led.va t4 hr
  ·exact v.neM (bO h.led.map) hr
  ·exact v.neM h.rts.isMap hr
  ·exact v.neM h.kys.isMap hr
  ·obtain ⟨i, hi⟩ := List.getElem?_of_mem hx
   obtain ⟨a, ha⟩ : ∃ a, M.al[i]? = some a := ⟨_, List.getElem?_eq_getElem (by rw [← h.len]; exact (List.getElem?_eq_some_iff.1 hi).1)⟩
   have := h.acs i a x ha hi
   rcases e with e | e
   ·exact v.ne this.1 t2 e
   ·exact v.neM this.2.isMap e
 ·exact v.ne hV t5 hr
 ·exact v.neM (h.catO hV).1 hr
 ·have := v.blk.symm.trans e
  simp only [Option.some.injEq, Obj.cells.injEq] at this
  exact t3 this.2.1
 ·have := v.blk.symm.trans e
  simp only [Option.some.injEq, Obj.cells.injEq] at this
  exact t6 this.2.1
theorem VA.keptM {w w' : World} {B : Nat} {F : FB} {M : PM} {p : Nat} {cs : List Value} {T : TypeId} (v : VA w p cs T) (h : MD w B F M) (k : But (F.reach w B) w w') (hT : T ∉ mT) : VA w' p cs T := v.but k (h.reach_ty v hT)
theorem TBL.keptM {w w' : World} {B : Nat} {F : FB} {M : PM} (t : TBL w) (h : MD w B F M) (k : But (F.reach w B) w w') (hB : 6 ≤ B) : TBL w' := t.but k (fun i hi => Nat.le_trans hB (h.reach_low hi))
theorem OwnT.hno {w : World} {B : Nat} {v : Value} {ts : List (Int × Int)} (h : OwnT w B v ts) : ∀ n c, v = .slice none n c → c = 0 := by
 intro n c e
 rcases h.own.2 with ⟨rfl, _⟩ | ⟨g, cap, cur, rfl, _⟩
 ·cases e; rfl
 ·cases e
theorem OwnT.tf {w : World} {B : Nat} {v : Value} {ts : List (Int × Int)} (h : OwnT w B v ts) : ∃ a n c, v = Value.slice a n c := by
 obtain ⟨a, c, e, _⟩ := h.tr.form
 exact ⟨a, _, c, e⟩
end Go.Proofs.YtjkiplndbcmmbaaGreatDoor
namespace Go.Proofs.YtjkiplndbcmmbaaGreatDoor
open Tryz
open Go.RowKit Go.Maps
theorem gT {ns : List Int} {k : Nat} (h : ns.length ≤ k) : ns.getD k 0 = 0 := by rw [List.getD_eq_getElem?_getD, List.getElem?_eq_none h]; rfl
def mkE (op : Nat) (ns : List Int) : EV := ⟨op, 0, ns.getD 0 0, ns.getD 1 0, ns.getD 2 0, ns.getD 3 0, ns.getD 4 0, ns.getD 5 0, ns.getD 6 0, ns.getD 7 0, []⟩
def mkC (op : Nat) (ns : List Int) (i : Nat) : List Value := [.int .u8 (op : Int), .int .u64 0] ++ (List.range 8).map (fun k => Value.int .i64 (if k < i then ns.getD k 0 else 0)) ++ [.slice none 0 0]
def mkZ : List Value := [.int .u8 0, .int .u64 0, .int .i64 0, .int .i64 0, .int .i64 0, .int .i64 0, .int .i64 0, .int .i64 0, .int .i64 0, .int .i64 0, .slice none 0 0]
theorem xP (op : Nat) (ns : List Int) : mkC op ns 0 = [.int .u8 (op : Int), .int .u64 0, .int .i64 0, .int .i64 0, .int .i64 0, .int .i64 0, .int .i64 0, .int .i64 0, .int .i64 0, .int .i64 0, .slice none 0 0] := rfl
theorem tx (op : Nat) (ns : List Int) : ∀ i, i < 8 → (mkC op ns i).set (2 + i) (.int .i64 (ns.getD i 0)) = mkC op ns (i + 1)
 | 0, _ => rfl
 | 1, _ => rfl
 | 2, _ => rfl
 | 3, _ => rfl
 | 4, _ => rfl
 | 5, _ => rfl
 | 6, _ => rfl
 | 7, _ => rfl
 | n + 8, h => by omega
theorem tq (op : Nat) (ns : List Int) : mkC op ns ns.length = (mkE op ns).cells (.slice none 0 0) := by
 have h : ∀ k, (if k < ns.length then ns.getD k 0 else 0) = ns.getD k 0 := fun k => by
  split
  ·rfl
  ·rw [gT (by omega)]
 unfold mkC
 simp only [h]
 rfl
theorem tw (op : Nat) (ns : List Int) : ∀ v ∈ mkC op ns 0, v.oneCell' = true := by
 rw [xP]
 intro v hv
 simp at hv
 rcases hv with rfl | rfl | rfl | rfl <;> rfl
theorem tz : ∀ v ∈ mkZ, v.oneCell' = true := by
 intro v hv
 simp [mkZ] at hv
 rcases hv with rfl | rfl | rfl | rfl <;> rfl
theorem mZ (op : Nat) (ns : List Int) : ∀ v ∈ (mkE op ns).cells (.slice none 0 0), v.oneCell' = true := (mkE op ns).one ⟨none, 0, 0, rfl⟩
theorem ch {ns : List Int} (h : ∀ n ∈ ns, I64 n) (k : Nat) : I64 (ns.getD k 0) := by
 by_cases hk : k < ns.length
 ·rw [List.getD_eq_getElem?_getD, List.getElem?_eq_getElem hk]
  exact h _ (List.getElem_mem hk)
 ·rw [gT (by omega)]
  exact ⟨by decide, by decide⟩
theorem jz {op : Nat} {ns : List Int} (ho : op ≤ 255) (h : ∀ n ∈ ns, I64 n) : (mkE op ns).ok := ⟨ho, by show 0 ≤ _; omega, ch h 0, ch h 1, ch h 2, ch h 3, ch h 4, ch h 5, ch h 6, ch h 7⟩
theorem fx {op : Nat} {ns : List Int} (h1 : 1 ≤ op) (h2 : op ≤ 15) (hl : ns.length ≤ ct.getD op 0) : (mkE op ns).e8.form := by
 refine ⟨h1, h2, Nat.zero_le _, fun i hi h8 => ?_⟩
 have hi : ct.getD op 0 ≤ i := hi
 have e : ns.getD i 0 = 0 := gT (by omega)
 have hc : i = 0 ∨ i = 1 ∨ i = 2 ∨ i = 3 ∨ i = 4 ∨ i = 5 ∨ i = 6 ∨ i = 7 := by omega
 rcases hc with rfl | rfl | rfl | rfl | rfl | rfl | rfl | rfl <;> exact e
theorem bT (op : Nat) (ns : List Int) (w : World) (p : Nat) (V : VA w p (ns.map fun n => Value.int .i64 n) 2) (hl : ns.length ≤ 8) :
  Calls prog 12 #[.int .u8 (op : Int), .slice (some ⟨p, 0, none⟩) ns.length ns.length] w fun r w' => r = .returned (.agg ((mkE op ns).cells (.slice none 0 0)).toArray) ∧ Below w.heap.size w w' := by
 obtain ⟨N, hN⟩ : ∃ N, N = ns.length := ⟨_, rfl⟩
 have HN : Hid (N = ns.length) := hN
 rw [← hN] at hl ⊢
 have b0 := (Below.refl w.heap.size w).alloc (Nat.le_refl _) (.cells #[.int .u8 0, .int .u64 0, .int .i64 0, .int .i64 0, .int .i64 0, .int .i64 0, .int .i64 0, .int .i64 0, .int .i64 0, .int .i64 0, .slice none 0 0] 31)
 have b1 := b0.alloc (by simp) (.cells #[.int .u8 0, .int .u64 0, .int .i64 0, .int .i64 0, .int .i64 0, .int .i64 0, .int .i64 0, .int .i64 0, .int .i64 0, .int .i64 0, .slice none 0 0] 31)
 have V0 := aa w mkZ 31
 have V00 := V0.alloc (.cells #[.int .u8 0, .int .u64 0, .int .i64 0, .int .i64 0, .int .i64 0, .int .i64 0, .int .i64 0, .int .i64 0, .int .i64 0, .int .i64 0, .slice none 0 0] 31)
 have hv1 := aa (w.alloc (.cells #[.int .u8 0, .int .u64 0, .int .i64 0, .int .i64 0, .int .i64 0, .int .i64 0, .int .i64 0, .int .i64 0, .int .i64 0, .int .i64 0, .slice none 0 0] 31)) mkZ 31
 rw [World.size_alloc] at hv1
 have HR_0 := hI_ V00
 have HE_0 := hI_ hv1
 have BB_0 := hI_ b1
 have HV := hI_ V
 clear b0 b1 V0 V00 hv1 V hN
 have g3 : (N : Int) ≤ 8 := by omega
 go_enter func12, ntmps12
 go_upto_region 2 with (refine stA rfl 31 _ _ rfl (w.heap.size + 1) (by rfl) mkZ (mkC op ns 0) (by rfl) 31 HE_0.out aj rfl (tw op ns) ?_; intro w1 v1 u1)
 have HE_1 := hI_ v1
 have HR_1 : Hid (VA w1 w.heap.size mkZ 31) := HR_0.out.upd u1 (by omega)
 have BB_1 : Hid (Below w.heap.size w w1) := u1.bel BB_0.out (by omega)
 clear v1 u1 HE_0 HR_0 BB_0
 go_wp2_with fail
 go_loopw [12] (fun i wr => ∃ k : Nat, k ≤ N ∧ i = .int .i64 (k : Int) ∧ Hid (VA wr (w.heap.size + 1) (mkC op ns k) 31) ∧ Hid (VA wr w.heap.size mkZ 31) ∧ Hid (Below w.heap.size w wr)) (fun i _ => N - (intOf i).toNat)
 case atStart => exact ⟨0, by omega, rfl, HE_1.out, HR_1.out, BB_1.out⟩
 case round =>
  obtain ⟨k, hk, rfl, HE, HR, HB⟩ := hrel
  by_cases hkn : k = N
  ·subst hkn
   have HE2 : Hid (VA wr (w.heap.size + 1) ((mkE op ns).cells (.slice none 0 0)) 31) := by have := HE.out; rw [HN.out, tq] at this; exact this
   clear HE
   go_wp2_with (first | (refine ldA rfl 31 _ rfl (w.heap.size + 1) (by rfl) _ _ HE2.out _ underlying31 rfl aj ?_) | (refine stA rfl 31 _ _ rfl w.heap.size (by rfl) mkZ ((mkE op ns).cells (.slice none 0 0)) (by rfl) 31 HR.out aj rfl (mZ op ns) ?_; intro wf vf uf))
   have hld := run_loadVar_row (P := prog) wf w.heap.size 31 31 _ (0, 0) _ vf.blk underlying31 rfl aj
   exact bodyPost_ret (v := .agg ((mkE op ns).cells (.slice none 0 0)).toArray) (by simp [results, results12, asAddr, hld, Act.put]) rfl ⟨rfl, uf.bel HB.out (Nat.le_refl _)⟩
  have hk' : k < N := by omega
  have d1 : (0 : Int) ≤ (k : Int) := by omega
  have d2 : (k : Int) < (N : Int) := by omega
  have d3 : (k : Int) < 8 := by omega
  obtain ⟨x, hx⟩ : ∃ x, x = ns.getD k 0 := ⟨_, rfl⟩
  have HX := hI_ hx
  have cx : wr.cell? ⟨p, k, none⟩ = some (.int .i64 x) := (HV.out.step HB.out).cell k (by rw [List.getElem?_map, List.getElem?_eq_getElem (by have := HN.out; omega), hx, List.getD_eq_getElem?_getD, List.getElem?_eq_getElem (by have := HN.out; omega)]; rfl)
  have fe := HE.out.free (2 + k)
  obtain ⟨y, hy⟩ : ∃ y, wr.cell? ⟨w.heap.size + 1, 2 + k, none⟩ = some y := ⟨_, HE.out.cell (2 + k) (List.getElem?_eq_getElem (by show 2 + k < 11; omega))⟩
  have hbk := HE.out.blk
  clear hx
  go_wp2_with fail
  have U := au wr (w.heap.size + 1) (2 + k) (.int .i64 x)
  have V2 : VA (wr.setCell ⟨w.heap.size + 1, 2 + k, none⟩ (.int .i64 x)) (w.heap.size + 1) (mkC op ns (k + 1)) 31 := by
   rw [← tx op ns k (by omega), ← HX.out]
   exact HE.out.set (2 + k) (.int .i64 x)
  exact ⟨⟨k + 1, by omega, by go_num, V2, HR.out.upd U (by omega), U.bel HB.out (by omega)⟩, by simp [intOf]; omega⟩
theorem fd : (prog.info? 2).map (fun i => (i.zero, i.size)) = some (some (.int .i64 0), 1) := by kernel_rfl
theorem mR : (prog.info? 31).map (fun i => (i.zero, i.size)) = some (some (.agg mkZ.toArray), 11) := by kernel_rfl
theorem vP : (prog.info? 102).map (fun i => (i.zero, i.size)) = some (some (.agg #[.int .i64 0, .int .i64 0]), 2) := by kernel_rfl
theorem fI1 (z0 : Int) : Instr.fill (fun i => some (i * 1, 1)) ((Array.range (1 * 1)).map ((Value.int .i64 0).cells[· % (Value.int .i64 0).cells.size]!)) [(0, Value.int .i64 z0)] = some (#[.int .i64 z0] : Array Value) := by kernel_rfl
theorem rI1 (z0 : Int) (w : World) : (Instr.buildSlice 80 1 #[(0, Value.int .i64 z0)]).run prog w = .ok (.slice (some ⟨w.heap.size, 0, none⟩) 1 1) (w.alloc (.cells #[.int .i64 z0] 2)) := by
 obtain ⟨i0, hi, hz⟩ := Option.map_eq_some_iff.1 fd
 simp only [Prod.mk.injEq] at hz
 refine run_buildSlice w 80 2 1 _ _ i0 (.int .i64 0) underlying80 hi hz.1 (by rw [hz.2]; decide) (by rw [hz.2]; decide) ?_
 rw [hz.2]
 exact fI1 z0
theorem fI2 (z0 z1 : Int) : Instr.fill (fun i => some (i * 1, 1)) ((Array.range (2 * 1)).map ((Value.int .i64 0).cells[· % (Value.int .i64 0).cells.size]!)) [(0, Value.int .i64 z0), (1, Value.int .i64 z1)] = some (#[.int .i64 z0, .int .i64 z1] : Array Value) := by kernel_rfl
theorem rI2 (z0 z1 : Int) (w : World) : (Instr.buildSlice 80 2 #[(0, Value.int .i64 z0), (1, Value.int .i64 z1)]).run prog w = .ok (.slice (some ⟨w.heap.size, 0, none⟩) 2 2) (w.alloc (.cells #[.int .i64 z0, .int .i64 z1] 2)) := by
 obtain ⟨i0, hi, hz⟩ := Option.map_eq_some_iff.1 fd
 simp only [Prod.mk.injEq] at hz
 refine run_buildSlice w 80 2 2 _ _ i0 (.int .i64 0) underlying80 hi hz.1 (by rw [hz.2]; decide) (by rw [hz.2]; decide) ?_
 rw [hz.2]
 exact fI2 z0 z1
theorem bI2 {w : World} {o : Oper} {a : Act} {K : Act → World → Prop} {Q : Exit → Act → World → Prop} (o0 o1 : Operand) (ho : o.op = .buildSlice 80 2 #[(0, o0), (1, o1)]) (z0 z1 : Int) (h0 : a.eval o0 = .int .i64 z0) (h1 : a.eval o1 = .int .i64 z1)
  (h : K (a.put o.dst (.slice (some ⟨w.heap.size, 0, none⟩) 2 2)) (w.alloc (.cells #[.int .i64 z0, .int .i64 z1] 2))) : o.wp prog a w K Q := by
 obtain ⟨i0, hi, hz⟩ := Option.map_eq_some_iff.1 fd
 simp only [Prod.mk.injEq] at hz
 refine wp_buildSlice 80 2 2 _ ho _ i0 (.int .i64 0) underlying80 hi hz.1 (by rw [hz.2]; decide) (by rw [hz.2]; decide) ?_ h
 rw [hz.2]
 simp only [List.map_toArray, List.map_cons, List.map_nil, h0, h1]
 exact fI2 z0 z1
theorem vI2 (w : World) (z0 z1 : Int) : VA (w.alloc (.cells #[.int .i64 z0, .int .i64 z1] 2)) w.heap.size (([z0, z1] : List Int).map fun n => Value.int .i64 n) 2 := aa w [.int .i64 z0, .int .i64 z1] 2
theorem fI3 (z0 z1 z2 : Int) : Instr.fill (fun i => some (i * 1, 1)) ((Array.range (3 * 1)).map ((Value.int .i64 0).cells[· % (Value.int .i64 0).cells.size]!)) [(0, Value.int .i64 z0), (1, Value.int .i64 z1), (2, Value.int .i64 z2)] = some (#[.int .i64 z0, .int .i64 z1, .int .i64 z2] : Array Value) := by kernel_rfl
theorem rI3 (z0 z1 z2 : Int) (w : World) : (Instr.buildSlice 80 3 #[(0, Value.int .i64 z0), (1, Value.int .i64 z1), (2, Value.int .i64 z2)]).run prog w = .ok (.slice (some ⟨w.heap.size, 0, none⟩) 3 3) (w.alloc (.cells #[.int .i64 z0, .int .i64 z1, .int .i64 z2] 2)) := by
 obtain ⟨i0, hi, hz⟩ := Option.map_eq_some_iff.1 fd
 simp only [Prod.mk.injEq] at hz
 refine run_buildSlice w 80 2 3 _ _ i0 (.int .i64 0) underlying80 hi hz.1 (by rw [hz.2]; decide) (by rw [hz.2]; decide) ?_
 rw [hz.2]
 exact fI3 z0 z1 z2
theorem bI3 {w : World} {o : Oper} {a : Act} {K : Act → World → Prop} {Q : Exit → Act → World → Prop} (o0 o1 o2 : Operand) (ho : o.op = .buildSlice 80 3 #[(0, o0), (1, o1), (2, o2)]) (z0 z1 z2 : Int) (h0 : a.eval o0 = .int .i64 z0) (h1 : a.eval o1 = .int .i64 z1) (h2 : a.eval o2 = .int .i64 z2)
  (h : K (a.put o.dst (.slice (some ⟨w.heap.size, 0, none⟩) 3 3)) (w.alloc (.cells #[.int .i64 z0, .int .i64 z1, .int .i64 z2] 2))) : o.wp prog a w K Q := by
 obtain ⟨i0, hi, hz⟩ := Option.map_eq_some_iff.1 fd
 simp only [Prod.mk.injEq] at hz
 refine wp_buildSlice 80 2 3 _ ho _ i0 (.int .i64 0) underlying80 hi hz.1 (by rw [hz.2]; decide) (by rw [hz.2]; decide) ?_ h
 rw [hz.2]
 simp only [List.map_toArray, List.map_cons, List.map_nil, h0, h1, h2]
 exact fI3 z0 z1 z2
theorem vI3 (w : World) (z0 z1 z2 : Int) : VA (w.alloc (.cells #[.int .i64 z0, .int .i64 z1, .int .i64 z2] 2)) w.heap.size (([z0, z1, z2] : List Int).map fun n => Value.int .i64 n) 2 := aa w [.int .i64 z0, .int .i64 z1, .int .i64 z2] 2
theorem fI4 (z0 z1 z2 z3 : Int) : Instr.fill (fun i => some (i * 1, 1)) ((Array.range (4 * 1)).map ((Value.int .i64 0).cells[· % (Value.int .i64 0).cells.size]!)) [(0, Value.int .i64 z0), (1, Value.int .i64 z1), (2, Value.int .i64 z2), (3, Value.int .i64 z3)] = some (#[.int .i64 z0, .int .i64 z1, .int .i64 z2, .int .i64 z3] : Array Value) := by kernel_rfl
theorem rI4 (z0 z1 z2 z3 : Int) (w : World) : (Instr.buildSlice 80 4 #[(0, Value.int .i64 z0), (1, Value.int .i64 z1), (2, Value.int .i64 z2), (3, Value.int .i64 z3)]).run prog w = .ok (.slice (some ⟨w.heap.size, 0, none⟩) 4 4) (w.alloc (.cells #[.int .i64 z0, .int .i64 z1, .int .i64 z2, .int .i64 z3] 2)) := by
 obtain ⟨i0, hi, hz⟩ := Option.map_eq_some_iff.1 fd
 simp only [Prod.mk.injEq] at hz
 refine run_buildSlice w 80 2 4 _ _ i0 (.int .i64 0) underlying80 hi hz.1 (by rw [hz.2]; decide) (by rw [hz.2]; decide) ?_
 rw [hz.2]
 exact fI4 z0 z1 z2 z3
theorem fI8 (z0 z1 z2 z3 z4 z5 z6 z7 : Int) : Instr.fill (fun i => some (i * 1, 1)) ((Array.range (8 * 1)).map ((Value.int .i64 0).cells[· % (Value.int .i64 0).cells.size]!)) [(0, Value.int .i64 z0), (1, Value.int .i64 z1), (2, Value.int .i64 z2), (3, Value.int .i64 z3), (4, Value.int .i64 z4), (5, Value.int .i64 z5), (6, Value.int .i64 z6), (7, Value.int .i64 z7)] = some (#[.int .i64 z0, .int .i64 z1, .int .i64 z2, .int .i64 z3, .int .i64 z4, .int .i64 z5, .int .i64 z6, .int .i64 z7] : Array Value) := by kernel_rfl
theorem rI8 (z0 z1 z2 z3 z4 z5 z6 z7 : Int) (w : World) : (Instr.buildSlice 80 8 #[(0, Value.int .i64 z0), (1, Value.int .i64 z1), (2, Value.int .i64 z2), (3, Value.int .i64 z3), (4, Value.int .i64 z4), (5, Value.int .i64 z5), (6, Value.int .i64 z6), (7, Value.int .i64 z7)]).run prog w = .ok (.slice (some ⟨w.heap.size, 0, none⟩) 8 8) (w.alloc (.cells #[.int .i64 z0, .int .i64 z1, .int .i64 z2, .int .i64 z3, .int .i64 z4, .int .i64 z5, .int .i64 z6, .int .i64 z7] 2)) := by
 obtain ⟨i0, hi, hz⟩ := Option.map_eq_some_iff.1 fd
 simp only [Prod.mk.injEq] at hz
 refine run_buildSlice w 80 2 8 _ _ i0 (.int .i64 0) underlying80 hi hz.1 (by rw [hz.2]; decide) (by rw [hz.2]; decide) ?_
 rw [hz.2]
 exact fI8 z0 z1 z2 z3 z4 z5 z6 z7
theorem vI8 (w : World) (z0 z1 z2 z3 z4 z5 z6 z7 : Int) : VA (w.alloc (.cells #[.int .i64 z0, .int .i64 z1, .int .i64 z2, .int .i64 z3, .int .i64 z4, .int .i64 z5, .int .i64 z6, .int .i64 z7] 2)) w.heap.size (([z0, z1, z2, z3, z4, z5, z6, z7] : List Int).map fun n => Value.int .i64 n) 2 := aa w [.int .i64 z0, .int .i64 z1, .int .i64 z2, .int .i64 z3, .int .i64 z4, .int .i64 z5, .int .i64 z6, .int .i64 z7] 2
def ECS : List (EV × Value) → List Value
 | [] => []
 | x :: xs => x.1.cells x.2 ++ ECS xs
theorem je : ∀ (xs : List (EV × Value)) (k : Nat) (x : EV × Value), xs[k]? = some x → ∀ (j : Nat) u, (x.1.cells x.2)[j]? = some u → (ECS xs)[k * 11 + j]? = some u
 | [], k, x, h, j, u, hu => by simp at h
 | y :: ys, 0, x, h, j, u, hu => by
  simp at h
  subst h
  unfold ECS
  rw [Nat.zero_mul, Nat.zero_add, List.getElem?_append_left (List.getElem?_eq_some_iff.1 hu).1]
  exact hu
 | y :: ys, k + 1, x, h, j, u, hu => by
  have h : ys[k]? = some x := by simpa using h
  unfold ECS
  have hl : (y.1.cells y.2).length = 11 := rfl
  rw [List.getElem?_append_right (by rw [hl]; omega), hl, show (k + 1) * 11 + j - 11 = k * 11 + j by omega]
  exact je ys k x h j u hu
theorem fE3 (e0 : EV) (v0 : Value) (e1 : EV) (v1 : Value) (e2 : EV) (v2 : Value) : Instr.fill (fun i => some (i * 11, 11)) ((Array.range (3 * 11)).map ((Value.agg mkZ.toArray).cells[· % (Value.agg mkZ.toArray).cells.size]!)) [(0, Value.agg (e0.cells v0).toArray), (1, Value.agg (e1.cells v1).toArray), (2, Value.agg (e2.cells v2).toArray)] = some (ECS [(e0, v0), (e1, v1), (e2, v2)]).toArray := by kernel_rfl
theorem bE3 {w : World} {o : Oper} {a : Act} {K : Act → World → Prop} {Q : Exit → Act → World → Prop} (o0 o1 o2 : Operand) (ho : o.op = .buildSlice 70 3 #[(0, o0), (1, o1), (2, o2)]) (e0 : EV) (v0 : Value) (e1 : EV) (v1 : Value) (e2 : EV) (v2 : Value) (h0 : a.eval o0 = .agg (e0.cells v0).toArray) (h1 : a.eval o1 = .agg (e1.cells v1).toArray) (h2 : a.eval o2 = .agg (e2.cells v2).toArray)
  (h : K (a.put o.dst (.slice (some ⟨w.heap.size, 0, none⟩) 3 3)) (w.alloc (.cells (ECS [(e0, v0), (e1, v1), (e2, v2)]).toArray 31))) : o.wp prog a w K Q := by
 obtain ⟨i0, hi, hz⟩ := Option.map_eq_some_iff.1 mR
 simp only [Prod.mk.injEq] at hz
 refine wp_buildSlice 70 31 3 _ ho _ i0 (.agg mkZ.toArray) underlying70 hi hz.1 (by rw [hz.2]; decide) (by rw [hz.2]; decide) ?_ h
 rw [hz.2]
 simp only [List.map_toArray, List.map_cons, List.map_nil, h0, h1, h2]
 exact fE3 e0 v0 e1 v1 e2 v2
theorem fE6 (e0 : EV) (v0 : Value) (e1 : EV) (v1 : Value) (e2 : EV) (v2 : Value) (e3 : EV) (v3 : Value) (e4 : EV) (v4 : Value) (e5 : EV) (v5 : Value) : Instr.fill (fun i => some (i * 11, 11)) ((Array.range (6 * 11)).map ((Value.agg mkZ.toArray).cells[· % (Value.agg mkZ.toArray).cells.size]!)) [(0, Value.agg (e0.cells v0).toArray), (1, Value.agg (e1.cells v1).toArray), (2, Value.agg (e2.cells v2).toArray), (3, Value.agg (e3.cells v3).toArray), (4, Value.agg (e4.cells v4).toArray), (5, Value.agg (e5.cells v5).toArray)] = some (ECS [(e0, v0), (e1, v1), (e2, v2), (e3, v3), (e4, v4), (e5, v5)]).toArray := by kernel_rfl
theorem bE6 {w : World} {o : Oper} {a : Act} {K : Act → World → Prop} {Q : Exit → Act → World → Prop} (o0 o1 o2 o3 o4 o5 : Operand) (ho : o.op = .buildSlice 70 6 #[(0, o0), (1, o1), (2, o2), (3, o3), (4, o4), (5, o5)]) (e0 : EV) (v0 : Value) (e1 : EV) (v1 : Value) (e2 : EV) (v2 : Value) (e3 : EV) (v3 : Value) (e4 : EV) (v4 : Value) (e5 : EV) (v5 : Value) (h0 : a.eval o0 = .agg (e0.cells v0).toArray) (h1 : a.eval o1 = .agg (e1.cells v1).toArray) (h2 : a.eval o2 = .agg (e2.cells v2).toArray) (h3 : a.eval o3 = .agg (e3.cells v3).toArray) (h4 : a.eval o4 = .agg (e4.cells v4).toArray) (h5 : a.eval o5 = .agg (e5.cells v5).toArray)
  (h : K (a.put o.dst (.slice (some ⟨w.heap.size, 0, none⟩) 6 6)) (w.alloc (.cells (ECS [(e0, v0), (e1, v1), (e2, v2), (e3, v3), (e4, v4), (e5, v5)]).toArray 31))) : o.wp prog a w K Q := by
 obtain ⟨i0, hi, hz⟩ := Option.map_eq_some_iff.1 mR
 simp only [Prod.mk.injEq] at hz
 refine wp_buildSlice 70 31 6 _ ho _ i0 (.agg mkZ.toArray) underlying70 hi hz.1 (by rw [hz.2]; decide) (by rw [hz.2]; decide) ?_ h
 rw [hz.2]
 simp only [List.map_toArray, List.map_cons, List.map_nil, h0, h1, h2, h3, h4, h5]
 exact fE6 e0 v0 e1 v1 e2 v2 e3 v3 e4 v4 e5 v5
theorem fT1 (f r : Int) : Instr.fill (fun i => some (i * 2, 2)) ((Array.range (1 * 2)).map ((Value.agg #[.int .i64 0, .int .i64 0]).cells[· % (Value.agg #[.int .i64 0, .int .i64 0]).cells.size]!)) [(0, Value.agg #[.int .i64 f, .int .i64 r])] = some (#[.int .i64 f, .int .i64 r] : Array Value) := by kernel_rfl
theorem rT1 (f r : Int) (w : World) : (Instr.buildSlice 29 1 #[(0, Value.agg #[.int .i64 f, .int .i64 r])]).run prog w = .ok (.slice (some ⟨w.heap.size, 0, none⟩) 1 1) (w.alloc (.cells #[.int .i64 f, .int .i64 r] 102)) := by
 obtain ⟨i0, hi, hz⟩ := Option.map_eq_some_iff.1 vP
 simp only [Prod.mk.injEq] at hz
 refine run_buildSlice w 29 102 1 _ _ i0 _ underlying29 hi hz.1 (by rw [hz.2]; decide) (by rw [hz.2]; decide) ?_
 rw [hz.2]
 exact fT1 f r
def PE : EV := ⟨1, 0, 1, 1, 0, 1, 1, 0, 0, 500, [(0, 36500000)]⟩
theorem vW (w : World) (f r : Int) (hf : I64 f) (hr : I64 r) : OwnT (w.alloc (.cells #[.int .i64 f, .int .i64 r] 102)) w.heap.size (.slice (some ⟨w.heap.size, 0, none⟩) 1 1) [(f, r)] :=
 ⟨fun t ht => by simp at ht; subst ht; exact ⟨hf, hr⟩, rfl, Or.inr ⟨w.heap.size, 1, #[.int .i64 f, .int .i64 r], rfl, Nat.le_refl _, (aa w [.int .i64 f, .int .i64 r] 102).blk, Nat.le_refl _, by unfold maxLen; omega, rfl, rfl⟩⟩
structure Good (M : PM) (e : EV) : Prop where
 ok : e.ok
 op : 1 ≤ e.op ∧ e.op ≤ 11
 form : e.e8.form
 yes : refL M e true = 0
 len : e.ts.length ≤ 8
 fin : e.op = 2 → plc M.al e.n0 = M.al.length
def runM (M : PM) (es : List EV) : PM := es.foldl nxt M
theorem j6 (M : PM) (es : List EV) {k : Nat} {e : EV} (h : es[k]? = some e) : runM M (es.take (k + 1)) = nxt (runM M (es.take k)) e := by
 obtain ⟨hl, he⟩ := List.getElem?_eq_some_iff.1 h
 unfold runM
 rw [List.take_add_one, h]
 simp
theorem kX (M : PM) (es : List EV) : (runM M es).seq = M.seq + es.length := by
 unfold runM
 induction es generalizing M with
 | nil => simp
 | cons e es ih =>
  rw [List.foldl_cons, ih]
  have : (nxt M e).seq = M.seq + 1 := by show (chg M e).seq + 1 = _; rw [dx]
  rw [this, List.length_cons]
  omega
theorem OwnT.keptM {w w' : World} {B B' : Nat} {F : FB} {M : PM} {tv : Value} {ts : List (Int × Int)} (o : OwnT w B' tv ts) (h : MD w B F M) (k : But (F.reach w B) w w') : OwnT w' B' tv ts := by
 refine o.blk' (fun g hg => ?_)
 obtain ⟨cs, e⟩ := o.blkT hg
 have V : VA w g cs.toList 102 := ⟨by simpa using e⟩
 exact k.block g V.lt (h.reach_ty V (by decide))
structure BK (w : World) (B p : Nat) (M : PM) : Prop where
 md : ∃ F, MD w B F M ∧ F.pm = p
 tb : TBL w
 six : 6 ≤ B
 cnt : M.cnt
structure KT (B : Nat) (w w' : World) : Prop where
 va : ∀ {p : Nat} {cs : List Value} {T : TypeId}, VA w p cs T → T ∉ mT → VA w' p cs T
 ot : ∀ {B' : Nat} {v : Value} {ts : List (Int × Int)}, OwnT w B' v ts → OwnT w' B' v ts
 bel : Below B w w'
theorem KT.of {B : Nat} {w w' : World} (k : Below w.heap.size w w') (hB : B ≤ w.heap.size) : KT B w w' := ⟨fun v _ => v.step k, fun o => o.step k, k.mono hB⟩
theorem KT.trans {B : Nat} {a b c : World} (h : KT B a b) (k : KT B b c) : KT B a c := ⟨fun v hT => k.va (h.va v hT) hT, fun o => k.ot (h.ot o), h.bel.trans k.bel⟩
theorem BK.low {w : World} {B p : Nat} {M : PM} (h : BK w B p M) : B ≤ w.heap.size := by
 obtain ⟨F, hM, _⟩ := h.md
 exact hM.lt
theorem BK.step {w w' : World} {B p : Nat} {M : PM} (h : BK w B p M) (k : Below w.heap.size w w') : BK w' B p M := by
 obtain ⟨F, hM, hp⟩ := h.md
 exact ⟨⟨F, hM.step k, hp⟩, h.tb.step k, h.six, h.cnt⟩
theorem BK.upd {w w' : World} {B p q : Nat} {M : PM} {cs : List Value} {T : TypeId} (h : BK w B p M) (v : VA w q cs T) (hT : T ≠ 100 ∧ T ≠ 85 ∧ T ≠ 81 ∧ T ≠ 144 ∧ T ≠ 154 ∧ T ≠ 208 ∧ T ≠ 102) (k : Upd q w w') (hq : 6 ≤ q) : BK w' B p M := by
 obtain ⟨F, hM, hp⟩ := h.md
 exact ⟨⟨F, hM.but k.but (fun i hi => by rw [hi]; exact dU v hT), hp⟩, h.tb.but k.but (fun i hi => by rw [hi]; exact hq), h.six, h.cnt⟩
theorem pF (w : World) (T : TBL w) (h6 : 6 ≤ w.heap.size) (d : Int) (h1 : 1 ≤ d) (h2 : d ≤ 3652059) : Calls prog 27 #[.int .i64 d] w fun e w' => ∃ p : Nat, e = .returned (.tuple #[.pointer (some ⟨p, 0, none⟩), .int .i64 0]) ∧ BK w' w.heap.size p (bank0 d) ∧ Below w.heap.size w w' := by
 refine (tA w d h1 h2).mono ?_
 rintro e w' ⟨F, rfl, hM, _, _, b⟩
 exact ⟨F.pm, rfl, ⟨⟨F, hM, rfl⟩, T.step b, h6, ⟨by show (0 : Int) ≤ 0; decide, by show (0 : Int) ≤ 0; decide, ⟨by show (0 : Int) ≤ 0; decide, by show (0 : Int) ≤ 2 * 0; decide⟩, ⟨by show (0 : Int) ≤ 0; decide, by show (0 : Int) ≤ _; decide⟩⟩⟩, b⟩
theorem kA {w w' : World} {B : Nat} {F : FB} {M : PM} (h : MD w B F M) (k : But (F.reach w B) w w') : KT B w w' := ⟨fun v hT => v.keptM h k hT, fun o => o.keptM h k, k.below h.lt (fun i hi => h.reach_low hi)⟩
theorem gI {w : World} {B p : Nat} {M : PM} {e : EV} (h : BK w B p M) (he : e.ok) {tv : Value} (R : Tr w tv e.ts) (hno : ∀ n c, tv = .slice none n c → c = 0) {f : Bool} (hform : f = true ↔ e.e8.form) {want : Int} (hr : refL M e f = want) (hw : want ≠ 0) :
  Calls prog 19 #[.pointer (some ⟨p, 0, none⟩), .agg (e.cells tv).toArray] w fun r w' => r = .returned (.tuple #[.agg #[.int .u8 0, .int .u64 0, .int .i64 0, .int .i64 0, .int .i64 0, .int .i64 0, .int .i64 0, .int .i64 0, .int .i64 0, .int .i64 0, .slice none 0 0], .int .i64 0, .int .i64 want]) ∧ BK w' B p M ∧ KT B w w' := by
 obtain ⟨F, hM, rfl⟩ := h.md
 subst hr
 refine (tS w B F M hM e he tv R hno h.tb f hform hw).mono ?_
 rintro r w' ⟨rfl, b⟩
 exact ⟨rfl, h.step b, KT.of b h.low⟩
theorem mG {w : World} {B p : Nat} {M : PM} {e : EV} (h : BK w B p M) (g : Good M e) {tv : Value} (R : Tr w tv e.ts) (hno : ∀ n c, tv = .slice none n c → c = 0) :
  Calls prog 19 #[.pointer (some ⟨p, 0, none⟩), .agg (e.cells tv).toArray] w fun r w' => ∃ u, r = .returned (.tuple #[.agg (e.cells u).toArray, .int .i64 e.mv, .int .i64 0]) ∧ OwnT w' w.heap.size u e.ts ∧ BK w' B p M ∧ KT B w w' := by
 obtain ⟨F, hM, rfl⟩ := h.md
 refine (kQ w B F M hM e g.ok tv R hno h.tb true (by simp [g.form]) g.yes (by have := g.op; omega) (by have := g.len; omega)).mono ?_
 rintro r w' ⟨⟨u, rfl, o⟩, b⟩
 exact ⟨u, rfl, o, h.step b, KT.of b h.low⟩
theorem ke {w : World} {B p : Nat} {M : PM} {e : EV} (h : BK w B p M) (g : Good M e) (hs : M.seq < 1000000000) {tv : Value} (R : Tr w tv e.ts) (hno : ∀ n c, tv = .slice none n c → c = 0) :
  Calls prog 29 #[.pointer (some ⟨p, 0, none⟩), .agg (e.cells tv).toArray] w fun r w' => r = .returned (.int .i64 0) ∧ BK w' B p (nxt M e) ∧ KT B w w' := by
 obtain ⟨F, hM, rfl⟩ := h.md
 refine (nI w B F M hM h.cnt hs h.tb h.six e g.ok tv R hno true (by simp [g.form]) g.op g.yes (by have := g.len; omega) g.fin).mono ?_
 rintro r w' ⟨F', rfl, h1, h2, _, k⟩
 exact ⟨rfl, ⟨⟨F', h1, h2⟩, h.tb.keptM hM k h.six, h.six, tG h.cnt hs e⟩, kA hM k⟩
theorem eZ {w : World} {B p : Nat} {M : PM} (h : BK w B p M) {id : Int} {a : PA} (ha : acctO M id = some a) :
  Calls prog 14 #[.pointer (some ⟨p, 0, none⟩), .int .i64 id] w fun r w' => r = .returned (.tuple #[.agg a.told.toArray, .int .i64 0]) ∧ BK w' B p M ∧ KT B w w' := by
 obtain ⟨F, hM, rfl⟩ := h.md
 obtain ⟨i, x, hi, hid, _⟩ := hM.acct ha
 refine (kG w B F M hM hi hid).mono ?_
 rintro r w' ⟨rfl, b⟩
 exact ⟨rfl, h.step b, KT.of b h.low⟩
theorem vx {w : World} {B p : Nat} {M : PM} (h : BK w B p M) {s : Int} (hs : M.seq = s) : Calls prog 20 #[.pointer (some ⟨p, 0, none⟩)] w fun e w' => e = .returned (.int .i64 s) ∧ w' = w := by
 subst hs
 obtain ⟨F, hM, rfl⟩ := h.md
 exact tC w B F M hM
theorem vw {w : World} {B p : Nat} {M : PM} (h : BK w B p M) {s : Int} (hs : M.day = s) : Calls prog 33 #[.pointer (some ⟨p, 0, none⟩)] w fun e w' => e = .returned (.int .i64 s) ∧ w' = w := by
 subst hs
 obtain ⟨F, hM, rfl⟩ := h.md
 exact tp w B F M hM
theorem jR (w : World) : Tr w (.slice none 0 0) [] := (bV w 0).tr
theorem jC : ∀ n c, Value.slice none 0 0 = .slice none n c → c = 0 := fun n c h => by cases h; rfl
theorem fg (w : World) : Calls prog 28 #[] w fun r w' => (∃ tv, r = .returned (.agg (PE.cells tv).toArray) ∧ OwnT w' w.heap.size tv [(0, 36500000)]) ∧ Below w.heap.size w w' := by
 have b0 := (Below.refl w.heap.size w).alloc (Nat.le_refl _) (.cells #[.int .u8 0, .int .u64 0, .int .i64 0, .int .i64 0, .int .i64 0, .int .i64 0, .int .i64 0, .int .i64 0, .int .i64 0, .int .i64 0, .slice none 0 0] 31)
 have b1 := b0.alloc (by simp) (.cells #[.int .i64 1, .int .i64 1, .int .i64 0, .int .i64 1, .int .i64 1, .int .i64 0, .int .i64 0, .int .i64 500] 2)
 have HR_0 := hI_ ((aa w mkZ 31).alloc (.cells #[.int .i64 1, .int .i64 1, .int .i64 0, .int .i64 1, .int .i64 1, .int .i64 0, .int .i64 0, .int .i64 500] 2))
 have q := vI8 (w.alloc (.cells #[.int .u8 0, .int .u64 0, .int .i64 0, .int .i64 0, .int .i64 0, .int .i64 0, .int .i64 0, .int .i64 0, .int .i64 0, .int .i64 0, .slice none 0 0] 31)) 1 1 0 1 1 0 0 500
 rw [World.size_alloc] at q
 have HL_0 := hI_ q
 have BB_0 := hI_ b1
 have hb8 := @rI8
 have hb1 := @rT1
 clear b0 b1 q
 go_enter func28, ntmps28
 go_wp2_with fail
 refine (bT 1 [1, 1, 0, 1, 1, 0, 0, 500] _ (w.heap.size + 1) HL_0.out (by show 8 ≤ 8; decide)).mono ?_
 rintro r w1 ⟨rfl, b1⟩
 have HR_1 : Hid (VA w1 w.heap.size mkZ 31) := HR_0.out.step b1
 have BB_1 : Hid (Below w.heap.size w w1) := BB_0.out.trans (b1.mono BB_0.out.size)
 have bA := (Below.refl w1.heap.size w1).alloc (Nat.le_refl _) (.cells #[.int .u8 0, .int .u64 0, .int .i64 0, .int .i64 0, .int .i64 0, .int .i64 0, .int .i64 0, .int .i64 0, .int .i64 0, .int .i64 0, .slice none 0 0] 31)
 have HV := hI_ (aa w1 mkZ 31)
 have HR_2 := hI_ (HR_1.out.step bA)
 have BB_2 := hI_ (BB_1.out.trans (bA.mono BB_1.out.size))
 have l1 := HR_1.out.lt
 have s1 := BB_1.out.size
 clear b1 bA HR_0 HL_0 BB_0 HR_1 BB_1
 go_upto_region 2 with (refine stA rfl 31 _ _ rfl w1.heap.size (by rfl) mkZ ((mkE 1 [1, 1, 0, 1, 1, 0, 0, 500]).cells (.slice none 0 0)) (by rfl) 31 HV.out aj rfl (mZ _ _) ?_; intro w2 v2 u2)
 have HV_2 := hI_ v2
 have HR_3 : Hid (VA w2 w.heap.size mkZ 31) := HR_2.out.upd u2 (by omega)
 have BB_3 : Hid (Below w.heap.size w w2) := u2.bel BB_2.out s1
 clear v2 u2 HV HR_2 BB_2
 have q := vW w2 0 36500000 ⟨by decide, by decide⟩ ⟨by decide, by decide⟩
 have HQ := hI_ q
 have V4 := HV_2.out.alloc (.cells #[.int .i64 0, .int .i64 36500000] 102)
 have b4 := (Below.refl w2.heap.size w2).alloc (Nat.le_refl _) (.cells #[.int .i64 0, .int .i64 36500000] 102)
 have c10 := V4.cell 10 (v := .slice none 0 0) rfl
 have f10 := V4.free 10
 have hbk := V4.blk
 have HV_4 := hI_ V4
 have HR_4 := hI_ (HR_3.out.step b4)
 have BB_4 := hI_ (BB_3.out.trans (b4.mono BB_3.out.size))
 clear q V4 b4
 go_upto_region 3 with fail
 have U := au (w2.alloc (.cells #[.int .i64 0, .int .i64 36500000] 102)) w1.heap.size 10 (.slice (some ⟨w2.heap.size, 0, none⟩) 1 1)
 have HV_5 : Hid (VA _ w1.heap.size (PE.cells (.slice (some ⟨w2.heap.size, 0, none⟩) 1 1)) 31) := HV_4.out.set 10 (.slice (some ⟨w2.heap.size, 0, none⟩) 1 1)
 have HR_5 := hI_ (HR_4.out.upd U (by omega))
 have HQ_5 := hI_ (OwnT.updV HQ.out HV_4.out (by decide) U)
 have BB_5 := hI_ (U.bel BB_4.out s1)
 have s2 := BB_3.out.size
 clear c10 f10 hbk U HV_2 HR_3 BB_3 HQ HV_4 HR_4 BB_4
 generalize (w2.alloc (.cells #[.int .i64 0, .int .i64 36500000] 102)).setCell ⟨w1.heap.size, 10, none⟩ (.slice (some ⟨w2.heap.size, 0, none⟩) 1 1) = w5 at *
 go_wp2_with (first | (refine ldA rfl 31 _ rfl w1.heap.size (by rfl) _ _ HV_5.out _ underlying31 rfl aj ?_) | (refine stA rfl 31 _ _ rfl w.heap.size (by rfl) mkZ (PE.cells (.slice (some ⟨w2.heap.size, 0, none⟩) 1 1)) (by rfl) 31 HR_5.out aj rfl (PE.one ⟨_, _, _, rfl⟩) ?_; intro wf vf uf))
 have hld := run_loadVar_row (P := prog) wf w.heap.size 31 31 _ (0, 0) _ vf.blk underlying31 rfl aj
 exact bodyPost_ret (v := .agg (PE.cells (.slice (some ⟨w2.heap.size, 0, none⟩) 1 1)).toArray) (by simp [results, results28, asAddr, hld, Act.put]) rfl ⟨⟨_, rfl, (OwnT.updV HQ_5.out HR_5.out (by decide) uf).lower s2⟩, uf.bel BB_5.out (Nat.le_refl _)⟩
end Go.Proofs.YtjkiplndbcmmbaaGreatDoor
namespace Go.Proofs.YtjkiplndbcmmbaaGreatDoor
open Go.RowKit Go.Maps
def PL (k d c lim : Int) : EV := ⟨1, 0, k, d, c, 1, 1, 0, 0, lim, [(0, 36500000)]⟩
def AO (k c d : Int) : PA := ⟨k, k, c, d, true, 0, 0, 0, []⟩
def LB (l m : Int) : PM := ⟨100, [(PL 1 1 0 l).pv, (PL 2 2 0 m).pv, (PL 3 1 1 500).pv], [AO 1 0 1, AO 2 0 2, AO 3 1 1], [], fun _ _ => 0, 0, [], false, 0, 0, 6⟩
theorem qk : I64 0 := ⟨by decide, by decide⟩
theorem uF : I64 1 := ⟨by decide, by decide⟩
theorem xR {k d c lim : Int} (hk : I64 k) (hd : I64 d) (hc : I64 c) (hl : I64 lim) : (PL k d c lim).ok := ⟨by show 1 ≤ 255; decide, by show 0 ≤ _; omega, hk, hd, hc, uF, uF, qk, qk, hl⟩
theorem tR (k d c lim : Int) : (PL k d c lim).e8.form := ⟨by show 1 ≤ 1; decide, by show 1 ≤ 15; decide, by show 1 ≤ most 1; decide, fun i h1 h2 => by have h1 : 8 ≤ i := h1; omega⟩
theorem vY {k d c lim : Int} (hk : 1 ≤ k ∧ k ≤ 1000000000) (hd : 1 ≤ d ∧ d ≤ 2) (hc : 0 ≤ c ∧ c ≤ 3) (hl : 0 ≤ lim ∧ lim ≤ 10000000000000) : chk (PL k d c lim).pv = 0 := by
 have e : (PL k d c lim).pv.inr = true := by
  unfold PV.inr wi PL EV.pv
  simp
  omega
 unfold chk
 rw [if_pos e]
 show terr [(0, 36500000)] = 0
 decide
theorem jF {M : PM} {k d c lim : Int} (hk : 1 ≤ k ∧ k ≤ 1000000000) (hd : 1 ≤ d ∧ d ≤ 2) (hc : 0 ≤ c ∧ c ≤ 3) (hl : 0 ≤ lim ∧ lim ≤ 10000000000000) (h1 : M.keys = []) (h2 : M.uw = false) (h3 : fol M.vs (PL k d c lim).pv = 0) (h4 : M.vs.length < 64) : Good M (PL k d c lim) := by
 refine ⟨xR ⟨by omega, by omega⟩ ⟨by omega, by omega⟩ ⟨by omega, by omega⟩ ⟨by omega, by omega⟩, ⟨by show 1 ≤ 1; decide, by show 1 ≤ 11; decide⟩, tR _ _ _ _, ?_, by show 1 ≤ 8; decide, fun h => by cases h⟩
 rw [jH rfl (fun h => by have h : 1 = 12 := h.1; omega) rfl (by unfold usedK; rw [h1]; rfl) h2]
 show wth 0 (addE M.vs (PL k d c lim).pv) = 0
 rw [wth_0]
 refine ⟨rfl, ?_⟩
 unfold addE
 rw [if_neg (fun h => h (vY hk hd hc hl)), if_neg (fun h => h h3), if_neg (by omega)]
theorem jD {M : PM} {k p : Int} (hk : 1 ≤ k ∧ k ≤ 1000000000) (hp : I64 p) (h1 : M.keys = []) (h2 : M.uw = false) (h3 : (verO M p).isSome = true) (h4 : (acctO M k).isSome = false) (h5 : M.al.length < 256) (h6 : plc M.al k = M.al.length) : Good M (mkE 2 [k, p]) := by
 refine ⟨jz (by decide) (fun n hn => ?_), ⟨by show 1 ≤ 2; decide, by show 2 ≤ 11; decide⟩, fx (by decide) (by decide) (by show 2 ≤ ct.getD 2 0; decide), ?_, by show 0 ≤ 8; decide, fun _ => h6⟩
 ·simp at hn
  rcases hn with rfl | rfl
  ·exact ⟨by omega, by omega⟩
  ·exact hp
 ·rw [jH rfl (fun h => by have := h.1; cases this) rfl (by unfold usedK; rw [h1]; rfl) h2]
  show openL M 0 k p = 0
  unfold openL
  rw [aE (by decide), aE (by decide), wth_0, aE (by decide), h3]
  exact ⟨⟨⟨⟨rfl, beyond_0.2 hk⟩, rfl⟩, h4⟩, by rw [decide_eq_false_iff_not]; omega⟩
structure S3 (M : PM) (l m : Int) (a1 a2 a3 : PA) (s : Int) : Prop where
 al : M.al = [a1, a2, a3]
 vs : M.vs = (LB l m).vs
 day : M.day = 100
 keys : M.keys = []
 uw : M.uw = false
 cnt : M.cnt
 seq : M.seq = s
 i1 : a1.id = 1
 i2 : a2.id = 2
 i3 : a3.id = 3
theorem uW {a b : Int} (h1 : I64 a) (h2 : I64 b) : ∀ n ∈ [a, b], I64 n := fun n hn => by simp at hn; rcases hn with rfl | rfl <;> assumption
theorem wS {a b c : Int} (h1 : I64 a) (h2 : I64 b) (h3 : I64 c) : ∀ n ∈ [a, b, c], I64 n := fun n hn => by simp at hn; rcases hn with rfl | rfl | rfl <;> assumption
theorem rj {M : PM} {op : Nat} {ns : List Int} (h1 : M.keys = []) (h2 : M.uw = false) (ho : 1 ≤ op ∧ op ≤ 11) : refL M (mkE op ns) true = askL M 0 (mkE op ns) :=
 jH rfl (fun h => by have h : op = 12 := h.1; omega) (by show decide (op = 13 ∨ op = 14 ∨ op = 15) = false; rw [decide_eq_false_iff_not]; omega) (by unfold usedK; rw [h1]; rfl) h2
theorem js {M : PM} {op : Nat} {ns : List Int} (h1 : M.keys = []) (h2 : M.uw = false) (ho : 3 ≤ op ∧ op ≤ 11) (hn : ∀ n ∈ ns, I64 n) (hl : ns.length ≤ ct.getD op 0) (h : askL M 0 (mkE op ns) = 0) : Good M (mkE op ns) :=
 ⟨jz (by omega) hn, ⟨by show 1 ≤ op; omega, by show op ≤ 11; omega⟩, fx (by omega) (by omega) hl, (rj h1 h2 ⟨by omega, by omega⟩).trans h, by show 0 ≤ 8; decide, fun k => by have k : op = 2 := k; omega⟩
theorem dC {M : PM} {id k l : Int} {a : PA} (h : acctO M id = some a) (ho : a.opn = true) (hk : a.kind = k) : namedK M l id k = l := by
 unfold namedK
 rw [h]
 simp [ho, hk, whn]
theorem pq {M : PM} {id n : Int} {a : PA} (h : acctO M id = some a) (ho : a.opn = true) (hk : a.kind = 1) (h1 : 1 ≤ n) (h2 : n ≤ 10000000000000) : askL M 0 (mkE 4 [id, n]) = whn 0 (roomO (some a) n) 4 := by
 show whn (namedK M (whn 0 (beyond n 10000000000000) 1) id 1) (roomO (acctO M id) n) 4 = _
 rw [dC h ho hk, h, beyond_0.2 ⟨h1, h2⟩]
 rfl
theorem ve {M : PM} {id n : Int} {a : PA} (h : acctO M id = some a) (ho : a.opn = true) (hk : a.kind = 1) (h1 : 1 ≤ n) (h2 : n ≤ 10000000000000) : askL M 0 (mkE 5 [id, n]) = whn 0 (fundsO M (some a) n) 13 := by
 show whn (namedK M (whn 0 (beyond n 10000000000000) 1) id 1) (fundsO M (acctO M id) n) 13 = _
 rw [dC h ho hk, h, beyond_0.2 ⟨h1, h2⟩]
 rfl
theorem qj {M : PM} {a : PA} {n : Int} (h : n ≤ spend M a) : fundsO M (some a) n = false := by unfold fundsO; rw [decide_eq_false_iff_not]; omega
theorem oc {M : PM} {a : PA} {n : Int} (h : spend M a < n) : fundsO M (some a) n = true := by unfold fundsO; rw [decide_eq_true_iff]; omega
theorem nl {a : PA} {n : Int} (h0 : -10000000000000 ≤ a.bal + n) (h : a.bal + n ≤ 10000000000000) : roomO (some a) n = false := by
 unfold roomO
 rw [decide_eq_false_iff_not, rZ _ ⟨by omega, by omega⟩]
 omega
def XL (l m : Int) (u1 u2 u3 : Value) : List (EV × Value) := [(PL 1 1 0 l, u1), (PL 2 2 0 m, u2), (PL 3 1 1 500, u3), (mkE 2 [1, 1], .slice none 0 0), (mkE 2 [2, 2], .slice none 0 0), (mkE 2 [3, 3], .slice none 0 0)]
structure LF (w wx : World) (p q : Nat) (u1 u2 u3 : Value) (l m : Int) : Prop where
 k : BK wx w.heap.size p (bank0 100)
 o1 : OwnT wx w.heap.size u1 [(0, 36500000)]
 o2 : OwnT wx w.heap.size u2 [(0, 36500000)]
 o3 : OwnT wx w.heap.size u3 [(0, 36500000)]
 v8 : VA wx q ((PL 1 1 0 l).cells u1) 31
 v9 : VA wx (q + 1) ((PL 2 2 0 m).cells u2) 31
 v10 : VA wx (q + 1 + 1) ((PL 3 1 1 500).cells u3) 31
 b : Below w.heap.size w wx
theorem LF.step {w wx wy : World} {p q : Nat} {u1 u2 u3 : Value} {l m : Int} (h : LF w wx p q u1 u2 u3 l m) (k : Below wx.heap.size wx wy) : LF w wy p q u1 u2 u3 l m := ⟨h.k.step k, h.o1.step k, h.o2.step k, h.o3.step k, h.v8.step k, h.v9.step k, h.v10.step k, h.b.trans (k.mono h.b.size)⟩
end Go.Proofs.YtjkiplndbcmmbaaGreatDoor
namespace Go.Proofs.YtjkiplndbcmmbaaGreatDoor
open Tryz
open Go.RowKit Go.Maps
def AW : List EV := [PE, mkE 2 [10, 1], mkE 4 [10, 1000000]]
def AA : PA := ⟨10, 1, 0, 1, true, 1000000, 0, 0, []⟩
def AB1 : PM := ⟨40, [PE.pv], [], [], fun _ _ => 0, 0, [], false, 0, 0, 1⟩
def AB2 : PM := ⟨40, [PE.pv], [⟨10, 1, 0, 1, true, 0, 0, 0, []⟩], [], fun _ _ => 0, 0, [], false, 0, 0, 2⟩
def AB3 : PM := nxt AB2 (mkE 4 [10, 1000000])
theorem pe : acctO AB3 10 = some AA := rfl
theorem sq : AB3.day = 40 := rfl
theorem sr : AB3.seq = 3 := rfl
theorem vg : askL AB2 0 (mkE 4 [10, 1000000]) = 0 := by
 rw [pq (a := ⟨10, 1, 0, 1, true, 0, 0, 0, []⟩) rfl rfl rfl (by decide) (by decide), nl (by decide) (by decide)]
 rfl
theorem st : refL AB3 (mkE 5 [10, 1000501]) true = 13 := by
 rw [rj rfl rfl (by decide), ve (a := AA) rfl rfl rfl (by decide) (by decide), oc]
 ·rfl
 ·show (1000000 : Int) + 500 - 0 < 1000501
  decide
theorem su : ∀ (k : Nat) e, AW[k]? = some e → Good (runM (bank0 40) (AW.take k)) e := by
 intro k e h
 have hk : k < 3 := (List.getElem?_eq_some_iff.1 h).1
 have hc : k = 0 ∨ k = 1 ∨ k = 2 := by omega
 rcases hc with rfl | rfl | rfl <;> cases h
 ·exact jF (k := 1) (d := 1) (c := 0) (lim := 500) (by decide) (by decide) (by decide) (by decide) rfl rfl rfl (by decide)
 ·exact jD (M := AB1) (by decide) ⟨by decide, by decide⟩ rfl rfl rfl rfl (by show 0 < 256; decide) rfl
 ·exact js (M := AB2) rfl rfl (by decide) (uW ⟨by decide, by decide⟩ ⟨by decide, by decide⟩) (by decide) vg
def XA (u : Value) : List (EV × Value) := [(PE, u), (mkE 2 [10, 1], .slice none 0 0), (mkE 4 [10, 1000000], .slice none 0 0)]
theorem wQ {u : Value} {w : World} {B : Nat} (o1 : OwnT w B u [(0, 36500000)]) {k : Nat} (hk : k < 3) : ∃ x, (XA u)[k]? = some x ∧ AW[k]? = some x.1 ∧ OwnT w B x.2 x.1.ts := by
 have hc : k = 0 ∨ k = 1 ∨ k = 2 := by omega
 rcases hc with rfl | rfl | rfl
 ·exact ⟨_, rfl, rfl, o1⟩
 ·exact ⟨_, rfl, rfl, bV _ _⟩
 ·exact ⟨_, rfl, rfl, bV _ _⟩
theorem lE3 {w : World} {ops : Array Oper} {rest : List Oper} {o : Oper} {a : Act} {Q : Exit → Act → World → Prop} (hg : o.guard = none) (o0 o1 o2 : Operand) (ho : o.op = .buildSlice 70 3 #[(0, o0), (1, o1), (2, o2)]) (e0 : EV) (v0 : Value) (e1 : EV) (v1 : Value) (e2 : EV) (v2 : Value) (h0 : a.eval o0 = .agg (e0.cells v0).toArray) (h1 : a.eval o1 = .agg (e1.cells v1).toArray) (h2 : a.eval o2 = .agg (e2.cells v2).toArray)
  (h : wpList prog ops Q rest (a.put o.dst (.slice (some ⟨w.heap.size, 0, none⟩) 3 3)) (w.alloc (.cells (ECS [(e0, v0), (e1, v1), (e2, v2)]).toArray 31))) : wpList prog ops Q (o :: rest) a w :=
 wpList_plain hg fun _ hK => bE3 o0 o1 o2 ho e0 v0 e1 v1 e2 v2 h0 h1 h2 (hK _ _ h)
theorem oH (w : World) (T : TBL w) (h6 : 6 ≤ w.heap.size) : Calls prog 9 #[] w fun r w' => r = .returned (.bool true) ∧ Below w.heap.size w w' := by
 have HTT := hI_ T
 have H6 := hI_ h6
 clear T h6
 go_enter func9, ntmps9
 have hbs1 := @rI1
 have hbs2 := @rI2
 have hbs3 := @rI3
 have hbs4 := @rI4

 go_wp2_with fail
 refine (pF w HTT.out H6.out 40 (by decide) (by decide)).mono ?_
 rintro e w0 ⟨p, rfl, h1, b0⟩
 have HK_0 : Hid (BK w0 w.heap.size p (bank0 40)) := h1
 have BB_0 := hI_ b0
 clear h1 b0
 go_wp2_with fail
 refine (fg _).mono ?_
 rintro e wb ⟨⟨u, rfl, o1⟩, b1⟩
 have HK_b : Hid (BK _ w.heap.size p _) := HK_0.out.step b1
 have BB_b := hI_ (BB_0.out.trans (b1.mono BB_0.out.size))
 have O1_b : Hid (OwnT wb w.heap.size u [(0, 36500000)]) := o1.lower BB_0.out.size
 clear  BB_0 HK_0 o1 b1
 go_wp2_with fail
 refine (bT 2 [10, 1] _ _ (vI2 wb (10) (1)) (by show 2 ≤ 8; decide)).mono ?_
 rintro r wa1 ⟨rfl, ba1⟩
 have ka1 := ((Below.refl wb.heap.size wb).alloc (Nat.le_refl _) (.cells #[.int .i64 (10), .int .i64 (1)] 2)).trans (ba1.mono (by simp))
 have O1_a1 := hI_ (O1_b.out.step ka1)
 have HK_a1 : Hid (BK _ w.heap.size p _) := HK_b.out.step ka1
 have BB_a1 := hI_ (BB_b.out.trans (ka1.mono BB_b.out.size))
 clear O1_b BB_b HK_b ba1 ka1
 go_wp2_with fail
 refine (bT 4 [10, 1000000] _ _ (vI2 wa1 (10) (1000000)) (by show 2 ≤ 8; decide)).mono ?_
 rintro r wa2 ⟨rfl, ba2⟩
 have ka2 := ((Below.refl wa1.heap.size wa1).alloc (Nat.le_refl _) (.cells #[.int .i64 (10), .int .i64 (1000000)] 2)).trans (ba2.mono (by simp))
 have O1_a2 := hI_ (O1_a1.out.step ka2)
 have HK_a2 : Hid (BK _ w.heap.size p _) := HK_a1.out.step ka2
 have BB_a2 := hI_ (BB_a1.out.trans (ka2.mono BB_a1.out.size))
 clear O1_a1 BB_a1 HK_a1 ba2 ka2
 have b4 := (Below.refl wa2.heap.size wa2).alloc (Nat.le_refl _) (.cells (ECS (XA u)).toArray 31)
 have xx := aa wa2 (ECS (XA u)) 31
 go_upto_region 5 with (refine lE3 rfl _ _ _ rfl PE u (mkE 2 [10, 1]) (.slice none 0 0) (mkE 4 [10, 1000000]) (.slice none 0 0) (by rfl) (by rfl) (by rfl) ?_)
 have XX_x : Hid (VA _ _ (ECS (XA u)) 31) := xx
 have O1_x := hI_ (O1_a2.out.step b4)
 have HK_x : Hid (BK _ w.heap.size p _) := HK_a2.out.step b4
 have BB_x := hI_ (BB_a2.out.trans (b4.mono BB_a2.out.size))
 clear O1_a2 BB_a2 HK_a2 b4 xx
 rw [show ECS [(PE, u), (mkE 2 [10, 1], Value.slice none 0 0), (mkE 4 [10, 1000000], Value.slice none 0 0)] = ECS (XA u) from rfl]
 generalize wa2.alloc (.cells (ECS (XA u)).toArray 31) = wx at *
 generalize wa2.heap.size = qx at *
 go_loopw [30] (fun i wr => ∃ k : Nat, k ≤ 3 ∧ i = .int .i64 (k : Int) ∧ Hid (BK wr w.heap.size p (runM (bank0 40) (AW.take k))) ∧ Hid (OwnT wr w.heap.size u [(0, 36500000)]) ∧ Hid (VA wr qx (ECS (XA u)) 31) ∧ Hid (Below w.heap.size w wr)) (fun i _ => 3 - (intOf i).toNat)
 case atStart => exact ⟨0, by omega, rfl, HK_x.out, O1_x.out, XX_x.out, BB_x.out⟩
 case round =>
  obtain ⟨k, hk, rfl, HK, P1, XX, BB⟩ := hrel
  clear HK_x O1_x XX_x BB_x
  by_cases hk3 : k = 3
  ·subst hk3
   have HK_r : Hid (BK wr w.heap.size p AB3) := HK.out
   have BB_r := hI_ BB.out
   clear HK BB P1 XX
   go_wp2_with fail
   refine (bT 5 [10, 1000501] _ _ (vI2 wr (10) (1000501)) (by show 2 ≤ 8; decide)).mono ?_
   rintro r wa21 ⟨rfl, ba21⟩
   have ka21 := ((Below.refl wr.heap.size wr).alloc (Nat.le_refl _) (.cells #[.int .i64 (10), .int .i64 (1000501)] 2)).trans (ba21.mono (by simp))
   have HK_a21 : Hid (BK _ w.heap.size p _) := HK_r.out.step ka21
   have BB_a21 := hI_ (BB_r.out.trans (ka21.mono BB_r.out.size))
   clear  BB_r HK_r ba21 ka21
   go_wp2_with fail
   refine (gI (e := mkE 5 [10, 1000501]) HK_a21.out (jz (by decide) (uW ⟨by decide, by decide⟩ ⟨by decide, by decide⟩)) (jR _) jC (f := true) (by simp [fx (op := 5) (ns := [10, 1000501]) (by decide) (by decide) (by decide)]) st (by decide)).mono ?_
   rintro r wa22 ⟨rfl, ha22, ka22⟩
   have HK_a22 : Hid (BK _ w.heap.size p _) := ha22
   have BB_a22 : Hid (Below w.heap.size w wa22) := BB_a21.out.trans ka22.bel
   clear  BB_a21 HK_a21 ha22 ka22
   have bA := (Below.refl wa22.heap.size wa22).alloc (Nat.le_refl _) (.cells #[.int .u8 0, .int .u64 0, .int .i64 0, .int .i64 0, .int .i64 0, .int .i64 0, .int .i64 0, .int .i64 0, .int .i64 0, .int .i64 0, .slice none 0 0] 31)
   have HV := hI_ (aa wa22 mkZ 31)
   have HK_z : Hid (BK _ w.heap.size p _) := HK_a22.out.step bA
   have BB_z := hI_ (BB_a22.out.trans (bA.mono BB_a22.out.size))
   have s1 := BB_a22.out.size
   clear  BB_a22 HK_a22 bA
   go_upto_region 12 with (refine stA rfl 31 _ _ rfl wa22.heap.size (by rfl) mkZ (mkZ) (by rfl) 31 HV.out aj rfl (tz) ?_; intro wa23 va23 ua23)
   have HK_a23 : Hid (BK _ w.heap.size p _) := HK_z.out.upd HV.out (by decide) ua23 (by have := H6.out; omega)
   have BB_a23 := hI_ (ua23.bel BB_z.out s1)
   have V8_a23 := hI_ va23
   clear va23 ua23 HV s1 HK_z BB_z  V8_a23
   go_wp2_with fail
   refine (eZ HK_a23.out pe).mono ?_
   rintro r wa24 ⟨rfl, ha24, ka24⟩
   have HK_a24 : Hid (BK _ w.heap.size p _) := ha24
   have BB_a24 : Hid (Below w.heap.size w wa24) := BB_a23.out.trans ka24.bel
   clear  BB_a23 HK_a23 ha24 ka24
   have bA := (Below.refl wa24.heap.size wa24).alloc (Nat.le_refl _) (.cells #[.int .i64 0, .int .i64 0, .int .i64 0, .int .i64 0, .bool false, .int .i64 0, .int .i64 0, .int .i64 0] 36)
   have HV := hI_ (aa wa24 ZA 36)
   have HK_z : Hid (BK _ w.heap.size p _) := HK_a24.out.step bA
   have BB_z := hI_ (BB_a24.out.trans (bA.mono BB_a24.out.size))
   have s1 := BB_a24.out.size
   clear  BB_a24 HK_a24 bA
   go_upto_region 13 with (refine stA rfl 36 _ _ rfl wa24.heap.size (by rfl) ZA (AA.told) (by rfl) 36 HV.out cw rfl (AA.told_one) ?_; intro wa25 va25 ua25)
   have HK_a25 : Hid (BK _ w.heap.size p _) := HK_z.out.upd HV.out (by decide) ua25 (by have := H6.out; omega)
   have BB_a25 := hI_ (ua25.bel BB_z.out s1)
   have V11_a25 := hI_ va25
   clear va25 ua25 HV s1 HK_z BB_z
   have cb := V11_a25.out.cell 5 (v := .int .i64 1000000) rfl
   go_wp2_with fail
   refine (vx HK_a25.out sr).mono ?_
   rintro r wq ⟨rfl, hq⟩
   obtain rfl := hq.symm
   clear hq
   go_wp2_with fail
   refine (vw HK_a25.out sq).mono ?_
   rintro r wq ⟨rfl, hq⟩
   obtain rfl := hq.symm
   clear hq
   go_wp2_with fail
   go_ret
   exact ⟨rfl, BB_a25.out⟩
  have hk' : k < 3 := by omega
  obtain ⟨x, hx, hy, ho⟩ := wQ P1.out hk'
  have HX := hI_ hx
  have HY := hI_ hy
  have HO := hI_ ho
  have HGk := hI_ (su k x.1 hy)
  have d1 : (0 : Int) ≤ (k : Int) := by omega
  have d2 : (k : Int) < 3 := by omega
  have bA := (Below.refl wr.heap.size wr).alloc (Nat.le_refl _) (.cells #[.int .u8 0, .int .u64 0, .int .i64 0, .int .i64 0, .int .i64 0, .int .i64 0, .int .i64 0, .int .i64 0, .int .i64 0, .int .i64 0, .slice none 0 0] 31)
  have HV := hI_ (aa wr mkZ 31)
  have HK_1 := hI_ (HK.out.step bA)
  have P1_1 := hI_ (P1.out.step bA)
  have HO_1 := hI_ (HO.out.step bA)
  have XX_1 := hI_ (XX.out.step bA)
  have BB_1 := hI_ (BB.out.trans (bA.mono BB.out.size))
  have s1 := BB.out.size
  clear hx hy ho bA
  go_upto_region 7 with (first | (refine wpList_load_mid rfl 31 _ rfl qx (k * 11) (by rfl) (x.1.cells x.2) _ (fun j u hj => XX.out.cell (k * 11 + j) (je _ k x HX.out j u hj)) underlying31 rfl aj ?_) | (refine stA rfl 31 _ _ rfl wr.heap.size (by rfl) mkZ (x.1.cells x.2) (by rfl) 31 HV.out aj rfl (x.1.one HO.out.tf) ?_; intro w2 v2 u2))
  have HK_2 := hI_ (HK_1.out.upd HV.out (by decide) u2 (by have := H6.out; omega))
  have P1_2 := hI_ (OwnT.updV P1_1.out HV.out (by decide) u2)
  have HO_2 := hI_ (OwnT.updV HO_1.out HV.out (by decide) u2)
  have XX_2 := hI_ (XX_1.out.upd u2 (Nat.ne_of_lt XX.out.lt))
  have BB_2 := hI_ (u2.bel BB_1.out s1)
  have HV_2 := hI_ v2
  clear v2 u2 HV HK_1 P1_1 HO_1 XX_1 BB_1 XX P1 HO BB HK
  go_wp2_with (refine ldA rfl 31 _ rfl wr.heap.size (by rfl) _ _ HV_2.out _ underlying31 rfl aj ?_)
  refine (mG HK_2.out HGk.out HO_2.out.tr HO_2.out.hno).mono ?_
  rintro r w3 ⟨z, rfl, oz, h1, k3⟩
  have HK_3 := hI_ h1
  have OZ_3 := hI_ oz
  have P1_3 := hI_ (k3.ot P1_2.out)
  have XX_3 := hI_ (k3.va XX_2.out (by decide))
  have BB_3 : Hid (Below w.heap.size w w3) := BB_2.out.trans k3.bel
  have bA := (Below.refl w3.heap.size w3).alloc (Nat.le_refl _) (.cells #[.int .u8 0, .int .u64 0, .int .i64 0, .int .i64 0, .int .i64 0, .int .i64 0, .int .i64 0, .int .i64 0, .int .i64 0, .int .i64 0, .slice none 0 0] 31)
  have HV := hI_ (aa w3 mkZ 31)
  have HK_4 := hI_ (HK_3.out.step bA)
  have OZ_4 := hI_ (OZ_3.out.step bA)
  have P1_4 := hI_ (P1_3.out.step bA)
  have XX_4 := hI_ (XX_3.out.step bA)
  have BB_4 := hI_ (BB_3.out.trans (bA.mono BB_3.out.size))
  have s3 := BB_3.out.size
  have x3 := XX_3.out.lt
  clear h1 k3 oz bA HK_2 P1_2 HO_2 XX_2 BB_2 HV_2 HK_3 OZ_3 P1_3 XX_3 BB_3
  go_upto_region 8 with (refine stA rfl 31 _ _ rfl w3.heap.size (by rfl) mkZ (x.1.cells z) (by rfl) 31 HV.out aj rfl (x.1.one OZ_4.out.tf) ?_; intro w5 v5 u5)
  have HK_5 := hI_ (HK_4.out.upd HV.out (by decide) u5 (by have := H6.out; omega))
  have OZ_5 := hI_ (OwnT.updV OZ_4.out HV.out (by decide) u5)
  have P1_5 := hI_ (OwnT.updV P1_4.out HV.out (by decide) u5)
  have XX_5 := hI_ (XX_4.out.upd u5 (Nat.ne_of_lt x3))
  have BB_5 := hI_ (u5.bel BB_4.out s3)
  have HV_5 := hI_ v5
  clear v5 u5 HV HK_4 OZ_4 P1_4 XX_4 BB_4
  go_wp2_with (refine xL (by rfl) 31 _ rfl w3.heap.size (by rfl) _ _ HV_5.out _ underlying31 rfl aj ?_)
  refine (ke HK_5.out HGk.out (by rw [kX, List.length_take]; show (0 : Int) + _ < _; omega) OZ_5.out.tr OZ_5.out.hno).mono ?_
  rintro r w6 ⟨rfl, h1, k6⟩
  have HK_6 : Hid (BK w6 w.heap.size p (runM (bank0 40) (AW.take (k + 1)))) := by rw [j6 _ _ HY.out]; exact h1
  have P1_6 := hI_ (k6.ot P1_5.out)
  have XX_6 := hI_ (k6.va XX_5.out (by decide))
  have BB_6 : Hid (Below w.heap.size w w6) := BB_5.out.trans k6.bel
  clear h1 k6
  go_wp2_with fail
  exact ⟨⟨k + 1, by omega, by go_num, HK_6.out, P1_6.out, XX_6.out, BB_6.out⟩, by simp [intOf]; omega⟩
theorem vG (z : Int) : dhi z * 18446744073709551616 + dlo z = z := by unfold dhi dlo; omega
theorem uI (c u z s : Int) : (⟨c, u, dhi z, dlo z, s⟩ : Ln).cf = z := vG z
theorem iU (c u z s : Int) : (⟨c, u, dhi z, dlo z, s⟩ : Ln).un = z * (10 : Int) ^ (12 - s.toNat) := by
 unfold Ln.un
 rw [uI]
theorem mX {c u z s : Int} (h1 : 1 ≤ c ∧ c ≤ 8) (h2 : 0 ≤ u ∧ u ≤ 3) : (⟨c, u, dhi z, dlo z, s⟩ : Ln).pl = true := by
 unfold Ln.pl wi
 simp only [Bool.and_eq_true, decide_eq_true_eq]
 exact ⟨h1, h2⟩
theorem gp {c u z s : Int} (h1 : 0 ≤ s ∧ s ≤ 12) (h2 : -100000000000000000000 ≤ z ∧ z ≤ 100000000000000000000 ∨ s = 12 ∧ -10000000000000000000000000 ≤ z ∧ z ≤ 10000000000000000000000000) : (⟨c, u, dhi z, dlo z, s⟩ : Ln).ok = true := by
 unfold Ln.ok
 rw [uI]
 unfold far M20
 simp only [Bool.and_eq_true, Bool.not_eq_true', decide_eq_true_eq, decide_eq_false_iff_not]
 refine ⟨h1, ?_⟩
 rcases h2 with h2 | ⟨rfl, h2⟩
 ·have hp : (1 : Int) ≤ (10 : Int) ^ s.toNat := by
   have : (0 : Int) < (10 : Int) ^ s.toNat := Int.pow_pos (by decide)
   omega
  have : (100000000000000000000 : Int) * 1 ≤ 100000000000000000000 * (10 : Int) ^ s.toNat := Int.mul_le_mul_of_nonneg_left hp (by decide)
  omega
 ·rw [show (12 : Int).toNat = 12 from rfl]
  omega
theorem ii {b : Int → Int → Int} {ls : List Ln} (h1 : ∀ x ∈ ls, x.pl = true) (h2 : ls.length ≤ 16) (h3 : ∀ x ∈ ls, x.ok = true) (h4 : ∀ c u, -1000000000000000000000000000000000000 ≤ b c u + sat ls c u ∧ b c u + sat ls c u ≤ 1000000000000000000000000000000000000) (h5 : ∀ u, sau ls u = 0) : perr b ls = 0 := by
 have hc : cherr ls = 0 := by
  unfold cherr
  rw [if_neg (by
   rw [List.any_eq_true]
   rintro ⟨x, hx, hn⟩
   rw [h1 x hx] at hn
   cases hn), if_neg (by omega), if_neg (by
   rw [List.any_eq_true]
   rintro ⟨x, hx, hn⟩
   rw [h3 x hx] at hn
   cases hn)]
 have hr : rbad b ls = false := by
  unfold rbad
  rw [List.any_eq_false]
  intro a ha
  unfold out36 M36
  simp only [decide_eq_true_eq]
  have := h4 a.1 a.2
  omega
 have hb : bal ls = true := by
  unfold bal
  simp [h5]
 unfold perr
 rw [if_neg (by rw [hc]; simp), hr, hb]
 rfl
theorem qX {b : Int → Int → Int} {ls : List Ln} (h : perr b ls = 0) : pst b ls = fun c u => b c u + sat ls c u := by
 unfold pst
 rw [if_pos h]
theorem np (cur d c n x u : Int) : sat (entL cur d c n) x u = (if d = x ∧ cur = u then n * 1000000000000 else 0) + (if c = x ∧ cur = u then -n * 1000000000000 else 0) := by
 unfold sat entL
 simp only [List.map_cons, List.map_nil, List.sum_cons, List.sum_nil, iU]
 rw [show (10 : Int) ^ (12 - (0 : Int).toNat) = 1000000000000 from by decide]
 omega
theorem kV {b : Int → Int → Int} {cur d c n : Int} (hd : 1 ≤ d ∧ d ≤ 8) (hc : 1 ≤ c ∧ c ≤ 8) (hu : 0 ≤ cur ∧ cur ≤ 3) (hn : -10000000000000 ≤ n ∧ n ≤ 10000000000000) (hb : ∀ x u, -100000000000000000000000000000000000 ≤ b x u ∧ b x u ≤ 100000000000000000000000000000000000) : pstB b cur d c n = fun x u => b x u + ((if d = x ∧ cur = u then n * 1000000000000 else 0) + (if c = x ∧ cur = u then -n * 1000000000000 else 0)) := by
 unfold pstB
 by_cases h0 : n = 0
 ·rw [if_pos h0]
  subst h0
  funext x u
  simp
 ·rw [if_neg h0]
  have hp : perr b (entL cur d c n) = 0 := by
   refine ii (fun x hx => ?_) (by rw [lV]; decide) (fun x hx => ?_) (fun x u => ?_) (fun u => ?_)
   ·unfold entL at hx
    simp only [List.mem_cons, List.not_mem_nil, or_false] at hx
    rcases hx with rfl | rfl
    ·exact mX hd hu
    ·exact mX hc hu
   ·unfold entL at hx
    simp only [List.mem_cons, List.not_mem_nil, or_false] at hx
    rcases hx with rfl | rfl
    ·exact gp (by decide) (Or.inl (by omega))
    ·exact gp (by decide) (Or.inl (by omega))
   ·rw [np]
    have := hb x u
    split <;> split <;> omega
   ·unfold sau entL
    simp only [List.map_cons, List.map_nil, List.sum_cons, List.sum_nil, iU]
    rw [show (10 : Int) ^ (12 - (0 : Int).toNat) = 1000000000000 from by decide]
    split <;> omega
  rw [qX hp]
  funext x u
  rw [np]
theorem mS : (prog.info? 91).map (·.size) = some 5 := by kernel_rfl
theorem sU (x : Ln) : ∀ v ∈ x.enc, v.oneCell' = true := by
 intro v hv
 simp [Ln.enc] at hv
 rcases hv with rfl | rfl | rfl | rfl | rfl <;> rfl
def balL (ls : List Ln) (c u : Int) : List Value := match ls.find? (fun x => decide (x.code = c ∧ x.cur = u)) with
 | some x => [.int .i64 x.h, .int .u64 x.l, .int .i64 x.s]
 | none => [.int .i64 0, .int .u64 0, .int .i64 12]
theorem trl_mem {b : Int → Int → Int} {n : Nat} {x : Ln} : x ∈ trl b n ↔ ∃ a ∈ accs n, b a.1 a.2 ≠ 0 ∧ x = lnOf a.1 a.2 (b a.1 a.2) := by
 unfold trl
 rw [List.mem_map]
 constructor
 ·rintro ⟨a, ha, rfl⟩
  rw [List.mem_filter] at ha
  exact ⟨a, ha.1, by simpa using ha.2, rfl⟩
 ·rintro ⟨a, ha, hn, rfl⟩
  exact ⟨a, List.mem_filter.2 ⟨ha, by simpa using hn⟩, rfl⟩
theorem fl (b : Int → Int → Int) {c u : Int} (hv : Va c u) : balL (trl b 32) c u = dcs (b c u) 12 := by
 unfold balL
 cases h : (trl b 32).find? (fun x => decide (x.code = c ∧ x.cur = u)) with
 | none =>
  have hn := List.find?_eq_none.1 h
  have hz : b c u = 0 := by
   refine Classical.not_not.1 (fun k => ?_)
   obtain ⟨i, hi, hai⟩ := jT hv
   have hm : lnOf c u (b c u) ∈ trl b 32 := trl_mem.2 ⟨(c, u), List.mem_of_getElem? (by rw [dP hi, hai]), k, rfl⟩
   exact hn _ hm (by simp [lnOf])
  rw [hz]
  rfl
 | some x =>
  have h1 := List.find?_some h
  have h2 := List.mem_of_find?_eq_some h
  obtain ⟨a, _, _, rfl⟩ := trl_mem.1 h2
  simp only [decide_eq_true_eq] at h1
  obtain ⟨e1, e2⟩ := h1
  have e1 : a.1 = c := e1
  have e2 : a.2 = u := e2
  rw [e1, e2]
  rfl
theorem cP (v : Value) (ls : List Ln) (w : World) (h : Sl LN w v ls) (c u : Int) :
  Calls prog 16 #[v, .int .i64 c, .int .i64 u] w fun r w' => r = .returned (.agg (balL ls c u).toArray) ∧ Below w.heap.size w w' := by
 obtain ⟨N, hN⟩ : ∃ N, N = ls.length := ⟨_, rfl⟩
 obtain ⟨va, vc, rfl, h1, h2, _⟩ := h.form
 have HN : Hid (N = ls.length) := hN
 have HS := hI_ h
 rw [← hN] at h1 ⊢
 have b0 := (Below.refl w.heap.size w).alloc (Nat.le_refl _) (.cells #[.int .i64 0, .int .u64 0, .int .i64 0] 44)
 have HR_0 := hI_ (aa w zdl 44)
 have BB_0 := hI_ b0
 clear b0 h hN
 go_enter func16, ntmps16
 go_wp2_with fail
 go_loopw [11] (fun i wr => ∃ k : Nat, k ≤ N ∧ i = .int .i64 (k : Int) ∧ Hid (∀ j x, j < k → ls[j]? = some x → ¬ (x.code = c ∧ x.cur = u)) ∧ Hid (VA wr w.heap.size zdl 44) ∧ Hid (Below w.heap.size w wr)) (fun i _ => N - (intOf i).toNat)
 case atStart => exact ⟨0, by omega, rfl, fun j x hj => by omega, HR_0.out, BB_0.out⟩
 case round =>
  obtain ⟨k, hk, rfl, HA, HR, HB⟩ := hrel
  by_cases hkn : k = N
  ·have hz : balL ls c u = [.int .i64 0, .int .u64 0, .int .i64 12] := by
    have e : ls.find? (fun x => decide (x.code = c ∧ x.cur = u)) = none := by
     rw [List.find?_eq_none]
     intro x hx
     obtain ⟨j, hj⟩ := List.getElem?_of_mem hx
     have hl := (List.getElem?_eq_some_iff.1 hj).1
     have := HA.out j x (by have := HN.out; omega) hj
     simpa using this
    unfold balL
    rw [e]
   have HZ := hI_ hz
   clear hz
   subst hkn
   go_wp2_with (refine stA rfl 44 _ _ rfl w.heap.size (by rfl) zdl [.int .i64 0, .int .u64 0, .int .i64 12] (by rfl) 44 HR.out dA rfl (by decide) ?_; intro wf vf uf)
   have hld := run_loadVar_row (P := prog) wf w.heap.size 44 44 _ (0, 0) _ vf.blk underlying44 rfl dA
   exact bodyPost_ret (v := .agg #[.int .i64 0, .int .u64 0, .int .i64 12]) (by simp [results, results16, asAddr, hld, Act.put]) rfl ⟨by rw [HZ.out], uf.bel HB.out (Nat.le_refl _)⟩
  have hk' : k < N := by omega
  obtain ⟨x, hx⟩ : ∃ x, ls[k]? = some x := ⟨_, List.getElem?_eq_getElem (by have := HN.out; omega)⟩
  have d1 : (0 : Int) ≤ (k : Int) := by omega
  have d2 : (k : Int) < (N : Int) := by omega
  have HS' := HS.out.step HB.out
  rw [← HN.out] at HS'
  obtain ⟨bb, off, ea, hbb, hcell⟩ := HS'.at k x hx
  subst ea
  have HC := hI_ hcell
  have HX := hI_ hx
  have bA := (Below.refl wr.heap.size wr).alloc (Nat.le_refl _) (.cells #[.int .i64 0, .int .i64 0, .int .i64 0, .int .u64 0, .int .i64 0] 91)
  have HV := hI_ (aa wr [.int .i64 0, .int .i64 0, .int .i64 0, .int .u64 0, .int .i64 0] 91)
  have HR_1 := hI_ (HR.out.step bA)
  have BB_1 := hI_ (HB.out.trans (bA.mono HB.out.size))
  have s1 := HB.out.size
  have l1 := HR.out.lt
  clear hx hcell hbb HS' bA
  go_upto_region 4 with (first | (refine wpList_load_mid rfl 91 _ rfl bb (off + k * 5) (by rfl) x.enc _ (fun j u hj => HC.out j u hj) underlying91 rfl mS ?_) | (refine stA rfl 91 _ _ rfl wr.heap.size (by rfl) [.int .i64 0, .int .i64 0, .int .i64 0, .int .u64 0, .int .i64 0] x.enc (by rfl) 91 HV.out mS rfl (sU x) ?_; intro w2 v2 u2))
  have HV_2 := hI_ v2
  have HR_2 : Hid (VA w2 w.heap.size zdl 44) := HR_1.out.upd u2 (by omega)
  have BB_2 : Hid (Below w.heap.size w w2) := u2.bel BB_1.out s1
  have y0 := HV_2.out.cell 0 (v := .int .i64 x.code) rfl
  have y1 := HV_2.out.cell 1 (v := .int .i64 x.cur) rfl
  have y2 := HV_2.out.cell 2 (v := .int .i64 x.h) rfl
  have y3 := HV_2.out.cell 3 (v := .int .u64 x.l) rfl
  have y4 := HV_2.out.cell 4 (v := .int .i64 x.s) rfl
  clear v2 u2 HV HR_1 BB_1 HC HR HB
  by_cases e0 : x.code = c
  ·have t0 : (x.code == c) = true := by simpa using e0
   by_cases e1 : x.cur = u
   ·have t1 : (x.cur == u) = true := by simpa using e1
    have hz : balL ls c u = [.int .i64 x.h, .int .u64 x.l, .int .i64 x.s] := by
     have e : ls.find? (fun x => decide (x.code = c ∧ x.cur = u)) = some x := by
      have hl := (List.getElem?_eq_some_iff.1 HX.out).1
      rw [List.find?_eq_some_iff_getElem]
      refine ⟨by simp [e0, e1], k, hl, (List.getElem?_eq_some_iff.1 HX.out).2, fun j hj => ?_⟩
      have := HA.out j _ hj (List.getElem?_eq_getElem (by omega))
      simp only [Bool.not_eq_true', decide_eq_false_iff_not]
      exact this
     unfold balL
     rw [e]
    have HZ := hI_ hz
    clear hz e0 e1
    go_wp2_with (refine stA rfl 44 _ _ rfl w.heap.size (by rfl) zdl [.int .i64 x.h, .int .u64 x.l, .int .i64 x.s] (by rfl) 44 HR_2.out dA rfl (by intro v hv; simp at hv; rcases hv with rfl | rfl | rfl <;> rfl) ?_; intro wf vf uf)
    have hld := run_loadVar_row (P := prog) wf w.heap.size 44 44 _ (0, 0) _ vf.blk underlying44 rfl dA
    exact bodyPost_ret (v := .agg #[.int .i64 x.h, .int .u64 x.l, .int .i64 x.s]) (by simp [results, results16, asAddr, hld, Act.put]) rfl ⟨by rw [HZ.out], uf.bel BB_2.out (Nat.le_refl _)⟩
   ·have t1 : (x.cur == u) = false := by simpa using e1
    have HE : Hid (¬ (x.code = c ∧ x.cur = u)) := fun h => e1 h.2
    clear e0 e1
    go_wp2_with fail
    exact ⟨⟨k + 1, by omega, by go_num, fun j z hj hz => by
     by_cases hjk : j = k
     ·subst hjk
      rw [HX.out] at hz
      cases hz
      exact HE.out
     ·exact HA.out j z (by omega) hz, HR_2.out, BB_2.out⟩, by simp [intOf]; omega⟩
  ·have t0 : (x.code == c) = false := by simpa using e0
   have HE : Hid (¬ (x.code = c ∧ x.cur = u)) := fun h => e0 h.1
   clear e0
   go_wp2_with fail
   exact ⟨⟨k + 1, by omega, by go_num, fun j z hj hz => by
    by_cases hjk : j = k
    ·subst hjk
     rw [HX.out] at hz
     cases hz
     exact HE.out
    ·exact HA.out j z (by omega) hz, HR_2.out, BB_2.out⟩, by simp [intOf]; omega⟩
theorem dy (z : Int) : cut0 (z * 1000000000000) 12 = z := by
 unfold cut0 sv
 rw [show (10 : Nat) ^ 12 = 1000000000000 from by decide]
 split <;> rename_i h <;> simp only [decide_eq_true_eq] at h <;> omega
theorem mV (z : Int) (w : World) (h1 : -1000000000000000 ≤ z) (h2 : z ≤ 1000000000000000) :
  Calls prog 15 #[.agg (dcs (z * 1000000000000) 12).toArray] w fun e w' => e = .returned (.tuple #[.int .i64 z, .int .i64 0]) ∧ Below w.heap.size w w' := by
 have h := mU (z * 1000000000000) 12 w ⟨by unfold M127; omega, by unfold M127; omega⟩ (by decide) (by rw [dy]; unfold tv; rw [show max 0 12 - 0 = 12 from rfl, show max 0 12 - 12 = 0 from rfl, show (10 : Int) ^ 12 = 1000000000000 from by decide]; omega) (by rw [dy]; omega) (by rw [dy]; omega)
 rw [dy] at h
 exact h
theorem oJ (w : World) (B : Nat) (F : FB) (M : PM) (h : MD w B F M) :
  Calls prog 17 #[.pointer (some ⟨F.pm, 0, none⟩)] w fun e w' => (∃ v, e = .returned v ∧ Own LN w' w.heap.size v (trl M.b 32)) ∧ Below w.heap.size w w' := by
 have c4 := h.va.cell 4 (v := .pointer (some ⟨F.pl, 0, none⟩)) rfl
 have HT := hI_ (fun (_ : Unit) => rT F.pl F.ml M.b M.n w h.led)
 clear h
 go_enter func17, ntmps17
 go_wp2_with fail
 refine (HT.out ()).mono ?_
 rintro e w1 ⟨⟨v, rfl, o⟩, b⟩
 go_wp2_with fail
 go_ret
 exact ⟨⟨v, rfl, o⟩, b⟩
theorem pG {w : World} {B p : Nat} {M : PM} (h : BK w B p M) :
  Calls prog 17 #[.pointer (some ⟨p, 0, none⟩)] w fun r w' => (∃ v, r = .returned v ∧ Own LN w' w.heap.size v (trl M.b 32)) ∧ BK w' B p M ∧ KT B w w' := by
 obtain ⟨F, hM, rfl⟩ := h.md
 refine (oJ w B F M hM).mono ?_
 rintro r w' ⟨h1, b⟩
 exact ⟨h1, h.step b, KT.of b h.low⟩
end Go.Proofs.YtjkiplndbcmmbaaGreatDoor
namespace Go.Proofs.YtjkiplndbcmmbaaGreatDoor
open Go.RowKit Go.Maps
theorem nk {a : PA} {n : Int} (h0 : -10000000000000 ≤ a.bal + n) (h : a.bal + n ≤ 10000000000000) : roomO (some a) n = false := nl h0 h
theorem iK {n g : Int} (h1 : 1 ≤ n) (h2 : n ≤ g) : beyond n g = false := beyond_0.2 ⟨h1, h2⟩
theorem wl (l e : Int) : whn l false e = l := rfl
end Go.Proofs.YtjkiplndbcmmbaaGreatDoor