/- texts of the model: Mrc Mrd Mre -/
import Derived.Test.YtjkiplndbcmmbaaGreatDoorX42
import Derived.Test.YtjkiplndbcmmbaaGreatDoorX43
import Derived.Test.YtjkiplndbcmmbaaGreatDoorX44
set_option linter.unusedVariables false
set_option linter.unusedSimpArgs false
set_option maxHeartbeats 16000000
namespace Go.Proofs.YtjkiplndbcmmbaaGreatDoor
open Go.RowKit Go.Maps
def OfT (w : World) (B : Nat) (ts : List (Int × Int)) (v : Value) : Prop := ∃ g cap, v = .slice (some ⟨g, 0, none⟩) ts.length cap ∧ OwnT w B (.slice (some ⟨g, 0, none⟩) (ts.length + 1) cap) (ts ++ [(77, 0)])
theorem OfT.tr {w : World} {B : Nat} {ts : List (Int × Int)} {v : Value} (h : OfT w B ts v) : Tr w v ts := by
 obtain ⟨g, cap, rfl, o⟩ := h
 exact o.tr.front
theorem OfT.no {w : World} {B : Nat} {ts : List (Int × Int)} {v : Value} (h : OfT w B ts v) : ∀ n c, v = .slice none n c → c = 0 := by
 obtain ⟨g, cap, rfl, _⟩ := h
 intro n c e
 cases e
theorem OfT.step {w w' : World} {B : Nat} {ts : List (Int × Int)} {v : Value} (h : OfT w B ts v) (k : Below w.heap.size w w') : OfT w' B ts v := by
 obtain ⟨g, cap, e, o⟩ := h
 exact ⟨g, cap, e, o.step k⟩
theorem OfT.lower {w : World} {B B' : Nat} {ts : List (Int × Int)} {v : Value} (h : OfT w B ts v) (hB : B' ≤ B) : OfT w B' ts v := by
 obtain ⟨g, cap, e, o⟩ := h
 exact ⟨g, cap, e, o.lower hB⟩
theorem OfT.updV {w w' : World} {B q : Nat} {ts : List (Int × Int)} {v : Value} {cs : List Value} {T : TypeId} (h : OfT w B ts v) (k : VA w q cs T) (hT : T ≠ 102) (u : Upd q w w') : OfT w' B ts v := by
 obtain ⟨g, cap, e, o⟩ := h
 exact ⟨g, cap, e, OwnT.updV o k hT u⟩
theorem OfT.tf {w : World} {B : Nat} {ts : List (Int × Int)} {v : Value} (h : OfT w B ts v) : ∃ a n c, v = Value.slice a n c := by
 obtain ⟨g, cap, e, o⟩ := h
 exact ⟨_, _, _, e⟩
set_option maxRecDepth 100000 in
theorem gJ (e : EV) (tv : Value) (w : World) (h : Tr w tv e.ts) (hno : ∀ n c, tv = .slice none n c → c = 0) (hl : e.ts.length + 2 ≤ 8796093022208) :
  Calls Tryz.prog 18 #[.agg (e.cells tv).toArray] w fun r w' => (∃ v, r = .returned (.agg (e.cells v).toArray) ∧ OfT w' w.heap.size e.ts v) ∧ Below w.heap.size w w' := by
 obtain ⟨tn, htn⟩ : ∃ tn, tn = e.ts.length := ⟨_, rfl⟩
 obtain ⟨ta, tc, rfl, g1, g2⟩ : ∃ a c, tv = .slice a tn c ∧ tn ≤ c ∧ c ≤ 9223372036854775807 := by obtain ⟨_, a, c, e, h1, h2, _⟩ := h; exact ⟨a, c, by rw [htn]; exact e, by rw [htn]; exact h1, h2⟩
 have HTN := hI_ htn
 have V := ((aa w (e.cells (.slice ta tn tc)) 31).alloc (.cells #[.int .u8 0, .int .u64 0, .int .i64 0, .int .i64 0, .int .i64 0, .int .i64 0, .int .i64 0, .int .i64 0, .int .i64 0, .int .i64 0, .slice none 0 0] 31)).alloc (.cells #[] 102)
 have U := (aa (w.alloc (.cells (e.cells (.slice ta tn tc)).toArray 31)) mkZ 31).alloc (.cells #[] 102)
 have D := (((Below.refl w.heap.size w).alloc (Nat.le_refl _) (.cells (e.cells (.slice ta tn tc)).toArray 31)).alloc (by simp) (.cells #[.int .u8 0, .int .u64 0, .int .i64 0, .int .i64 0, .int .i64 0, .int .i64 0, .int .i64 0, .int .i64 0, .int .i64 0, .int .i64 0, .slice none 0 0] 31)).alloc (by simp; omega) (.cells #[] 102)
 have O := iK ((w.alloc (.cells (e.cells (.slice ta tn tc)).toArray 31)).alloc (.cells #[.int .u8 0, .int .u64 0, .int .i64 0, .int .i64 0, .int .i64 0, .int .i64 0, .int .i64 0, .int .i64 0, .int .i64 0, .int .i64 0, .slice none 0 0] 31))
 rw [World.size_alloc] at U
 rw [World.size_alloc, World.size_alloc] at O
 have p10 := V.cell 10 (v := .slice ta tn tc) rfl
 have HU := hI_ U
 have HV := hI_ V
 have HD := hI_ D
 have HO := hI_ O
 have HT := hI_ (h.step D)
 have HN := hI_ hno
 have HL := hI_ hl
 have hs : w.heap.size + 2 < (((w.alloc (.cells (e.cells (.slice ta tn tc)).toArray 31)).alloc (.cells #[.int .u8 0, .int .u64 0, .int .i64 0, .int .i64 0, .int .i64 0, .int .i64 0, .int .i64 0, .int .i64 0, .int .i64 0, .int .i64 0, .slice none 0 0] 31)).alloc (.cells #[] 102)).heap.size := by simp
 have HS := hI_ hs
 clear U V D O h hno hl htn hs
 have C3 : Hid (∀ w2 : World, ∀ k, k < [((77 : Int), (0 : Int))].length → (w2.alloc (.cells #[.int .i64 77, .int .i64 0] 102)).cell? ⟨w2.heap.size, 0 + 2 * k, none⟩ = some (.int .i64 ([((77 : Int), (0 : Int))].getD k (0, 0)).1) ∧ (w2.alloc (.cells #[.int .i64 77, .int .i64 0] 102)).cell? ⟨w2.heap.size, 0 + 2 * k + 1, none⟩ = some (.int .i64 ([((77 : Int), (0 : Int))].getD k (0, 0)).2)) := by
  intro w2 k hk
  have VT := aa w2 [.int .i64 77, .int .i64 0] 102
  obtain rfl : k = 0 := by simpa using hk
  exact ⟨VT.cell 0 rfl, VT.cell 1 rfl⟩
 have W3 : Hid (∀ t ∈ [((77 : Int), (0 : Int))], I64 t.1 ∧ I64 t.2) := by
  intro t ht
  simp only [List.mem_cons, List.not_mem_nil, or_false] at ht
  subst ht
  unfold I64
  simp
 go_enter Tryz.func18, Tryz.ntmps18
 go_upto_region 2 with (first
  | (at_builtin; refine sP rfl _ _ rfl (w.heap.size + 1 + 1) e.ts [((77 : Int), (0 : Int))] v2 w2.heap.size 0 1 (by rfl) (by rfl) O3.out W3.out (C3.out w2) S3 (by have := HL.out; simp; omega) ?_; intro v4 w4 o4 b4 g4)
  | (at_builtin; (refine sQ rfl _ _ rfl (w.heap.size + 1 + 1) [] e.ts _ _ (by rfl) (by rfl) HO.out HT.out HN.out (by have := HS.out; omega) (by have := HL.out; simp; omega) ?_; intro v2 w2 o2 b2 g2; rw [List.nil_append] at o2; have O3 := hI_ (o2.step ((Below.refl w2.heap.size w2).alloc (Nat.le_refl _) (.cells #[.int .i64 77, .int .i64 0] 102))); have B2 := (show Hid _ from b2); have S3 : w.heap.size + 1 + 1 ≤ (w2.alloc (.cells #[.int .i64 77, .int .i64 0] 102)).heap.size := (by have := b2.size; have := HS.out; rw [World.size_alloc]; omega); clear o2 b2)))
 obtain ⟨g, cap, rfl, hc1, hc2, hg⟩ := o4.head1
 rw [← HTN.out] at hc1
 rw [← HTN.out]
 have B4 := hI_ ((B2.out.alloc (by have := B2.out.size; have := HS.out; omega) (.cells #[.int .i64 77, .int .i64 0] 102)).trans b4)
 have V4 := HV.out.keep B4.out (by omega)
 have U4 := hI_ (HU.out.keep B4.out (by omega))
 have D4 := hI_ (HD.out.trans (B4.out.mono (by omega)))
 have O4 := hI_ o4
 have ll := V4.lt
 have lu := U4.out.lt
 have p10 := V4.cell 10 (v := .slice ta tn tc) rfl
 have f10 := V4.free 10
 have hbk := V4.blk
 have d1 : tn ≤ cap := by omega
 have d2 : (tn : Int) ≤ 9223372036854775807 := by omega
 have d3 : tn ≤ tn + 1 := by omega
 have HC := hI_ ((And.intro hc1 (And.intro hc2 hg)))
 have HV4 := hI_ V4
 clear B2 O3 S3 B4 V4 HT HO HV HU g2 g4 b4 o4 HD hc1
 have uq := ax w4 w.heap.size 10 (.slice (some ⟨g, 0, none⟩) tn cap)
 have V5 : Hid (VA (w4.setCell ⟨w.heap.size, 10, none⟩ (.slice (some ⟨g, 0, none⟩) tn cap)) w.heap.size (e.cells (.slice (some ⟨g, 0, none⟩) tn cap)) 31) := HV4.out.set 10 (.slice (some ⟨g, 0, none⟩) tn cap)
 have U5 : Hid (VA _ (w.heap.size + 1) mkZ 31) := U4.out.upd uq (by omega)
 have O5 := hI_ (OwnT.updV O4.out HV4.out (by decide) uq)
 have D5 := hI_ (uq.bel D4.out (Nat.le_refl _))
 clear uq
 go_upto_region 3 with fail
 clear p10 f10 hbk HV4 U4 O4 D4 ll lu d1 d2 d3
 generalize w4.setCell ⟨w.heap.size, 10, none⟩ (.slice (some ⟨g, 0, none⟩) tn cap) = w5 at *
 go_wp2_with (first
  | (refine ldA rfl 31 _ rfl w.heap.size (by rfl) _ _ V5.out _ Tryz.underlying31 rfl ai ?_)
  | (refine stA rfl 31 _ _ rfl (w.heap.size + 1) (by rfl) mkZ (e.cells (.slice (some ⟨g, 0, none⟩) tn cap)) (by rfl) 31 U5.out ai rfl (e.one ⟨_, _, _, rfl⟩) ?_; intro w6 v6 u6))
 have hld := run_loadVar_row (P := Tryz.prog) w6 (w.heap.size + 1) 31 31 _ (0, 0) _ v6.blk Tryz.underlying31 rfl ai
 refine bodyPost_ret (v := .agg (e.cells (.slice (some ⟨g, 0, none⟩) tn cap)).toArray) (by simp [results, Tryz.results18, asAddr, hld, Act.put]) rfl ⟨⟨_, rfl, g, cap, by rw [HTN.out], ?_⟩, u6.bel D5.out (by omega)⟩
 have h := OwnT.updV O5.out U5.out (by decide) u6
 exact h.lower (by omega)
theorem iB (e : EV) : ∃ f : Bool, f = true ↔ e.e8.form := by
 by_cases h : e.e8.form
 ·exact ⟨true, by simp [h]⟩
 ·exact ⟨false, by simp [h]⟩
def E1 (e : EV) : EV := { e with n0 := 1 }
theorem vg {e : EV} (h : e.ok) : (E1 e).ok := ⟨h.op, h.key, di, h.n1, h.n2, h.n3, h.n4, h.n5, h.n6, h.n7⟩
set_option maxRecDepth 100000 in
theorem closed_walk (w : World) (T : TBL w) (h6 : 6 ≤ w.heap.size) (e : EV) (he : e.ok) (tv : Value) (R : Tr w tv e.ts) (hno : ∀ n c, tv = .slice none n c → c = 0) (hlen : e.ts.length + 2 ≤ 8796093022208) : Calls Tryz.prog 5 #[.agg (e.cells tv).toArray] w fun r w' => r = .returned (.bool true) ∧ Below w.heap.size w w' := by
 have b0 := (Below.refl w.heap.size w).alloc (Nat.le_refl _) (.cells (e.cells tv).toArray 31)
 have HB0 := hI_ b0
 have HTB := hI_ (T.step b0)
 have HV0 := hI_ (aa w (e.cells tv) 31)
 have HR0 : Hid (Tr _ tv e.ts) := R.step b0
 have H6w := hI_ h6
 have HQ : Hid (e.ok ∧ (∀ n c, tv = .slice none n c → c = 0) ∧ e.ts.length + 2 ≤ 8796093022208) := ⟨he, hno, hlen⟩
 clear b0 T R h6 he hno hlen
 go_enter Tryz.func5, Tryz.ntmps5
 have hbs1 := @rI1
 have hbs2 := @rI2
 have hbs3 := @rI3
 have hbs4 := @rI4
 go_wp2_with fail
 refine (dZ _ HTB.out (by rw [World.size_alloc]; have := H6w.out; omega)).mono ?_
 rintro r wA ⟨rfl, bA⟩
 have BA : Hid (Below w.heap.size w wA) := HB0.out.trans (bA.mono (by rw [World.size_alloc]; omega))
 have H6 : Hid (6 ≤ wA.heap.size) := Nat.le_trans H6w.out BA.out.size
 have HTA : Hid (TBL wA) := HTB.out.step bA
 have HVA : Hid (VA wA w.heap.size (e.cells tv) 31) := HV0.out.step bA
 have HRA : Hid (Tr wA tv e.ts) := HR0.out.step bA
 have LV : w.heap.size < wA.heap.size := HVA.out.lt
 clear bA HV0 HR0 HTB HB0
 go_wp2_with fail

 refine (gc wA HTA.out H6.out 500 500 (by decide) (by decide)).mono ?_
 rintro r w0 ⟨p, rfl, h0, b0⟩
 have HK_0 : Hid (BK w0 wA.heap.size p (LB 500 500)) := h0
 have BB_0 := hI_ b0
 have HS_0 : Hid (S3 (LB 500 500) 500 500 (AO 1 0 1) (AO 2 0 2) (AO 3 1 1) 6) := mx 500 500
 clear h0 b0
 generalize LB 500 500 = M0 at *
 go_wp2_with fail
 refine (ap 4 [3, 1000] _ _ (vI2 w0 (3) (1000)) (by show 2 ≤ 8; decide)).mono ?_
 rintro r wa1 ⟨rfl, ba1⟩
 have ka1 := ((Below.refl w0.heap.size w0).alloc (Nat.le_refl _) (.cells #[.int .i64 (3), .int .i64 (1000)] 2)).trans (ba1.mono (by simp))
 have HK_a1 : Hid (BK _ wA.heap.size p _) := HK_0.out.step ka1
 have BB_a1 := hI_ (BB_0.out.trans (ka1.mono BB_0.out.size))
 clear  BB_0 HK_0
 clear ba1 ka1
 go_wp2_with fail
 refine (bj HK_a1.out (ck HS_0.out.keys HS_0.out.uw (by decide) (fY ⟨by decide, by decide⟩ ⟨by decide, by decide⟩) (by show 2 ≤ ct.getD 4 0; decide) (by rw [iY HS_0.out.a3 rfl rfl (by decide) (by decide), fl (by decide) (by decide)]; rfl)) (by rw [HS_0.out.seq]; decide) (az _) ay).mono ?_
 rintro r wa2 ⟨rfl, ha2, ka2⟩
 have HK_a2 : Hid (BK _ wA.heap.size p _) := ha2
 have BB_a2 : Hid (Below wA.heap.size wA wa2) := BB_a1.out.trans ka2.bel
 clear  BB_a1 HK_a1
 clear ha2 ka2
 have HS_1 := hI_ (S3.next HS_0.out (e := mkE 4 [3, 1000]) (b1 := AO 1 0 1) (b2 := AO 2 0 2) (b3 := addB 1000 (AO 3 1 1)) rfl (by show 4 ≠ 1; decide) (by decide) (by show onA M0.al 3 (addB 1000) = _; rw [S3.chg3 HS_0.out]) rfl rfl rfl)
 generalize nxt M0 (mkE 4 [3, 1000]) = M1 at *
 clear HS_0
 go_wp2_with fail
 refine (ap 3 [1] _ _ (vI1 wa2 (1)) (by show 1 ≤ 8; decide)).mono ?_
 rintro r wa3 ⟨rfl, ba3⟩
 have ka3 := ((Below.refl wa2.heap.size wa2).alloc (Nat.le_refl _) (.cells #[.int .i64 (1)] 2)).trans (ba3.mono (by simp))
 have HK_a3 : Hid (BK _ wA.heap.size p _) := HK_a2.out.step ka3
 have BB_a3 := hI_ (BB_a2.out.trans (ka3.mono BB_a2.out.size))
 clear  BB_a2 HK_a2
 clear ba3 ka3
 go_wp2_with fail
 refine (bj HK_a3.out (ck HS_1.out.keys HS_1.out.uw (by decide) (tl di) (by show 1 ≤ ct.getD 3 0; decide) (by rw [kN HS_1.out.a1 rfl]; rfl)) (by rw [HS_1.out.seq]; decide) (az _) ay).mono ?_
 rintro r wa4 ⟨rfl, ha4, ka4⟩
 have HK_a4 : Hid (BK _ wA.heap.size p _) := ha4
 have BB_a4 : Hid (Below wA.heap.size wA wa4) := BB_a3.out.trans ka4.bel
 clear  BB_a3 HK_a3
 clear ha4 ka4
 have HS_2 := hI_ (S3.next HS_1.out (e := mkE 3 [1]) (b1 := closedA (AO 1 0 1)) (b2 := AO 2 0 2) (b3 := addB 1000 (AO 3 1 1)) rfl (by show 3 ≠ 1; decide) (by decide) (by show onA M1.al 1 closedA = _; rw [S3.chg1 HS_1.out]) rfl rfl rfl)
 generalize nxt M1 (mkE 3 [1]) = M2 at *
 clear HS_1
 have HV_k := hI_ (HVA.out.step BB_a4.out)
 have HR_k := hI_ (HRA.out.step BB_a4.out)
 have BW_k : Hid (Below w.heap.size w wa4) := BA.out.trans (BB_a4.out.mono BA.out.size)
 clear HVA HRA
 go_upto_region 6 with (refine ldA rfl 31 _ rfl w.heap.size (by rfl) _ _ HV_k.out _ Tryz.underlying31 rfl ai ?_)
 go_wp2_with (refine ldA rfl 31 _ rfl w.heap.size (by rfl) _ _ HV_k.out _ Tryz.underlying31 rfl ai ?_)
 refine (gJ e tv wa4 HR_k.out HQ.out.2.1 HQ.out.2.2).mono ?_
 rintro r wc ⟨⟨u, rfl, oc⟩, bc⟩
 have HK_c : Hid (BK _ wA.heap.size p _) := HK_a4.out.step bc
 have HV_c := hI_ (HV_k.out.step bc)
 have HO_c : Hid (OfT wc w.heap.size e.ts u) := oc.lower BW_k.out.size
 have BW_c := hI_ (BW_k.out.trans (bc.mono BW_k.out.size))
 clear oc bc HK_a4 BB_a4 HV_k HR_k BW_k
 go_upto_region 7 with (refine stA rfl 31 _ _ rfl w.heap.size (by rfl) (e.cells tv) (e.cells u) (by rfl) 31 HV_c.out ai rfl (e.one HO_c.out.tf) ?_; intro wd vd ud)
 have HK_d : Hid (BK _ wA.heap.size p _) := HK_c.out.upd HV_c.out (by decide) ud H6w.out
 have HO_d : Hid (OfT wd w.heap.size e.ts u) := HO_c.out.updV HV_c.out (by decide) ud
 have BB_d := hI_ (ud.bel BW_c.out (Nat.le_refl _))
 have HV_d : Hid (VA wd w.heap.size (e.cells u) 31) := vd
 clear vd ud HK_c HV_c HO_c BW_c
 have y0 := HV_d.out.cell 0 (v := .int .u8 (e.op : Int)) rfl
 by_cases k1 : e.op < 2
 ·have d1 : ((e.op : Int) < 2) = True := by simp; omega
  go_wp2_with fail
  go_ret
  exact ⟨rfl, BB_d.out⟩
 have d1 : ((e.op : Int) < 2) = False := by simp; omega
 by_cases k2 : 12 < e.op
 ·have d2 : ((12 : Int) < (e.op : Int)) = True := by simp; omega
  go_wp2_with fail
  go_ret
  exact ⟨rfl, BB_d.out⟩
 have d2 : ((12 : Int) < (e.op : Int)) = False := by simp; omega
 by_cases k3 : e.op = 11
 ·have d3 : ((e.op : Int) == 11) = true := by simp; omega
  go_wp2_with fail
  go_ret
  exact ⟨rfl, BB_d.out⟩
 have d3 : ((e.op : Int) == 11) = false := by simp; omega
 have c2 := HV_d.out.cell 2 (v := .int .i64 e.n0) rfl
 have f2 := HV_d.out.free 2
 have hbk := HV_d.out.blk
 have uq := ax wd w.heap.size 2 (.int .i64 1)
 have HV_e : Hid (VA (wd.setCell ⟨w.heap.size, 2, none⟩ (.int .i64 1)) w.heap.size ((E1 e).cells u) 31) := HV_d.out.set 2 (.int .i64 1)
 have HK_e : Hid (BK _ wA.heap.size p _) := HK_d.out.upd HV_d.out (by decide) uq H6w.out
 have HO_e : Hid (OfT _ w.heap.size e.ts u) := HO_d.out.updV HV_d.out (by decide) uq
 have BB_e := hI_ (uq.bel BB_d.out (Nat.le_refl _))
 clear uq
 go_upto_region 10 with fail
 clear y0 c2 f2 hbk HV_d HK_d HO_d BB_d d1 d2 d3
 generalize wd.setCell ⟨w.heap.size, 2, none⟩ (.int .i64 1) = we at *
 go_wp2_with (refine ldA rfl 31 _ rfl w.heap.size (by rfl) _ _ HV_e.out _ Tryz.underlying31 rfl ai ?_)
 obtain ⟨f, hf⟩ := iB (E1 e)
 obtain ⟨want, hw⟩ : ∃ want : Int, refL M2 (E1 e) f = want := ⟨_, rfl⟩
 have hn : want ≠ 0 := by rw [← hw]; exact kV (a := closedA (AO 1 0 1)) HS_2.out.a1 rfl (by show 2 ≤ e.op; omega) (by show e.op ≤ 12; omega) (by show e.op ≠ 11; exact k3)
 have HN := hI_ hn
 refine (eI (e := E1 e) HK_e.out (vg HQ.out.1) HO_e.out.tr HO_e.out.no (f := f) hf hw hn).mono ?_
 rintro r wf ⟨rfl, hf1, kf⟩
 have hWB : w.heap.size ≤ wA.heap.size := Nat.le_of_lt LV
 have HK_f := hI_ hf1
 have BB_f : Hid (Below w.heap.size w wf) := BB_e.out.trans (kf.bel.mono hWB)
 clear hf1 kf hf hw hn HV_e HK_e HO_e BB_e
 have bA := (Below.refl wf.heap.size wf).alloc (Nat.le_refl _) (.cells #[.int .u8 0, .int .u64 0, .int .i64 0, .int .i64 0, .int .i64 0, .int .i64 0, .int .i64 0, .int .i64 0, .int .i64 0, .int .i64 0, .slice none 0 0] 31)
 have HV := hI_ (aa wf mkZ 31)
 have HK_z : Hid (BK _ wA.heap.size p _) := HK_f.out.step bA
 have BB_z := hI_ (BB_f.out.trans (bA.mono BB_f.out.size))
 have s1 := BB_f.out.size
 clear  BB_f HK_f
 clear bA
 go_upto_region 11 with (refine stA rfl 31 _ _ rfl wf.heap.size (by rfl) mkZ (mkZ) (by rfl) 31 HV.out ai rfl (jf) ?_; intro wa41 va41 ua41)
 have HK_a41 : Hid (BK _ wA.heap.size p _) := HK_z.out.upd HV.out (by decide) ua41 (by have := H6w.out; omega)
 have BB_a41 := hI_ (ua41.bel BB_z.out s1)
 have V5_a41 := hI_ va41
 clear va41 ua41 HV s1 HK_z BB_z
 clear V5_a41
 go_wp2_with fail
 refine (dw HK_a41.out HS_2.out.a1).mono ?_
 rintro r wa42 ⟨rfl, ha42, ka42⟩
 have HK_a42 : Hid (BK _ wA.heap.size p _) := ha42
 have BB_a42 : Hid (Below w.heap.size w wa42) := BB_a41.out.trans (ka42.bel.mono hWB)
 clear  BB_a41 HK_a41
 clear ha42 ka42
 have bA := (Below.refl wa42.heap.size wa42).alloc (Nat.le_refl _) (.cells #[.int .i64 0, .int .i64 0, .int .i64 0, .int .i64 0, .bool false, .int .i64 0, .int .i64 0, .int .i64 0] 36)
 have HV := hI_ (aa wa42 ZA 36)
 have HK_z : Hid (BK _ wA.heap.size p _) := HK_a42.out.step bA
 have BB_z := hI_ (BB_a42.out.trans (bA.mono BB_a42.out.size))
 have s1 := BB_a42.out.size
 clear  BB_a42 HK_a42
 clear bA
 go_upto_region 12 with (refine stA rfl 36 _ _ rfl wa42.heap.size (by rfl) ZA ((closedA (AO 1 0 1)).told) (by rfl) 36 HV.out cm rfl ((closedA (AO 1 0 1)).told_one) ?_; intro wa43 va43 ua43)
 have HK_a43 : Hid (BK _ wA.heap.size p _) := HK_z.out.upd HV.out (by decide) ua43 (by have := H6w.out; omega)
 have BB_a43 := hI_ (ua43.bel BB_z.out s1)
 have V8_a43 := hI_ va43
 clear va43 ua43 HV s1 HK_z BB_z
 have c4 := V8_a43.out.cell 4 (v := .bool false) rfl
 have hne : (want != 0) = true := by simpa using HN.out
 go_wp2_with fail
 refine (oo HK_a43.out HS_2.out.seq).mono ?_
 rintro r wq ⟨rfl, hq⟩
 obtain rfl := hq.symm
 clear hq
 go_wp2_with fail
 go_ret
 exact ⟨rfl, BB_a43.out⟩
def EK (e : EV) (k : Nat) : EV := { e with key := k }
theorem vh {e : EV} {k : Nat} (h : e.ok) (hk : k < 18446744073709551616) : (EK e k).ok := ⟨h.op, by show k ≤ 18446744073709551615; omega, h.n0, h.n1, h.n2, h.n3, h.n4, h.n5, h.n6, h.n7⟩
set_option maxRecDepth 100000 in
theorem keys_walk (w : World) (T : TBL w) (h6 : 6 ≤ w.heap.size) (K : Nat) (hK : K < 18446744073709551616) (x : Int) (e : EV) (he : e.ok) (tv : Value) (R : Tr w tv e.ts) (hno : ∀ n c, tv = .slice none n c → c = 0) (hlen : e.ts.length + 2 ≤ 8796093022208) : Calls Tryz.prog 6 #[.int .u64 (K : Int), .int .i64 x, .agg (e.cells tv).toArray] w fun r w' => r = .returned (.bool true) ∧ Below w.heap.size w w' := by
 have HKK := hI_ hK
 clear hK
 have b0 := (Below.refl w.heap.size w).alloc (Nat.le_refl _) (.cells (e.cells tv).toArray 31)
 have HB0 := hI_ b0
 have HTB := hI_ (T.step b0)
 have HV0 := hI_ (aa w (e.cells tv) 31)
 have HR0 : Hid (Tr _ tv e.ts) := R.step b0
 have H6w := hI_ h6
 have HQ : Hid (e.ok ∧ (∀ n c, tv = .slice none n c → c = 0) ∧ e.ts.length + 2 ≤ 8796093022208) := ⟨he, hno, hlen⟩
 clear b0 T R h6 he hno hlen
 go_enter Tryz.func6, Tryz.ntmps6
 have hbs1 := @rI1
 have hbs2 := @rI2
 have hbs3 := @rI3
 have hbs4 := @rI4
 go_wp2_with fail
 refine (dZ _ HTB.out (by rw [World.size_alloc]; have := H6w.out; omega)).mono ?_
 rintro r wA ⟨rfl, bA⟩
 have BA : Hid (Below w.heap.size w wA) := HB0.out.trans (bA.mono (by rw [World.size_alloc]; omega))
 have H6 : Hid (6 ≤ wA.heap.size) := Nat.le_trans H6w.out BA.out.size
 have HTA : Hid (TBL wA) := HTB.out.step bA
 have HVA : Hid (VA wA w.heap.size (e.cells tv) 31) := HV0.out.step bA
 have HRA : Hid (Tr wA tv e.ts) := HR0.out.step bA
 have LV : w.heap.size < wA.heap.size := HVA.out.lt
 clear bA HV0 HR0 HTB HB0
 go_wp2_with fail

 refine (gc wA HTA.out H6.out 0 0 (by decide) (by decide)).mono ?_
 rintro r w0 ⟨p, rfl, h0, b0⟩
 have HK_0 : Hid (BK w0 wA.heap.size p (LB 0 0)) := h0
 have BB_0 := hI_ b0
 have HS_0 : Hid (S3 (LB 0 0) 0 0 (AO 1 0 1) (AO 2 0 2) (AO 3 1 1) 6) := mx 0 0
 clear h0 b0
 generalize LB 0 0 = M0 at *
 go_upto_if 23 with fail
 go_cut [0] (fun s0 wx => ∃ k : Nat, s0 = .int .u64 (k : Int) ∧ Hid (k ≠ 0 ∧ k < 18446744073709551616) ∧ Hid (BK wx wA.heap.size p M0) ∧ Hid (Below wA.heap.size wA wx))
 case first =>
  by_cases hK0 : K = 0
  ·have e0 : ((K : Int) == 0) = true := by simpa using hK0
   have e1 : ((K : Int) = 0) = True := by simpa using hK0
   go_wp2_with fail
   go_meet
   exact ⟨1, rfl, ⟨by decide, by decide⟩, HK_0.out, BB_0.out⟩
  ·have e0 : ((K : Int) == 0) = false := by simpa using hK0
   have e1 : ((K : Int) = 0) = False := by simpa using hK0
   go_wp2_with fail
   go_meet
   exact ⟨K, rfl, ⟨hK0, HKK.out⟩, HK_0.out, BB_0.out⟩
 obtain ⟨k, rfl, HKN, HK, BB⟩ := hcut
 have a2 := um x 1000000 (by decide) (by decide)
 clear HK_0 BB_0
 have HK_c := hI_ HK.out
 have BB_c := hI_ BB.out
 clear HK BB
 go_upto_region 9 with fail
 generalize wrap64 ((IntKind.u64.wrap x).tmod 1000000) = A0 at *
 try rw [show wrap64 (1 + A0) = 1 + A0 by unfold wrap64; omega]
 obtain ⟨A, hA⟩ : ∃ A, A = 1 + A0 := ⟨_, rfl⟩
 rw [← hA]
 have g3 : 1 ≤ A := by omega
 have g4 : A ≤ 1000000 := by omega
 clear a2 hA
 go_wp2_with fail
 refine (ap 5 [1, A] _ _ (vI2 wc (1) (A)) (by show 2 ≤ 8; decide)).mono ?_
 rintro r wa1 ⟨rfl, ba1⟩
 have ka1 := ((Below.refl wc.heap.size wc).alloc (Nat.le_refl _) (.cells #[.int .i64 (1), .int .i64 (A)] 2)).trans (ba1.mono (by simp))
 have HK_a1 : Hid (BK _ wA.heap.size p _) := HK_c.out.step ka1
 have BB_a1 := hI_ (BB_c.out.trans (ka1.mono BB_c.out.size))
 clear  BB_c HK_c
 clear ba1 ka1
 go_wp2_with fail
 refine (ap 4 [1, A] _ _ (vI2 wa1 (1) (A)) (by show 2 ≤ 8; decide)).mono ?_
 rintro r wa2 ⟨rfl, ba2⟩
 have ka2 := ((Below.refl wa1.heap.size wa1).alloc (Nat.le_refl _) (.cells #[.int .i64 (1), .int .i64 (A)] 2)).trans (ba2.mono (by simp))
 have HK_a2 : Hid (BK _ wA.heap.size p _) := HK_a1.out.step ka2
 have BB_a2 := hI_ (BB_a1.out.trans (ka2.mono BB_a1.out.size))
 clear  BB_a1 HK_a1
 clear ba2 ka2
 have bA := ((Below.refl wa2.heap.size wa2).alloc (Nat.le_refl _) (.cells #[.int .u8 0, .int .u64 0, .int .i64 0, .int .i64 0, .int .i64 0, .int .i64 0, .int .i64 0, .int .i64 0, .int .i64 0, .int .i64 0, .slice none 0 0] 31)).alloc (by simp) (.cells #[.int .u8 0, .int .u64 0, .int .i64 0, .int .i64 0, .int .i64 0, .int .i64 0, .int .i64 0, .int .i64 0, .int .i64 0, .int .i64 0, .slice none 0 0] 31)
 have q9 := (aa wa2 mkZ 31).alloc (.cells #[.int .u8 0, .int .u64 0, .int .i64 0, .int .i64 0, .int .i64 0, .int .i64 0, .int .i64 0, .int .i64 0, .int .i64 0, .int .i64 0, .slice none 0 0] 31)
 have q10 := aa (wa2.alloc (.cells #[.int .u8 0, .int .u64 0, .int .i64 0, .int .i64 0, .int .i64 0, .int .i64 0, .int .i64 0, .int .i64 0, .int .i64 0, .int .i64 0, .slice none 0 0] 31)) mkZ 31
 simp only [World.size_alloc] at q10
 have V9_A := hI_ q9
 have V10_A := hI_ q10
 have HK_A : Hid (BK _ wA.heap.size p _) := HK_a2.out.step bA
 have BB_A := hI_ (BB_a2.out.trans (bA.mono BB_a2.out.size))
 have s3 := BB_a2.out.size
 clear bA q9 q10 HK_a2 BB_a2
 go_upto_region 10 with (first | (refine stA rfl 31 _ _ rfl (wa2.heap.size) (by rfl) mkZ (((mkE 5 [1, A]).cells (.slice none 0 0))) (by rfl) 31 V9_A.out ai rfl (ge _ _) ?_; intro wd vd ud; have V10_d := hI_ (V10_A.out.upd ud (by omega))) | (refine stA rfl 31 _ _ rfl (wa2.heap.size + 1) (by rfl) mkZ (((mkE 4 [1, A]).cells (.slice none 0 0))) (by rfl) 31 V10_d.out ai rfl (ge _ _) ?_; intro we ve ue))
 have V9_e : Hid (VA we (wa2.heap.size) ((mkE 5 [1, A]).cells (.slice none 0 0)) 31) := vd.upd ue (by omega)
 have V10_e : Hid (VA we (wa2.heap.size + 1) ((mkE 4 [1, A]).cells (.slice none 0 0)) 31) := ve
 have BB_e : Hid (Below wA.heap.size wA we) := ue.bel (ud.bel BB_A.out (by omega)) (by omega)
 have HK_e : Hid (BK we wA.heap.size p M0) := (HK_A.out.upd V9_A.out (by decide) ud (by have := H6.out; omega)).upd V10_d.out (by decide) ue (by have := H6.out; omega)
 clear vd ve ud ue V9_A V10_A V10_d HK_A BB_A
 have c9 := V9_e.out.cell 1 (v := .int .u64 0) rfl
 have f9 := V9_e.out.free 1
 have k9 := V9_e.out.blk
 have uq := ax we (wa2.heap.size) 1 (.int .u64 (k : Int))
 have x9 : VA (we.setCell ⟨wa2.heap.size, 1, none⟩ (.int .u64 (k : Int))) (wa2.heap.size) ((kE k 5 [1, A]).cells (.slice none 0 0)) 31 := V9_e.out.set 1 (.int .u64 (k : Int))
 have y10 := V10_e.out.upd uq (by omega)
 have c10 := y10.cell 1 (v := .int .u64 0) rfl
 have f10 := y10.free 1
 have k10 := y10.blk
 have ur := ax (we.setCell ⟨wa2.heap.size, 1, none⟩ (.int .u64 (k : Int))) (wa2.heap.size + 1) 1 (.int .u64 (k : Int))
 have HK_f : Hid (BK _ wA.heap.size p M0) := (HK_e.out.upd V9_e.out (by decide) uq (by have := H6.out; omega)).upd y10 (by decide) ur (by have := H6.out; omega)
 have V10_f : Hid (VA _ (wa2.heap.size + 1) ((kE k 4 [1, A]).cells (.slice none 0 0)) 31) := y10.set 1 (.int .u64 (k : Int))
 have V9_f : Hid (VA _ (wa2.heap.size) ((kE k 5 [1, A]).cells (.slice none 0 0)) 31) := x9.upd ur (by omega)
 have BB_f : Hid (Below wA.heap.size wA _) := ur.bel (uq.bel BB_e.out (by omega)) (by omega)
 clear uq ur x9 y10
 go_upto_region 11 with fail
 clear c9 f9 k9 c10 f10 k10 V9_e V10_e HK_e BB_e
 generalize (we.setCell ⟨wa2.heap.size, 1, none⟩ (.int .u64 (k : Int))).setCell ⟨wa2.heap.size + 1, 1, none⟩ (.int .u64 (k : Int)) = wf at *
 generalize hq9 : wa2.heap.size = q9 at *
 clear hq9
 go_wp2_with (refine ldA rfl 31 _ rfl (q9) (by rfl) _ _ V9_f.out _ Tryz.underlying31 rfl ai ?_)
 refine (aD (e := kE k 5 [1, A]) HK_f.out (jM HKN.out.2 (by decide) (fY di ⟨by omega, by omega⟩)) (az _) ay (fg (by decide) (by decide) (by show 2 ≤ ct.getD 5 0; decide)) (by rw [lF HS_0.out.keys HS_0.out.uw (by decide), gu HS_0.out.a1 rfl rfl g3 (by omega), cJ (by rw [HS_0.out.sp1 rfl]; show (0 : Int) + 0 - 0 < A; omega)]; rfl) (by decide)).mono ?_
 rintro r wa3 ⟨rfl, ha3, ka3⟩
 have V9_a3 := hI_ (ka3.va V9_f.out (by decide))
 have V10_a3 := hI_ (ka3.va V10_f.out (by decide))
 have HK_a3 : Hid (BK _ wA.heap.size p _) := ha3
 have BB_a3 : Hid (Below wA.heap.size wA wa3) := BB_f.out.trans ka3.bel
 clear V9_f V10_f BB_f HK_f
 clear ha3 ka3
 go_wp2_with (refine iF (by rfl) 31 _ rfl (q9) (by rfl) _ _ V9_a3.out _ Tryz.underlying31 rfl ai ?_)
 refine (aD (e := kE k 5 [1, A]) HK_a3.out (jM HKN.out.2 (by decide) (fY di ⟨by omega, by omega⟩)) (az _) ay (fg (by decide) (by decide) (by show 2 ≤ ct.getD 5 0; decide)) (by rw [lF HS_0.out.keys HS_0.out.uw (by decide), gu HS_0.out.a1 rfl rfl g3 (by omega), cJ (by rw [HS_0.out.sp1 rfl]; show (0 : Int) + 0 - 0 < A; omega)]; rfl) (by decide)).mono ?_
 rintro r wa4 ⟨rfl, ha4, ka4⟩
 have V9_a4 := hI_ (ka4.va V9_a3.out (by decide))
 have V10_a4 := hI_ (ka4.va V10_a3.out (by decide))
 have HK_a4 : Hid (BK _ wA.heap.size p _) := ha4
 have BB_a4 : Hid (Below wA.heap.size wA wa4) := BB_a3.out.trans ka4.bel
 clear V9_a3 V10_a3 BB_a3 HK_a3
 clear ha4 ka4
 go_wp2_with (refine iF (by rfl) 31 _ rfl (q9 + 1) (by rfl) _ _ V10_a4.out _ Tryz.underlying31 rfl ai ?_)
 refine (bj (e := kE k 4 [1, A]) HK_a4.out (rB HKN.out.2 HS_0.out.keys HS_0.out.uw (by decide) (fY di ⟨by omega, by omega⟩) (by show 2 ≤ ct.getD 4 0; decide) (by rw [iY HS_0.out.a1 rfl rfl g3 (by omega), fl (by show (-10000000000000 : Int) ≤ 0 + A; omega) (by show (0 : Int) + A ≤ 10000000000000; omega)]; rfl)) (by rw [HS_0.out.seq]; decide) (az _) ay).mono ?_
 rintro r wa5 ⟨rfl, ha5, ka5⟩
 have V9_a5 := hI_ (ka5.va V9_a4.out (by decide))
 have V10_a5 := hI_ (ka5.va V10_a4.out (by decide))
 have HK_a5 : Hid (BK _ wA.heap.size p _) := ha5
 have BB_a5 : Hid (Below wA.heap.size wA wa5) := BB_a4.out.trans ka5.bel
 clear V9_a4 V10_a4 BB_a4 HK_a4
 clear ha5 ka5
 have HU := hI_ (qC (e := kE k 4 [1, A]) HS_0.out.keys rfl HKN.out.1)
 generalize nxt M0 (kE k 4 [1, A]) = M1 at *
 clear HS_0
 go_wp2_with (refine iF (by rfl) 31 _ rfl (q9 + 1) (by rfl) _ _ V10_a5.out _ Tryz.underlying31 rfl ai ?_)
 refine (aD (e := kE k 4 [1, A]) HK_a5.out (jM HKN.out.2 (by decide) (fY di ⟨by omega, by omega⟩)) (az _) ay (fg (by decide) (by decide) (by show 2 ≤ ct.getD 4 0; decide)) (ki HU.out (by decide)) (by decide)).mono ?_
 rintro r wa6 ⟨rfl, ha6, ka6⟩
 have V9_a6 := hI_ (ka6.va V9_a5.out (by decide))
 have V10_a6 := hI_ (ka6.va V10_a5.out (by decide))
 have HK_a6 : Hid (BK _ wA.heap.size p _) := ha6
 have BB_a6 : Hid (Below wA.heap.size wA wa6) := BB_a5.out.trans ka6.bel
 clear V9_a5 V10_a5 BB_a5 HK_a5
 clear ha6 ka6
 go_wp2_with (refine iF (by rfl) 31 _ rfl (q9) (by rfl) _ _ V9_a6.out _ Tryz.underlying31 rfl ai ?_)
 refine (aD (e := kE k 5 [1, A]) HK_a6.out (jM HKN.out.2 (by decide) (fY di ⟨by omega, by omega⟩)) (az _) ay (fg (by decide) (by decide) (by show 2 ≤ ct.getD 5 0; decide)) (ki HU.out (by decide)) (by decide)).mono ?_
 rintro r wa7 ⟨rfl, ha7, ka7⟩
 have V9_a7 := hI_ (ka7.va V9_a6.out (by decide))
 have V10_a7 := hI_ (ka7.va V10_a6.out (by decide))
 have HK_a7 : Hid (BK _ wA.heap.size p _) := ha7
 have BB_a7 : Hid (Below wA.heap.size wA wa7) := BB_a6.out.trans ka7.bel
 clear V9_a6 V10_a6 BB_a6 HK_a6
 clear ha7 ka7
 clear V9_a7 V10_a7
 have HV_k := hI_ (HVA.out.step BB_a7.out)
 have HR_k := hI_ (HRA.out.step BB_a7.out)
 have BW_k : Hid (Below w.heap.size w wa7) := BA.out.trans (BB_a7.out.mono BA.out.size)
 clear HVA HRA
 go_upto_region 13 with (refine ldA rfl 31 _ rfl w.heap.size (by rfl) _ _ HV_k.out _ Tryz.underlying31 rfl ai ?_)
 go_wp2_with (refine ldA rfl 31 _ rfl w.heap.size (by rfl) _ _ HV_k.out _ Tryz.underlying31 rfl ai ?_)
 refine (gJ e tv wa7 HR_k.out HQ.out.2.1 HQ.out.2.2).mono ?_
 rintro r wc ⟨⟨u, rfl, oc⟩, bc⟩
 have HK_c : Hid (BK _ wA.heap.size p _) := HK_a7.out.step bc
 have HV_c := hI_ (HV_k.out.step bc)
 have HO_c : Hid (OfT wc w.heap.size e.ts u) := oc.lower BW_k.out.size
 have BW_c := hI_ (BW_k.out.trans (bc.mono BW_k.out.size))
 clear oc bc HK_a7 BB_a7 HV_k HR_k BW_k
 go_upto_region 14 with (refine stA rfl 31 _ _ rfl w.heap.size (by rfl) (e.cells tv) (e.cells u) (by rfl) 31 HV_c.out ai rfl (e.one HO_c.out.tf) ?_; intro wd vd ud)
 have HK_d : Hid (BK _ wA.heap.size p _) := HK_c.out.upd HV_c.out (by decide) ud H6w.out
 have HO_d : Hid (OfT wd w.heap.size e.ts u) := HO_c.out.updV HV_c.out (by decide) ud
 have BB_d := hI_ (ud.bel BW_c.out (Nat.le_refl _))
 have HV_d : Hid (VA wd w.heap.size (e.cells u) 31) := vd
 clear vd ud HK_c HV_c HO_c BW_c
 have c1 := HV_d.out.cell 1 (v := .int .u64 (e.key : Int)) rfl
 have f1 := HV_d.out.free 1
 have hbk := HV_d.out.blk
 have uq := ax wd w.heap.size 1 (.int .u64 (k : Int))
 have HV_e : Hid (VA (wd.setCell ⟨w.heap.size, 1, none⟩ (.int .u64 (k : Int))) w.heap.size ((EK e k).cells u) 31) := HV_d.out.set 1 (.int .u64 (k : Int))
 have HK_e : Hid (BK _ wA.heap.size p _) := HK_d.out.upd HV_d.out (by decide) uq H6w.out
 have HO_e : Hid (OfT _ w.heap.size e.ts u) := HO_d.out.updV HV_d.out (by decide) uq
 have BB_e := hI_ (uq.bel BB_d.out (Nat.le_refl _))
 clear uq
 go_upto_region 15 with fail
 clear c1 f1 hbk HV_d HK_d HO_d BB_d
 generalize wd.setCell ⟨w.heap.size, 1, none⟩ (.int .u64 (k : Int)) = we at *
 go_wp2_with (refine ldA rfl 31 _ rfl w.heap.size (by rfl) _ _ HV_e.out _ Tryz.underlying31 rfl ai ?_)
 obtain ⟨f, hf⟩ := iB (EK e k)
 obtain ⟨want, hw⟩ : ∃ want : Int, refL M1 (EK e k) f = want := ⟨_, rfl⟩
 have hr := pQ (M := M1) (e := EK e k) (f := f) HU.out
 rw [hw] at hr
 have hn : want ≠ 0 := by rcases hr with h | h | h <;> omega
 have HW := hI_ hr
 refine (eI (e := EK e k) HK_e.out (vh HQ.out.1 HKN.out.2) HO_e.out.tr HO_e.out.no (f := f) hf hw hn).mono ?_
 rintro r wg ⟨rfl, hf1, kf⟩
 have hWB : w.heap.size ≤ wA.heap.size := Nat.le_of_lt LV
 have HK_g := hI_ hf1
 have BB_g : Hid (Below w.heap.size w wg) := BB_e.out.trans (kf.bel.mono hWB)
 have V5_g := hI_ (kf.va HV_e.out (by decide))
 clear hf1 kf hf hw hn hr HV_e HK_e HO_e BB_e
 have bA := (Below.refl wg.heap.size wg).alloc (Nat.le_refl _) (.cells #[.int .u8 0, .int .u64 0, .int .i64 0, .int .i64 0, .int .i64 0, .int .i64 0, .int .i64 0, .int .i64 0, .int .i64 0, .int .i64 0, .slice none 0 0] 31)
 have HV := hI_ (aa wg mkZ 31)
 have HK_z : Hid (BK _ wA.heap.size p _) := HK_g.out.step bA
 have BB_z := hI_ (BB_g.out.trans (bA.mono BB_g.out.size))
 have s1 := BB_g.out.size
 have V5_z := hI_ (V5_g.out.step bA)
 have lV5 := V5_g.out.lt
 clear V5_g BB_g HK_g
 clear bA
 go_upto_region 16 with (refine stA rfl 31 _ _ rfl wg.heap.size (by rfl) mkZ (mkZ) (by rfl) 31 HV.out ai rfl (jf) ?_; intro wa61 va61 ua61)
 have HK_a61 : Hid (BK _ wA.heap.size p _) := HK_z.out.upd HV.out (by decide) ua61 (by have := H6w.out; omega)
 have BB_a61 := hI_ (ua61.bel BB_z.out s1)
 have V5_a61 := hI_ (V5_z.out.upd ua61 (Nat.ne_of_lt lV5))
 have V11_a61 := hI_ va61
 clear va61 ua61 HV s1 HK_z BB_z V5_z lV5
 clear V11_a61
 have y0 := V5_a61.out.cell 0 (v := .int .u8 (e.op : Int)) rfl
 have hr := HW.out
 clear HW
 rcases hr with h | h | ⟨h, h13⟩
 ·subst h
  go_wp2_with fail
  go_ret
  exact ⟨rfl, BB_a61.out⟩
 ·subst h
  go_wp2_with fail
  go_ret
  exact ⟨rfl, BB_a61.out⟩
 ·subst h
  have d1 : ((13 : Int) ≤ (e.op : Int)) = True := by
   have h13 : 13 ≤ e.op := h13
   simp
   omega
  go_wp2_with fail
  go_ret
  exact ⟨rfl, BB_a61.out⟩
end Go.Proofs.YtjkiplndbcmmbaaGreatDoor