/- texts of the model: Mqj Mqk Mql Moy Mqm Mqn Mqo Mqp -/
import Derived.Test.YtjkiplndbcmmbaaGreatDoorX40
import Derived.Test.YtjkiplndbcmmbaaGreatDoorX15
import Derived.Test.YtjkiplndbcmmbaaGreatDoorX39
set_option linter.unusedVariables false
set_option linter.unusedSimpArgs false
set_option maxHeartbeats 16000000
namespace Go.Proofs.YtjkiplndbcmmbaaGreatDoor
open Go.RowKit Go.Maps
set_option maxRecDepth 100000 in
theorem jT (w : World) (B : Nat) (F : FB) (M : PM) (hM : MD w B F M) (e : EV) (he : e.ok) (tv : Value) (R : Tr w tv e.ts) (hno : ∀ n c, tv = .slice none n c → c = 0) (T : TBL w) (f : Bool) (hform : f = true ↔ e.e8.form) (want : Int) (hno2 : refL M e f = want) (hw : want ≠ 0) :
  Calls Tryz.prog 13 #[.pointer (some ⟨F.pm, 0, none⟩), .agg (e.cells tv).toArray, .int .i64 want] w fun r w' => r = .returned (.bool true) ∧ Below w.heap.size w w' := by
 have HP : Hid (∀ w1, Below w.heap.size w w1 → _) := fun w1 (b : Below w.heap.size w w1) => mu w1 B F M (hM.step b) e he tv (R.step b) hno (T.step b) f hform (by rw [hno2]; exact hw)
 rw [hno2] at HP
 have b0 := (Below.refl w.heap.size w).alloc (Nat.le_refl _) (.cells (e.cells tv).toArray 31)
 have HE := hI_ (aa w (e.cells tv) 31)
 have BB_1 := hI_ b0
 clear b0 hM R hno T hform hno2 he
 go_enter Tryz.func13, Tryz.ntmps13
 go_wp2_with (refine ldA rfl 31 _ rfl w.heap.size (by rfl) _ _ HE.out _ Tryz.underlying31 rfl ai ?_)
 refine (HP.out _ BB_1.out).mono ?_
 rintro r w2 ⟨rfl, b2⟩
 have BB_2 : Hid (Below w.heap.size w w2) := BB_1.out.trans (b2.mono BB_1.out.size)
 have V2 := aa w2 ([.int .u8 0, .int .u64 0, .int .i64 0, .int .i64 0, .int .i64 0, .int .i64 0, .int .i64 0, .int .i64 0, .int .i64 0, .int .i64 0, .slice none 0 0] : List Value) 31
 have B2 := (Below.refl w2.heap.size w2).alloc (Nat.le_refl _) (.cells #[.int .u8 0, .int .u64 0, .int .i64 0, .int .i64 0, .int .i64 0, .int .i64 0, .int .i64 0, .int .i64 0, .int .i64 0, .int .i64 0, .slice none 0 0] 31)
 have HV_2 := hI_ V2
 have BB_3 := hI_ (BB_2.out.trans (B2.mono BB_2.out.size))
 have s2 := BB_2.out.size
 clear b2 V2 B2 BB_1
 go_wp2_with (refine stA rfl 31 _ _ rfl w2.heap.size (by rfl) ([.int .u8 0, .int .u64 0, .int .i64 0, .int .i64 0, .int .i64 0, .int .i64 0, .int .i64 0, .int .i64 0, .int .i64 0, .int .i64 0, .slice none 0 0] : List Value) ([.int .u8 0, .int .u64 0, .int .i64 0, .int .i64 0, .int .i64 0, .int .i64 0, .int .i64 0, .int .i64 0, .int .i64 0, .int .i64 0, .slice none 0 0] : List Value) (by rfl) 31 HV_2.out ai rfl (by decide) ?_; intro w3 v3 u3)
 exact bodyPost_ret (v := .bool true) (by simp [results, Tryz.results13, go_sem]) rfl ⟨rfl, u3.bel BB_3.out s2⟩
theorem iF {w : World} {ops : Array Oper} {rest : List Oper} {o : Oper} {a : Act} {Q : Exit → Act → World → Prop} (hgd : Region.wanted o (yielded ops a.tmps) = true) (t : TypeId) (x : Operand) (ho : o.op = .load t x)
  (p : Nat) (hx : a.eval x = .pointer (some ⟨p, 0, none⟩)) (cs : List Value) (T : TypeId) (h : VA w p cs T) (d : TypeDesc) (hu : Tryz.prog.underlying t = some d) (hd : d.isRow = true) (hi : (Tryz.prog.info? t).map (·.size) = some cs.length)
  (k : wpList Tryz.prog ops Q rest (a.put o.dst (.agg cs.toArray)) w) : wpList Tryz.prog ops Q (o :: rest) a w := by
 refine wpList_step fun K hK => ?_
 rw [if_pos hgd]
 exact wp_load_mid t x ho p 0 hx cs d (fun j v hv => by rw [Nat.zero_add]; exact h.cell j hv) hu hd hi (hK _ _ k)
set_option maxRecDepth 100000 in
theorem nA (w : World) (F : FB) (e : EV) (tv : Value) (X : Nat → Prop) (G : World → Prop) (hTF : ∃ a n c, tv = Value.slice a n c) (mv : Int)
  (hp : ∀ w1, Below w.heap.size w w1 → Calls Tryz.prog 19 #[.pointer (some ⟨F.pm, 0, none⟩), .agg (e.cells tv).toArray] w1 fun r w' => (∃ u, r = .returned (.tuple #[.agg (e.cells u).toArray, .int .i64 mv, .int .i64 0]) ∧ OwnT w' w1.heap.size u e.ts) ∧ Below w1.heap.size w1 w')
  (ha : ∀ w1 u, Below w.heap.size w w1 → OwnT w1 w.heap.size u e.ts → Calls Tryz.prog 29 #[.pointer (some ⟨F.pm, 0, none⟩), .agg (e.cells u).toArray] w1 fun r w' => r = .returned (.int .i64 0) ∧ G w' ∧ But X w w') :
  Calls Tryz.prog 11 #[.pointer (some ⟨F.pm, 0, none⟩), .agg (e.cells tv).toArray] w fun r w' => r = .returned (.bool true) ∧ G w' ∧ But X w w' := by
 have HP := hI_ hp
 have HA := hI_ ha
 have b0 := (Below.refl w.heap.size w).alloc (Nat.le_refl _) (.cells (e.cells tv).toArray 31)
 have HE := hI_ (aa w (e.cells tv) 31)
 have BB_1 := hI_ b0
 clear b0 hp ha
 go_enter Tryz.func11, Tryz.ntmps11
 go_wp2_with (refine ldA rfl 31 _ rfl w.heap.size (by rfl) _ _ HE.out _ Tryz.underlying31 rfl ai ?_)
 refine (HP.out _ BB_1.out).mono ?_
 rintro r w2 ⟨⟨u, rfl, ou⟩, b2⟩
 obtain ⟨ua, un, uc, rfl⟩ := ou.form
 have BB_2 : Hid (Below w.heap.size w w2) := BB_1.out.trans (b2.mono BB_1.out.size)
 have V2 := aa w2 ([.int .u8 0, .int .u64 0, .int .i64 0, .int .i64 0, .int .i64 0, .int .i64 0, .int .i64 0, .int .i64 0, .int .i64 0, .int .i64 0, .slice none 0 0] : List Value) 31
 have B2 := (Below.refl w2.heap.size w2).alloc (Nat.le_refl _) (.cells #[.int .u8 0, .int .u64 0, .int .i64 0, .int .i64 0, .int .i64 0, .int .i64 0, .int .i64 0, .int .i64 0, .int .i64 0, .int .i64 0, .slice none 0 0] 31)
 have HV_2 := hI_ V2
 have HO_2 : Hid (OwnT _ w.heap.size (.slice ua un uc) e.ts) := (ou.lower BB_1.out.size).step B2
 have BB_3 := hI_ (BB_2.out.trans (B2.mono BB_2.out.size))
 have s2 := BB_2.out.size
 clear b2 V2 B2 BB_1 ou HP HE
 go_upto_region 2 with (refine stA rfl 31 _ _ rfl w2.heap.size (by rfl) ([.int .u8 0, .int .u64 0, .int .i64 0, .int .i64 0, .int .i64 0, .int .i64 0, .int .i64 0, .int .i64 0, .int .i64 0, .int .i64 0, .slice none 0 0] : List Value) (e.cells (.slice ua un uc)) (by rfl) 31 HV_2.out ai rfl (EV.one e ⟨ua, un, uc, rfl⟩) ?_; intro w3 v3 u3)
 have BB_4 : Hid (Below w.heap.size w w3) := u3.bel BB_3.out s2
 have HV_3 := hI_ v3
 have HO_3 : Hid (OwnT w3 w.heap.size (.slice ua un uc) e.ts) := OwnT.updV HO_2.out HV_2.out (by decide) u3
 clear v3 u3 HV_2 HO_2 BB_2 BB_3
 go_wp2_with (refine iF (by rfl) 31 _ rfl w2.heap.size (by rfl) _ _ HV_3.out _ Tryz.underlying31 rfl ai ?_)
 refine (HA.out w3 _ BB_4.out HO_3.out).mono ?_
 rintro r w4 ⟨rfl, g4, k4⟩
 go_wp2_with fail
 exact bodyPost_ret (v := .bool true) (by simp [results, Tryz.results11, go_sem]) rfl ⟨rfl, g4, k4⟩
def bank0 (d : Int) : PM := ⟨d, [], [], [], fun _ _ => 0, 0, [], false, 0, 0, 0⟩
set_option maxRecDepth 100000 in
theorem rY (w : World) (d : Int) (h1 : 1 ≤ d) (h2 : d ≤ 3652059) : Calls Tryz.prog 27 #[.int .i64 d] w fun e w' => ∃ F : FB, e = .returned (.tuple #[.pointer (some ⟨F.pm, 0, none⟩), .int .i64 0]) ∧ MD w' w.heap.size F (bank0 d) ∧ F.sv = .slice none 0 0 ∧ F.ab = [] ∧ Below w.heap.size w w' := by
 have hmm := @run_makeMap Tryz.prog
 go_enter Tryz.func27, Tryz.ntmps27
 go_wp2_with fail
 refine (kI d w h1 h2).mono ?_
 rintro e wq ⟨rfl, hq⟩
 obtain rfl := hq.symm
 clear hq
 go_wp2_with fail
 refine (pn w).mono ?_
 rintro e w1 ⟨⟨pc, rfl, C⟩, b1⟩
 obtain ⟨_, _, _, bm, sv, n, f, a1, a2, a3, a4, a5, a6, a7, a8⟩ := id C
 have HC := hI_ C
 have HV : Hid (VA w1 pc [.map (some bm), sv] 154) := a1
 have HB : Hid (bm < w1.heap.size ∧ w.heap.size ≤ bm) := ⟨by obtain ⟨es, c, e⟩ := mo a4; exact (Array.getElem?_eq_some_iff.1 e).1, a3⟩
 have BB_1 := hI_ b1
 clear C a1 a2 a3 a4 a5 a6 a7 a8 b1
 have A1 := hI_ (fZ KR encI w1)
 have B1 := hI_ ((Below.refl w1.heap.size w1).alloc (Nat.le_refl _) (.map #[] 0))
 go_wp2_with fail
 refine (rj _).mono ?_
 rintro e w2 ⟨⟨pl, ml, rfl, l1, l2, L⟩, b2⟩
 have s1 := BB_1.out.size
 have s2 := b2.size
 rw [World.size_alloc] at l1 l2 s2
 have HL := hI_ L
 have B2 : Hid (Below w1.heap.size w1 w2) := B1.out.trans (b2.mono (by simp))
 have A2 := hI_ (A1.out.step b2)
 have A3 := hI_ (fZ KU encS w2)
 have V3 := aa (w2.alloc (.map #[] 0)) [.int .i64 d, .pointer (some ⟨pc, 0, none⟩), .slice none 0 0, .map (some w1.heap.size), .pointer (some ⟨pl, 0, none⟩), .map (some w2.heap.size), .bool false, .int .i64 0, .int .i64 0, .int .i64 0] 100
 rw [World.size_alloc] at V3
 have HV3 := hI_ V3
 have B3 := hI_ (((Below.refl w2.heap.size w2).alloc (Nat.le_refl _) (.map #[] 0)).alloc (by simp) (.cells #[.int .i64 d, .pointer (some ⟨pc, 0, none⟩), .slice none 0 0, .map (some w1.heap.size), .pointer (some ⟨pl, 0, none⟩), .map (some w2.heap.size), .bool false, .int .i64 0, .int .i64 0, .int .i64 0] 100))
 have b3 := (Below.refl (w2.alloc (.map #[] 0)).heap.size (w2.alloc (.map #[] 0))).alloc (Nat.le_refl _) (.cells #[.int .i64 d, .pointer (some ⟨pc, 0, none⟩), .slice none 0 0, .map (some w1.heap.size), .pointer (some ⟨pl, 0, none⟩), .map (some w2.heap.size), .bool false, .int .i64 0, .int .i64 0, .int .i64 0] 100)
 have A4 := hI_ (A3.out.step b3)
 have ml2 : ml < w2.heap.size := by obtain ⟨es, c, e⟩ := bW HL.out.map; exact (Array.getElem?_eq_some_iff.1 e).1
 clear b2 L V3 b3
 go_wp2_with fail
 have hb := HB.out
 refine bodyPost_ret (v := .tuple #[.pointer (some ⟨w2.heap.size + 1, 0, none⟩), .int .i64 0]) (by simp [results, Tryz.results27, go_sem]) rfl ⟨⟨w2.heap.size + 1, pc, bm, pl, ml, w1.heap.size, w2.heap.size, .slice none 0 0, []⟩, rfl, ⟨HV3.out, ⟨_, (HC.out.step B2.out).step B3.out⟩, ⟨sv, (HV.out.step B2.out).step B3.out⟩, HL.out.step B3.out, A2.out.step B3.out, A4.out, ji KP _ _, rfl, fun i a x ha _ => (by cases ha), ⟨by show _ ≤ w2.heap.size + 1; omega, by show _ ≤ pl; omega, by show _ ≤ ml; omega, by show _ ≤ w1.heap.size; omega, by show _ ≤ w2.heap.size; omega, fun x hx => (by cases hx)⟩, ?_, List.nodup_nil, ⟨⟨h1, h2⟩, fun a ha => (by cases ha), List.Pairwise.nil, by show 0 ≤ 256; decide, fun p hp => (by cases hp), ⟨by show (0 : Int) ≤ 0; decide, by show (0 : Int) ≤ _; decide⟩, ⟨⟨by show _ ≤ (0 : Int); decide, by show (0 : Int) ≤ _; decide⟩, ⟨by show _ ≤ (0 : Int); decide, by show (0 : Int) ≤ _; decide⟩⟩, fun k x hx => (by cases hx)⟩⟩, rfl, rfl, (BB_1.out.trans (B2.out.mono s1)).trans (B3.out.mono (by omega))⟩
 show [bm, ml, w1.heap.size, w2.heap.size].Nodup
 simp only [List.nodup_cons, List.mem_cons, List.not_mem_nil, or_false, not_or, not_false_eq_true, List.nodup_nil, and_true]
 omega
def closedA (a : PA) : PA := { a with opn := false, acc := 0 }
theorem PA.wf.closedA {a : PA} (h : a.wf) : (closedA a).wf := ⟨h.id, h.prod, h.cur, h.kind, h.bal, h.held, ⟨by show (0 : Int) ≤ 0; decide, by show (0 : Int) ≤ _; decide⟩, h.hs, h.hl, h.hv, h.sum⟩
set_option maxRecDepth 100000 in
theorem oD (w : World) (B : Nat) (F : FB) (M : PM) (hM : MD w B F M) (T : TBL w) (hB : 6 ≤ B) (e : EV) (tv : Value) (hop : e.op = 3) (i : Nat) (a : PA) (x : Nat × Nat) (hi : IsA F M i a x) (hid : a.id = e.n0)  :
  Calls Tryz.prog 55 #[.pointer (some ⟨F.pm, 0, none⟩), .agg (e.cells tv).toArray] w fun r w' => r = .returned (.tuple #[]) ∧ MD w' B F ({ M with al := M.al.set i (closedA a) }) ∧ But F.core w w' := by
 have b0 := (Below.refl w.heap.size w).alloc (Nat.le_refl _) (.cells (e.cells tv).toArray 31)
 have b1 := b0.alloc (by simp) (.cells #[.int .i64 0, .int .i64 0, .int .i64 0, .int .i64 0, .int .i64 0, .int .i64 0, .int .i64 0, .int .i64 0] 28)
 have V00 := aa w (e.cells tv) 31
 have V0 := V00.alloc (.cells #[.int .i64 0, .int .i64 0, .int .i64 0, .int .i64 0, .int .i64 0, .int .i64 0, .int .i64 0, .int .i64 0] 28)
 have hn0 := aa (w.alloc (.cells (e.cells tv).toArray 31)) ([.int .i64 0, .int .i64 0, .int .i64 0, .int .i64 0, .int .i64 0, .int .i64 0, .int .i64 0, .int .i64 0] : List Value) 28
 rw [World.size_alloc] at hn0
 have HN0 := hI_ hn0
 have y0 := V00.cell 2 (v := .int .i64 e.n0) rfl
 have y1 := V00.cell 3 (v := .int .i64 e.n1) rfl
 have y2 := V00.cell 4 (v := .int .i64 e.n2) rfl
 have y3 := V00.cell 5 (v := .int .i64 e.n3) rfl
 have y4 := V00.cell 6 (v := .int .i64 e.n4) rfl
 have y5 := V00.cell 7 (v := .int .i64 e.n5) rfl
 have y6 := V00.cell 8 (v := .int .i64 e.n6) rfl
 have y7 := V00.cell 9 (v := .int .i64 e.n7) rfl
 have HE0 := hI_ V0
 have HB0 := hI_ b1
 have HH : Hid (MD w B F M ∧ TBL w) := ⟨hM, T⟩
 have HQ : Hid (6 ≤ B ∧ ∀ j, F.core j → j < w.heap.size) := ⟨hB, fun j hj => hM.core_lt hj⟩
 have HOP : Hid (e.op = 3) := hop
 have H_hi := hI_ hi
 have H_hid := hI_ hid
 clear hi hid
 clear b0 b1 V00 V0 hn0 hM T hB hop
 go_enter Tryz.func55, Tryz.ntmps55
 go_upto_region 2 with (refine stA rfl 28 _ _ rfl (w.heap.size + 1) (by rfl) ([.int .i64 0, .int .i64 0, .int .i64 0, .int .i64 0, .int .i64 0, .int .i64 0, .int .i64 0, .int .i64 0] : List Value) [.int .i64 e.n0, .int .i64 e.n1, .int .i64 e.n2, .int .i64 e.n3, .int .i64 e.n4, .int .i64 e.n5, .int .i64 e.n6, .int .i64 e.n7] (by rfl) 28 HN0.out bp rfl (aI e) ?_; intro w1 hv1 hu1)
 have hb1 := hu1.bel HB0.out (by omega)
 have HM_1 : Hid (MD w1 B F M) := HH.out.1.step hb1
 have HT_1 : Hid (TBL w1) := HH.out.2.step hb1
 have BB_1 := hI_ hb1
 have HE_1 : Hid (VA w1 w.heap.size (e.cells tv) 31) := HE0.out.upd hu1 (by omega)
 have HN_1 : Hid (VA w1 (w.heap.size + 1) [.int .i64 e.n0, .int .i64 e.n1, .int .i64 e.n2, .int .i64 e.n3, .int .i64 e.n4, .int .i64 e.n5, .int .i64 e.n6, .int .i64 e.n7] 28) := hv1
 have y : w1.cell? ⟨w.heap.size, 0, none⟩ = some (.int .u8 3) := by have := HE_1.out.cell 0 (v := .int .u8 (e.op : Int)) rfl; rw [HOP.out] at this; exact this
 clear hb1 hv1 hu1 HN0 HE0 HB0 HH y0 y1 y2 y3 y4 y5 y6 y7
 have m0 := HN_1.out.cell 0 (v := .int .i64 e.n0) rfl
 have HV_1 : Hid (VA w1 x.1 (a.cells x.2) 85) := HM_1.out.aw H_hi.out
 have f4 := HV_1.out.free 4
 have c4 := HV_1.out.cell 4 (v := .bool a.opn) rfl
 have c7 := HV_1.out.cell 7 (v := .int .i64 a.acc) rfl
 have hbk := HV_1.out.blk
 have HV_2 := hI_ (HV_1.out.set 4 (.bool false))
 have f7 := HV_2.out.free 7
 have hbk2 := HV_2.out.blk
 have HV_3 : Hid (VA ((w1.setCell ⟨x.1, 4, none⟩ (.bool false)).setCell ⟨x.1, 7, none⟩ (.int .i64 0)) x.1 ((closedA a).cells x.2) 85) := HV_2.out.set 7 (.int .i64 0)
 have HU := hI_ ((ax w1 x.1 4 (.bool false)).trans (ax (w1.setCell ⟨x.1, 4, none⟩ (.bool false)) x.1 7 (.int .i64 0)))
 have HM_4 := hI_ (HM_1.out.setA1 H_hi.out HU.out HV_3.out rfl (HM_1.out.awf H_hi.out).closedA rfl)
 have HB_4 : Hid (But F.core w _) := (af BB_1.out F.core).trans HU.out.but (fun j _ hj => fP H_hi.out.x (Or.inl hj))
 go_wp2_with fail
 refine (bN w1 B F M HM_1.out H_hi.out H_hid.out).mono ?_
 rintro r w2 ⟨rfl, hq⟩
 obtain rfl := hq.symm
 clear hq
 go_wp2_with fail
 exact bodyPost_end (v := .tuple #[]) (by simp [results, Tryz.results55, go_sem]) rfl ⟨rfl, HM_4.out, HB_4.out⟩
set_option maxRecDepth 100000 in
theorem mV (w : World) (B : Nat) (F : FB) (M : PM) (hM : MD w B F M) (T : TBL w) (hB : 6 ≤ B) (e : EV) (tv : Value) (hop : e.op = 11) (hc : 0 ≤ e.n0 ∧ e.n0 ≤ 3) (hu : 0 ≤ e.n1 ∧ e.n1 ≤ 3) (hr : 1 ≤ e.n2 ∧ e.n2 ≤ 1000000000000) (hl : M.rates.length < 1000000000000) :
  Calls Tryz.prog 55 #[.pointer (some ⟨F.pm, 0, none⟩), .agg (e.cells tv).toArray] w fun r w' => r = .returned (.tuple #[]) ∧ MD w' B F ({ M with rates := ((e.n0, e.n1), e.n2) :: M.rates }) ∧ But F.core w w' := by
 have b0 := (Below.refl w.heap.size w).alloc (Nat.le_refl _) (.cells (e.cells tv).toArray 31)
 have b1 := b0.alloc (by simp) (.cells #[.int .i64 0, .int .i64 0, .int .i64 0, .int .i64 0, .int .i64 0, .int .i64 0, .int .i64 0, .int .i64 0] 28)
 have V00 := aa w (e.cells tv) 31
 have V0 := V00.alloc (.cells #[.int .i64 0, .int .i64 0, .int .i64 0, .int .i64 0, .int .i64 0, .int .i64 0, .int .i64 0, .int .i64 0] 28)
 have hn0 := aa (w.alloc (.cells (e.cells tv).toArray 31)) ([.int .i64 0, .int .i64 0, .int .i64 0, .int .i64 0, .int .i64 0, .int .i64 0, .int .i64 0, .int .i64 0] : List Value) 28
 rw [World.size_alloc] at hn0
 have HN0 := hI_ hn0
 have y0 := V00.cell 2 (v := .int .i64 e.n0) rfl
 have y1 := V00.cell 3 (v := .int .i64 e.n1) rfl
 have y2 := V00.cell 4 (v := .int .i64 e.n2) rfl
 have y3 := V00.cell 5 (v := .int .i64 e.n3) rfl
 have y4 := V00.cell 6 (v := .int .i64 e.n4) rfl
 have y5 := V00.cell 7 (v := .int .i64 e.n5) rfl
 have y6 := V00.cell 8 (v := .int .i64 e.n6) rfl
 have y7 := V00.cell 9 (v := .int .i64 e.n7) rfl
 have HE0 := hI_ V0
 have HB0 := hI_ b1
 have HH : Hid (MD w B F M ∧ TBL w) := ⟨hM, T⟩
 have HQ : Hid (6 ≤ B ∧ ∀ j, F.core j → j < w.heap.size) := ⟨hB, fun j hj => hM.core_lt hj⟩
 have HOP : Hid (e.op = 11) := hop
 have H_hc := hI_ hc
 have H_hu := hI_ hu
 have H_hr := hI_ hr
 have H_hl := hI_ hl
 clear hc hu hr hl
 clear b0 b1 V00 V0 hn0 hM T hB hop
 go_enter Tryz.func55, Tryz.ntmps55
 go_upto_region 2 with (refine stA rfl 28 _ _ rfl (w.heap.size + 1) (by rfl) ([.int .i64 0, .int .i64 0, .int .i64 0, .int .i64 0, .int .i64 0, .int .i64 0, .int .i64 0, .int .i64 0] : List Value) [.int .i64 e.n0, .int .i64 e.n1, .int .i64 e.n2, .int .i64 e.n3, .int .i64 e.n4, .int .i64 e.n5, .int .i64 e.n6, .int .i64 e.n7] (by rfl) 28 HN0.out bp rfl (aI e) ?_; intro w1 hv1 hu1)
 have hb1 := hu1.bel HB0.out (by omega)
 have HM_1 : Hid (MD w1 B F M) := HH.out.1.step hb1
 have HT_1 : Hid (TBL w1) := HH.out.2.step hb1
 have BB_1 := hI_ hb1
 have HE_1 : Hid (VA w1 w.heap.size (e.cells tv) 31) := HE0.out.upd hu1 (by omega)
 have HN_1 : Hid (VA w1 (w.heap.size + 1) [.int .i64 e.n0, .int .i64 e.n1, .int .i64 e.n2, .int .i64 e.n3, .int .i64 e.n4, .int .i64 e.n5, .int .i64 e.n6, .int .i64 e.n7] 28) := hv1
 have y : w1.cell? ⟨w.heap.size, 0, none⟩ = some (.int .u8 11) := by have := HE_1.out.cell 0 (v := .int .u8 (e.op : Int)) rfl; rw [HOP.out] at this; exact this
 clear hb1 hv1 hu1 HN0 HE0 HB0 HH y0 y1 y2 y3 y4 y5 y6 y7
 go_upto_region 25 with fail
 clear y
 refine wp_region_noPanic ?_
 refine wp_region_held_drew (S := fun V => VA V (w.heap.size + 1) [.int .i64 e.n0, .int .i64 e.n1, .int .i64 e.n2, .int .i64 e.n3, .int .i64 e.n4, .int .i64 e.n5, .int .i64 e.n6, .int .i64 e.n7] 28 ∧ VA V F.pm (mcells F M) 100) (by kernel_rfl) (⟨HN_1.out.drew, HM_1.out.va.drew⟩) ?_
 intro hHeld
 have bz := (Below.refl w1.heap.size w1).drew
 have HM_z := hI_ (HM_1.out.step bz)
 have HT_z := hI_ (HT_1.out.step bz)
 have HN_z := hI_ (HN_1.out.step bz)
 have BB_z := hI_ (BB_1.out.trans (bz.mono BB_1.out.size))
 generalize w1.drew = wz at *
 clear bz
 refine tK 0 127 (.pointer (some ⟨F.pm, 0, none⟩)) (by exact rfl) (Or.inl ⟨by rfl, ?_⟩) ?_
 ·intro wq hS
  go_simp
 try simp only [nrm]
 refine tK 1 128 (.pointer (some ⟨F.pm, 0, none⟩)) (by exact rfl) (Or.inl ⟨by rfl, ?_⟩) ?_
 ·intro wq hS
  go_simp
 try simp only [nrm]
 refine tK 2 129 (.pointer (some ⟨F.pm, 3, none⟩)) (by exact rfl) (Or.inl ⟨by rfl, ?_⟩) ?_
 ·intro wq hS
  go_simp
 try simp only [nrm]
 refine tK 3 130 (.map (some F.rm)) (by exact rfl) (Or.inl ⟨by rfl, ?_⟩) ?_
 ·intro wq hS
  have c := VA.cell hS.2 3 (v := .map (some F.rm)) rfl
  go_simp
 try simp only [nrm]
 refine tK 4 131 (.pointer (some ⟨w.heap.size + 1, 0, none⟩)) (by exact rfl) (Or.inl ⟨by rfl, ?_⟩) ?_
 ·intro wq hS
  go_simp
 try simp only [nrm]
 refine tK 5 132 (.int .i64 e.n0) (by exact rfl) (Or.inl ⟨by rfl, ?_⟩) ?_
 ·intro wq hS
  have c := VA.cell hS.1 0 (v := .int .i64 e.n0) rfl
  go_simp
 try simp only [nrm]
 refine tK 6 133 (.pointer (some ⟨w.heap.size + 1, 1, none⟩)) (by exact rfl) (Or.inl ⟨by rfl, ?_⟩) ?_
 ·intro wq hS
  go_simp
 try simp only [nrm]
 refine tK 7 134 (.int .i64 e.n1) (by exact rfl) (Or.inl ⟨by rfl, ?_⟩) ?_
 ·intro wq hS
  have c := VA.cell hS.1 1 (v := .int .i64 e.n1) rfl
  go_simp
 try simp only [nrm]
 refine tK 8 135 (.agg #[.int .i64 e.n0, .int .i64 e.n1]) (by exact rfl) (Or.inl ⟨by rfl, ?_⟩) ?_
 ·intro wq hS
  go_simp
 try simp only [nrm]
 refine tK 9 136 (.pointer (some ⟨w.heap.size + 1, 2, none⟩)) (by exact rfl) (Or.inl ⟨by rfl, ?_⟩) ?_
 ·intro wq hS
  go_simp
 try simp only [nrm]
 refine tK 10 137 (.int .i64 e.n2) (by exact rfl) (Or.inl ⟨by rfl, ?_⟩) ?_
 ·intro wq hS
  have c := VA.cell hS.1 2 (v := .int .i64 e.n2) rfl
  go_simp
 try simp only [nrm]
 clear hHeld
 refine rdy 11 (fun K hK => ?_)
 refine ww (by rfl) _ _ _ 94 rfl KR encI 2 Tryz.underlying94 F.rm M.rates (by rfl) HM_z.out.rts (by have := H_hl.out; unfold maxLen; omega) (e.n0, e.n1) e.n2 (by rfl) (by rfl) ⟨⟨by have := H_hc.out.1; simp only; omega, by have := H_hc.out.2; simp only; omega⟩, ⟨by have := H_hu.out.1; simp only; omega, by have := H_hu.out.2; simp only; omega⟩⟩ ?_
 intro w4 am tn
 have HM_4 := (show Hid (MD w4 B F { M with rates := ((e.n0, e.n1), e.n2) :: M.rates }) from HM_z.out.setR (aP tn) am (fun p hp => by
  rcases List.mem_cons.1 hp with rfl | hp
  ·exact ⟨H_hc.out, H_hu.out, H_hr.out⟩
  ·exact HM_z.out.wf.rats p hp))
 have HN_4 : Hid (VA w4 (w.heap.size + 1) [.int .i64 e.n0, .int .i64 e.n1, .int .i64 e.n2, .int .i64 e.n3, .int .i64 e.n4, .int .i64 e.n5, .int .i64 e.n6, .int .i64 e.n7] 28) := HN_z.out.but (aP tn) (fun hj => by have := HQ.out.2 _ (show F.core F.rm from Or.inr (Or.inr (Or.inr (Or.inl rfl)))); omega)
 have HB_4 : Hid (But F.core w w4) := (af BB_z.out F.core).trans (aP tn) (fun j _ hj => Or.inr (Or.inr (Or.inr (Or.inl hj))))
 clear am tn
 refine hK.out _ _ ⟨HN_4.out, HM_4.out.va⟩ (fun hHeld => ?_)
 try simp only [nrm]
 clear hK K hHeld
 refine wpAnyH_done (by kernel_rfl) ?_ _
 refine NoPanic.normal ?_
 go_wp2_with fail
 exact bodyPost_end (v := .tuple #[]) (by simp [results, Tryz.results55, go_sem]) rfl ⟨rfl, HM_4.out, HB_4.out⟩
theorem wth_0 {l e : Int} : wth l e = 0 ↔ l = 0 ∧ e = 0 := by
 unfold wth
 constructor
 ·intro h
  split at h
  ·rename_i c; exact absurd h c.1
  ·rename_i c
   subst h
   refine ⟨rfl, ?_⟩
   by_cases he : e = 0
   ·exact he
   ·exact absurd ⟨he, Or.inl rfl⟩ c
 ·rintro ⟨rfl, rfl⟩
  simp
theorem aO {l e : Int} {b : Bool} (he : e ≠ 0) : whn l b e = 0 ↔ l = 0 ∧ b = false := by
 unfold whn
 cases b
 ·simp
 ·simp [wth_0, he]
theorem namedK_0 {M : PM} {l id k : Int} : namedK M l id k = 0 ↔ l = 0 ∧ ∃ a, acctO M id = some a ∧ a.opn = true ∧ (k = 0 ∨ a.kind = k) := by
 unfold namedK
 cases h : acctO M id with
 | none => simp [wth_0]
 | some a =>
  simp only [Option.some.injEq, exists_eq_left']
  rw [aO (by decide), aO (by decide)]
  constructor
  ·rintro ⟨⟨h1, h2⟩, h3⟩
   refine ⟨h1, by simpa using h2, ?_⟩
   by_cases hk : k = 0
   ·exact Or.inl hk
   ·right
    simpa [hk] using h3
  ·rintro ⟨h1, h2, h3⟩
   refine ⟨⟨h1, by simp [h2]⟩, ?_⟩
   rcases h3 with h3 | h3 <;> simp [h3]
theorem beyond_0 {n g : Int} : beyond n g = false ↔ 1 ≤ n ∧ n ≤ g := by
 unfold beyond
 rw [decide_eq_false_iff_not]
 omega
def onA (al : List PA) (id : Int) (f : PA → PA) : List PA := al.map fun a => if a.id = id then f a else a
theorem ei {al : List PA} (hs : al.Pairwise fun a b => a.id < b.id) {i : Nat} {a : PA} (ha : al[i]? = some a) {id : Int} (hid : a.id = id) (f : PA → PA) : al.set i (f a) = onA al id f := by
 refine List.ext_getElem? (fun j => ?_)
 unfold onA
 rw [List.getElem?_map, List.getElem?_set]
 obtain ⟨hl, e⟩ := List.getElem?_eq_some_iff.1 ha
 split
 ·rename_i hij
  subst hij
  rw [ha]
  simp [hid]
 ·rename_i hij
  cases hb : al[j]? with
  | none => rfl
  | some b =>
   obtain ⟨hl2, e2⟩ := List.getElem?_eq_some_iff.1 hb
   have hne : b.id ≠ id := by
    rw [← hid]
    rcases Nat.lt_or_gt_of_ne hij with h | h
    ·have := List.pairwise_iff_getElem.1 hs i j hl hl2 h
     rw [e, e2] at this
     omega
    ·have := List.pairwise_iff_getElem.1 hs j i hl2 hl h
     rw [e, e2] at this
     omega
   simp [hne]
theorem qf {al : List PA} (hs : al.Pairwise fun a b => a.id < b.id) {i : Nat} {a a' : PA} (ha : al[i]? = some a) (hid : a'.id = a.id) : (al.set i a').Pairwise fun a b => a.id < b.id := by
 have h1 : (al.map (·.id)).Pairwise (· < ·) := List.pairwise_map.2 hs
 rw [← mg ha hid] at h1
 exact List.pairwise_map.1 h1
def addB (n : Int) (a : PA) : PA := setB a (a.bal + n)
theorem sd {al : List PA} (hs : al.Pairwise fun a b => a.id < b.id) {i j : Nat} {a b : PA} (ha : al[i]? = some a) (hb : al[j]? = some b) (hij : i ≠ j) {p q : Int} (hp : a.id = p) (hq : b.id = q) (n m : Int) : (al.set i (addB n a)).set j (addB m b) = onA (onA al p (addB n)) q (addB m) := by
 have h1 : (al.set i (addB n a))[j]? = some b := by rw [List.getElem?_set_ne hij]; exact hb
 rw [ei (qf (a' := addB n a) hs ha rfl) h1 hq (addB m), ei hs ha hp (addB n)]
def curA (M : PM) (id : Int) : Int := ((acctO M id).map (·.cur)).getD 0
def cshM (M : PM) (id n : Int) : PM := { M with al := onA M.al id (addB n), b := pstB M.b (curA M id) 1 2 n, n := pstN M.b M.n (curA M id) 1 2 n }
def dblM (M : PM) (id n id2 m d c v : Int) : PM := { M with al := onA (onA M.al id (addB n)) id2 (addB m), b := pstB M.b (curA M id) d c v, n := pstN M.b M.n (curA M id) d c v }
def chg (M : PM) (e : EV) : PM :=
 if e.op = 1 then { M with vs := M.vs ++ [e.pv] } else
 if e.op = 2 then { M with al := M.al.take (plc M.al e.n0) ++ newA M e.n0 e.n1 :: M.al.drop (plc M.al e.n0) } else
 if e.op = 3 then { M with al := onA M.al e.n0 closedA } else
 if e.op = 4 then cshM M e.n0 e.n1 else
 if e.op = 5 then cshM M e.n0 (-e.n1) else
 if e.op = 6 then dblM M e.n0 (-e.n2) e.n1 e.n2 2 2 e.n2 else
 if e.op = 7 then { M with al := onA M.al e.n0 fun a => heldA a e.n1 e.n2 } else
 if e.op = 8 then { M with al := onA M.al e.n0 fun a => freedA a e.n1 ((lkA a.hs e.n1).getD 0) } else
 if e.op = 9 then dblM M e.n0 e.n2 e.n1 e.n2 3 2 e.n2 else
 if e.op = 10 then dblM M e.n0 (-e.n2) e.n1 (-e.n2) 3 2 (-e.n2) else
 if e.op = 11 then { M with rates := ((e.n0, e.n1), e.n2) :: M.rates } else M
theorem eJ {P : PM → Prop} (M : PM) (e : EV) (h1 : e.op = 1 → P { M with vs := M.vs ++ [e.pv] }) (h2 : e.op = 2 → P { M with al := M.al.take (plc M.al e.n0) ++ newA M e.n0 e.n1 :: M.al.drop (plc M.al e.n0) }) (h3 : e.op = 3 → P { M with al := onA M.al e.n0 closedA }) (h4 : e.op = 4 → P (cshM M e.n0 e.n1)) (h5 : e.op = 5 → P (cshM M e.n0 (-e.n1))) (h6 : e.op = 6 → P (dblM M e.n0 (-e.n2) e.n1 e.n2 2 2 e.n2)) (h7 : e.op = 7 → P { M with al := onA M.al e.n0 fun a => heldA a e.n1 e.n2 }) (h8 : e.op = 8 → P { M with al := onA M.al e.n0 fun a => freedA a e.n1 ((lkA a.hs e.n1).getD 0) }) (h9 : e.op = 9 → P (dblM M e.n0 e.n2 e.n1 e.n2 3 2 e.n2)) (h10 : e.op = 10 → P (dblM M e.n0 (-e.n2) e.n1 (-e.n2) 3 2 (-e.n2))) (h11 : e.op = 11 → P { M with rates := ((e.n0, e.n1), e.n2) :: M.rates }) (h0 : ¬ (1 ≤ e.op ∧ e.op ≤ 11) → P M) : P (chg M e) := by
 unfold chg
 by_cases k1 : e.op = 1
 ·rw [if_pos k1]; exact h1 k1
 rw [if_neg k1]
 by_cases k2 : e.op = 2
 ·rw [if_pos k2]; exact h2 k2
 rw [if_neg k2]
 by_cases k3 : e.op = 3
 ·rw [if_pos k3]; exact h3 k3
 rw [if_neg k3]
 by_cases k4 : e.op = 4
 ·rw [if_pos k4]; exact h4 k4
 rw [if_neg k4]
 by_cases k5 : e.op = 5
 ·rw [if_pos k5]; exact h5 k5
 rw [if_neg k5]
 by_cases k6 : e.op = 6
 ·rw [if_pos k6]; exact h6 k6
 rw [if_neg k6]
 by_cases k7 : e.op = 7
 ·rw [if_pos k7]; exact h7 k7
 rw [if_neg k7]
 by_cases k8 : e.op = 8
 ·rw [if_pos k8]; exact h8 k8
 rw [if_neg k8]
 by_cases k9 : e.op = 9
 ·rw [if_pos k9]; exact h9 k9
 rw [if_neg k9]
 by_cases k10 : e.op = 10
 ·rw [if_pos k10]; exact h10 k10
 rw [if_neg k10]
 by_cases k11 : e.op = 11
 ·rw [if_pos k11]; exact h11 k11
 rw [if_neg k11]
 exact h0 (by omega)
theorem cE (M : PM) (e : EV) : (chg M e).seq = M.seq := eJ (P := fun X => X.seq = M.seq) M e (fun _ => rfl) (fun _ => rfl) (fun _ => rfl) (fun _ => rfl) (fun _ => rfl) (fun _ => rfl) (fun _ => rfl) (fun _ => rfl) (fun _ => rfl) (fun _ => rfl) (fun _ => rfl) (fun _ => rfl)
theorem dN (M : PM) (e : EV) : (chg M e).keys = M.keys := eJ (P := fun X => X.keys = M.keys) M e (fun _ => rfl) (fun _ => rfl) (fun _ => rfl) (fun _ => rfl) (fun _ => rfl) (fun _ => rfl) (fun _ => rfl) (fun _ => rfl) (fun _ => rfl) (fun _ => rfl) (fun _ => rfl) (fun _ => rfl)
theorem fj (b : Int → Int → Int) (m cur d c n : Int) : m ≤ pstN b m cur d c n ∧ pstN b m cur d c n ≤ m + 1 := by
 unfold pstN
 split
 ·omega
 ·unfold pcnt
  split <;> omega
theorem vK (M : PM) (e : EV) : M.n ≤ (chg M e).n ∧ (chg M e).n ≤ M.n + 1 := by
 have h : M.n ≤ M.n ∧ M.n ≤ M.n + 1 := by omega
 exact eJ (P := fun X => M.n ≤ X.n ∧ X.n ≤ M.n + 1) M e (fun _ => h) (fun _ => h) (fun _ => h) (fun _ => fj _ _ _ _ _ _) (fun _ => fj _ _ _ _ _ _) (fun _ => fj _ _ _ _ _ _) (fun _ => h) (fun _ => h) (fun _ => fj _ _ _ _ _ _) (fun _ => fj _ _ _ _ _ _) (fun _ => h) (fun _ => h)
theorem mX (M : PM) (e : EV) : (chg M e).rates.length ≤ M.rates.length + 1 := by
 have h : M.rates.length ≤ M.rates.length + 1 := by omega
 exact eJ (P := fun X => X.rates.length ≤ M.rates.length + 1) M e (fun _ => h) (fun _ => h) (fun _ => h) (fun _ => h) (fun _ => h) (fun _ => h) (fun _ => h) (fun _ => h) (fun _ => h) (fun _ => h) (fun _ => by simp) (fun _ => h)
theorem qB (ks : List (Nat × Unit)) (k : Nat) : (useL ks k).length ≤ ks.length + 1 := by
 unfold useL
 split <;> simp
def nxt (M : PM) (e : EV) : PM := { chg M e with keys := useL (chg M e).keys e.key, seq := (chg M e).seq + 1 }
theorem gh {M : PM} (h : M.cnt) (hs : M.seq < 1000000000) (e : EV) : (nxt M e).cnt := by
 obtain ⟨h1, h2, h3, h4⟩ := h
 have a1 := mX M e
 have a2 := vK M e
 have a3 := qB (chg M e).keys e.key
 rw [dN] at a3
 refine ⟨?_, ?_, ?_, ?_⟩
 ·show ((chg M e).rates.length : Int) ≤ (chg M e).seq + 1
  rw [cE]; omega
 ·show ((useL (chg M e).keys e.key).length : Int) ≤ (chg M e).seq + 1
  rw [cE, dN]; omega
 ·show 0 ≤ (chg M e).n ∧ (chg M e).n ≤ 2 * ((chg M e).seq + 1)
  rw [cE]; omega
 ·show 0 ≤ (chg M e).seq + 1 ∧ (chg M e).seq + 1 ≤ 1000000000
  rw [cE]; omega
theorem pP {M : PM} {e : EV} {f : Bool} (h : refL M e f = 0) : f = true ∧ ¬ (e.op = 12 ∧ e.n3 ≠ 0) ∧ ofDay e.op = false ∧ usedK M e.key = false ∧ M.uw = false ∧ askL M 0 e = 0 := by
 unfold refL at h
 split at h
 ·cases h
 ·rename_i h1
  split at h
  ·cases h
  ·rename_i h2
   split at h
   ·cases h
   ·rename_i h3
    split at h
    ·cases h
    ·rename_i h4
     refine ⟨by cases f <;> simp_all, fun h5 => h1 (Or.inr h5), by simpa using h2, by simpa using h3, by simpa using h4, h⟩
theorem jj {M : PM} {e : EV} {f : Bool} (h1 : f = true) (h2 : ¬ (e.op = 12 ∧ e.n3 ≠ 0)) (h3 : ofDay e.op = false) (h4 : usedK M e.key = false) (h5 : M.uw = false) : refL M e f = askL M 0 e := by
 unfold refL
 rw [if_neg (by simp [h1]; intro a; exact Classical.not_not.1 (fun b => h2 ⟨a, b⟩)), if_neg (by simp [h3]), if_neg (by simp [h4]), if_neg (by simp [h5])]
theorem qD (n : Int) (h : -9223372036854775808 ≤ n ∧ n ≤ 9223372036854775807) : wrap64 n = n := by unfold wrap64; omega
theorem jl {a : PA} {n : Int} (hw : a.wf) (h1 : -10000000000000 ≤ n) (h2 : n ≤ 10000000000000) (h : roomO (some a) n = false) : a.bal + n ≤ 10000000000000 := by
 have hb := hw.bal
 unfold roomO at h
 rw [decide_eq_false_iff_not, qD _ ⟨by omega, by omega⟩] at h
 omega
theorem fc {M : PM} {a : PA} {n : Int} (h : fundsO M (some a) n = false) : n ≤ a.bal + (ver M a.prod).lim - a.held := by
 unfold fundsO spend at h
 rw [decide_eq_false_iff_not] at h
 omega
theorem rE {vs : List PV} {id day : Int} {x : PV} (h : hold vs id day = some x) : x.id = id := by
 unfold hold at h
 have := List.find?_some h
 rw [decide_eq_true_iff] at this
 exact this.1
theorem s9 {w : World} {B : Nat} {F : FB} {M : PM} (h : MD w B F M) {id p : Int} (hi : 1 ≤ id ∧ id ≤ 1000000000) (hv : (verO M p).isSome = true) : (newA M id p).wf := by
 obtain ⟨S, hC⟩ := h.cat
 obtain ⟨x, hx⟩ := Option.isSome_iff_exists.1 hv
 have hm := hC.fine x (jI hx)
 have hid := rE hx
 have e : ver M p = x := by unfold ver; rw [hx]; rfl
 unfold chk at hm
 split at hm
 ·rename_i h1
  unfold PV.inr wi at h1
  simp only [Bool.and_eq_true, decide_eq_true_iff] at h1
  unfold newA
  rw [e]
  refine ⟨hi, by rw [← hid]; exact h1.1.1.1.1.1.1.1, h1.1.1.1.1.1.2, h1.1.1.1.1.1.1.2, ⟨by show _ ≤ (0 : Int); decide, by show (0 : Int) ≤ _; decide⟩, ⟨by show _ ≤ (0 : Int); decide, by show (0 : Int) ≤ _; decide⟩, ⟨by show _ ≤ (0 : Int); decide, by show (0 : Int) ≤ _; decide⟩, List.Pairwise.nil, by show 0 ≤ 64; decide, fun q hq => (by cases hq), rfl⟩
 ·cases hm
theorem sq {al : List PA} (hs : al.Pairwise fun a b => a.id < b.id) {id : Int} (h : plc al id = al.length) : ∀ b ∈ al, b.id < id := by
 intro b hb
 obtain ⟨i, hi⟩ := List.getElem?_of_mem hb
 exact (eQ hs hi id).2 (by rw [h]; exact (List.getElem?_eq_some_iff.1 hi).1)
theorem oQ {M : PM} {id : Int} {a : PA} (h : acctO M id = some a) : curA M id = a.cur := by unfold curA; rw [h]; rfl
theorem lU {M : PM} (hs : M.al.Pairwise fun a b => a.id < b.id) {i : Nat} {a : PA} {id : Int} (ha : M.al[i]? = some a) (hid : a.id = id) (ho : acctO M id = some a) (n : Int) : cashM M i a n = cshM M id n := by
 unfold cashM cshM
 rw [oQ ho, ← ei hs ha hid (addB n)]
 rfl
theorem lN {M : PM} (hs : M.al.Pairwise fun a b => a.id < b.id) {i j : Nat} {a b : PA} {p q : Int} (ha : M.al[i]? = some a) (hb : M.al[j]? = some b) (hij : i ≠ j) (hp : a.id = p) (hq : b.id = q) (ho : acctO M p = some a) (n m d c v : Int) : twoM M i a (a.bal + n) j b (b.bal + m) d c v = dblM M p n q m d c v := by
 unfold twoM dblM
 rw [oQ ho, ← sd hs ha hb hij hp hq n m]
 rfl
theorem IsA.ne {F : FB} {M : PM} {i j : Nat} {a b : PA} {x y : Nat × Nat} (h : IsA F M i a x) (k : IsA F M j b y) (hn : a.id ≠ b.id) : i ≠ j := by
 rintro rfl
 have := h.a.symm.trans k.a
 injection this with this
 exact hn (by rw [this])
theorem vB (w : World) (B : Nat) (F : FB) (M : PM) (hM : MD w B F M) (T : TBL w) (hB : 6 ≤ B) (e : EV) (he : e.ok) (tv : Value) (R : Tr w tv e.ts) (hno : ∀ n c, tv = .slice none n c → c = 0) (hop : e.op = 1) (h : askL M 0 e = 0) (hc : 0 ≤ M.n ∧ M.n ≤ 4611686018427387904) (hl : M.rates.length < 1000000000000) :
  Calls Tryz.prog 55 #[.pointer (some ⟨F.pm, 0, none⟩), .agg (e.cells tv).toArray] w fun r w' => ∃ F', r = .returned (.tuple #[]) ∧ MD w' B F' (chg M e) ∧ F'.pm = F.pm ∧ F'.km = F.km ∧ But (F.reach w B) w w' := by
 rw [show askL M 0 e = wth 0 (addE M.vs e.pv) from by unfold askL; rw [if_pos hop]] at h
 have hw := hM.wf
 rw [show chg M e = { M with vs := M.vs ++ [e.pv] } from by unfold chg; rw [if_pos hop]]
 refine (oB w B F M hM T hB e tv hop he R hno (wth_0.1 h).2).mono ?_
 rintro r w' ⟨rfl, h1, h2⟩
 exact ⟨F, rfl, h1, rfl, rfl, h2⟩
theorem vC (w : World) (B : Nat) (F : FB) (M : PM) (hM : MD w B F M) (T : TBL w) (hB : 6 ≤ B) (e : EV) (he : e.ok) (tv : Value) (R : Tr w tv e.ts) (hno : ∀ n c, tv = .slice none n c → c = 0) (hop : e.op = 2) (h : askL M 0 e = 0) (hc : 0 ≤ M.n ∧ M.n ≤ 4611686018427387904) (hl : M.rates.length < 1000000000000) (hend : plc M.al e.n0 = M.al.length) :
  Calls Tryz.prog 55 #[.pointer (some ⟨F.pm, 0, none⟩), .agg (e.cells tv).toArray] w fun r w' => ∃ F', r = .returned (.tuple #[]) ∧ MD w' B F' (chg M e) ∧ F'.pm = F.pm ∧ F'.km = F.km ∧ But (F.reach w B) w w' := by
 rw [show askL M 0 e = openL M 0 e.n0 e.n1 from by unfold askL; rw [if_neg (by omega), if_pos hop]] at h
 have hw := hM.wf
 rw [show chg M e = { M with al := M.al.take (plc M.al e.n0) ++ newA M e.n0 e.n1 :: M.al.drop (plc M.al e.n0) } from by unfold chg; rw [if_neg (by omega), if_pos hop]]
 unfold openL at h
 rw [aO (by decide), aO (by decide), wth_0, aO (by decide)] at h
 obtain ⟨⟨⟨⟨_, k1⟩, k2⟩, k3⟩, k4⟩ := h
 have k1 := beyond_0.1 k1
 have k2 : (verO M e.n1).isSome = true := by
  cases hv : (verO M e.n1).isSome with
  | true => rfl
  | false => rw [hv] at k2; cases k2
 rw [decide_eq_false_iff_not] at k4
 refine (oC w B F M hM T hB e tv hop he.n0 hend (s9 hM k1 k2) (sq hw.sort hend) (by omega)).mono ?_
 rintro r w' ⟨v, q, hb, rfl, h1, h2, _, _⟩
 refine ⟨F.more v q hb, rfl, ?_, rfl, rfl, h2⟩
 rw [hend, List.take_length, List.drop_length]
 exact h1
theorem vD (w : World) (B : Nat) (F : FB) (M : PM) (hM : MD w B F M) (T : TBL w) (hB : 6 ≤ B) (e : EV) (he : e.ok) (tv : Value) (R : Tr w tv e.ts) (hno : ∀ n c, tv = .slice none n c → c = 0) (hop : e.op = 3) (h : askL M 0 e = 0) (hc : 0 ≤ M.n ∧ M.n ≤ 4611686018427387904) (hl : M.rates.length < 1000000000000) :
  Calls Tryz.prog 55 #[.pointer (some ⟨F.pm, 0, none⟩), .agg (e.cells tv).toArray] w fun r w' => ∃ F', r = .returned (.tuple #[]) ∧ MD w' B F' (chg M e) ∧ F'.pm = F.pm ∧ F'.km = F.km ∧ But (F.reach w B) w w' := by
 rw [show askL M 0 e = whn (namedK M 0 e.n0 0) (emptyO (acctO M e.n0)) 15 from by unfold askL; rw [if_neg (by omega), if_neg (by omega), if_pos hop]] at h
 have hw := hM.wf
 rw [show chg M e = { M with al := onA M.al e.n0 closedA } from by unfold chg; rw [if_neg (by omega), if_neg (by omega), if_pos hop]]
 rw [aO (by decide), namedK_0] at h
 obtain ⟨⟨_, a, ha, k1, k2⟩, k3⟩ := h
 obtain ⟨i, x, hi, hid, _⟩ := hM.acct ha
 rw [← ei hw.sort hi.a hid closedA]
 refine (oD w B F M hM T hB e tv hop i a x hi hid).mono ?_
 rintro r w' ⟨rfl, h1, h2⟩
 exact ⟨F, rfl, h1, rfl, rfl, h2.mono (fun j hj => Or.inl hj)⟩
theorem vE (w : World) (B : Nat) (F : FB) (M : PM) (hM : MD w B F M) (T : TBL w) (hB : 6 ≤ B) (e : EV) (he : e.ok) (tv : Value) (R : Tr w tv e.ts) (hno : ∀ n c, tv = .slice none n c → c = 0) (hop : e.op = 4) (h : askL M 0 e = 0) (hc : 0 ≤ M.n ∧ M.n ≤ 4611686018427387904) (hl : M.rates.length < 1000000000000) :
  Calls Tryz.prog 55 #[.pointer (some ⟨F.pm, 0, none⟩), .agg (e.cells tv).toArray] w fun r w' => ∃ F', r = .returned (.tuple #[]) ∧ MD w' B F' (chg M e) ∧ F'.pm = F.pm ∧ F'.km = F.km ∧ But (F.reach w B) w w' := by
 rw [show askL M 0 e = whn (namedK M (whn 0 (beyond e.n1 10000000000000) 1) e.n0 1) (roomO (acctO M e.n0) e.n1) 4 from by unfold askL; rw [if_neg (by omega), if_neg (by omega), if_neg (by omega), if_pos hop]] at h
 have hw := hM.wf
 rw [show chg M e = cshM M e.n0 e.n1 from by unfold chg; rw [if_neg (by omega), if_neg (by omega), if_neg (by omega), if_pos hop]]
 rw [aO (by decide), namedK_0, aO (by decide)] at h
 obtain ⟨⟨⟨_, k0⟩, a, ha, k1, k2⟩, k3⟩ := h
 have k0 := beyond_0.1 k0
 obtain ⟨i, x, hi, hid, _⟩ := hM.acct ha
 have wa := hM.awf hi
 have hb := wa.bal
 have hh := wa.held
 rw [ha] at k3
 have k3 := jl wa (by omega) (by omega) k3
 rw [← lU hw.sort hi.a hid ha]
 refine (oE w B F M hM T hB e tv hop i a x hi hid k0.1 k0.2 (by omega) (by omega) hc).mono ?_
 rintro r w' ⟨rfl, h1, h2⟩
 exact ⟨F, rfl, h1, rfl, rfl, h2.mono (fun j hj => Or.inl hj)⟩
theorem vF (w : World) (B : Nat) (F : FB) (M : PM) (hM : MD w B F M) (T : TBL w) (hB : 6 ≤ B) (e : EV) (he : e.ok) (tv : Value) (R : Tr w tv e.ts) (hno : ∀ n c, tv = .slice none n c → c = 0) (hop : e.op = 5) (h : askL M 0 e = 0) (hc : 0 ≤ M.n ∧ M.n ≤ 4611686018427387904) (hl : M.rates.length < 1000000000000) :
  Calls Tryz.prog 55 #[.pointer (some ⟨F.pm, 0, none⟩), .agg (e.cells tv).toArray] w fun r w' => ∃ F', r = .returned (.tuple #[]) ∧ MD w' B F' (chg M e) ∧ F'.pm = F.pm ∧ F'.km = F.km ∧ But (F.reach w B) w w' := by
 rw [show askL M 0 e = whn (namedK M (whn 0 (beyond e.n1 10000000000000) 1) e.n0 1) (fundsO M (acctO M e.n0) e.n1) 13 from by unfold askL; rw [if_neg (by omega), if_neg (by omega), if_neg (by omega), if_neg (by omega), if_pos hop]] at h
 have hw := hM.wf
 rw [show chg M e = cshM M e.n0 (-e.n1) from by unfold chg; rw [if_neg (by omega), if_neg (by omega), if_neg (by omega), if_neg (by omega), if_pos hop]]
 rw [aO (by decide), namedK_0, aO (by decide)] at h
 obtain ⟨⟨⟨_, k0⟩, a, ha, k1, k2⟩, k3⟩ := h
 have k0 := beyond_0.1 k0
 obtain ⟨i, x, hi, hid, _⟩ := hM.acct ha
 have wa := hM.awf hi
 have hb := wa.bal
 have hh := wa.held
 rw [ha] at k3
 have k3 := fc k3
 have hl1 := hM.lim a.prod
 rw [← lU hw.sort hi.a hid ha]
 refine (oF w B F M hM T hB e tv hop i a x hi hid k0.1 k0.2 (by omega) (by omega) hc).mono ?_
 rintro r w' ⟨rfl, h1, h2⟩
 exact ⟨F, rfl, h1, rfl, rfl, h2.mono (fun j hj => Or.inl hj)⟩
theorem vG (w : World) (B : Nat) (F : FB) (M : PM) (hM : MD w B F M) (T : TBL w) (hB : 6 ≤ B) (e : EV) (he : e.ok) (tv : Value) (R : Tr w tv e.ts) (hno : ∀ n c, tv = .slice none n c → c = 0) (hop : e.op = 6) (h : askL M 0 e = 0) (hc : 0 ≤ M.n ∧ M.n ≤ 4611686018427387904) (hl : M.rates.length < 1000000000000) :
  Calls Tryz.prog 55 #[.pointer (some ⟨F.pm, 0, none⟩), .agg (e.cells tv).toArray] w fun r w' => ∃ F', r = .returned (.tuple #[]) ∧ MD w' B F' (chg M e) ∧ F'.pm = F.pm ∧ F'.km = F.km ∧ But (F.reach w B) w w' := by
 rw [show askL M 0 e = transferL M 0 e.n0 e.n1 e.n2 from by unfold askL; rw [if_neg (by omega), if_neg (by omega), if_neg (by omega), if_neg (by omega), if_neg (by omega), if_pos hop]] at h
 have hw := hM.wf
 rw [show chg M e = dblM M e.n0 (-e.n2) e.n1 e.n2 2 2 e.n2 from by unfold chg; rw [if_neg (by omega), if_neg (by omega), if_neg (by omega), if_neg (by omega), if_neg (by omega), if_pos hop]]
 unfold transferL at h
 rw [aO (by decide), aO (by decide), aO (by decide), namedK_0, namedK_0, aO (by decide), aO (by decide)] at h
 obtain ⟨⟨⟨⟨⟨⟨⟨_, k0⟩, k9⟩, a, ha, k1, k2⟩, b, hb, k3, k4⟩, k5⟩, k6⟩, k7⟩ := h
 have k0 := beyond_0.1 k0
 obtain ⟨i, x, hi, hid, _⟩ := hM.acct ha
 obtain ⟨j, y, hj, hjd, _⟩ := hM.acct hb
 have wa := hM.awf hi
 have wb := hM.awf hj
 have h1 := wa.bal
 have h2 := wb.bal
 have h3 := wa.held
 have h4 := hM.lim a.prod
 rw [ha] at k5
 rw [hb] at k6
 have k5 := fc k5
 have k6 := jl wb (by omega) (by omega) k6
 have hne : e.n0 ≠ e.n1 := by simpa using k9
 have hij := hi.ne hj (by rw [hid, hjd]; exact hne)
 rw [← lN hw.sort hi.a hj.a hij hid hjd ha]
 refine (oG w B F M hM T hB e tv hop i a x hi hid j b y hj hjd hij k0.1 k0.2 (by omega) (by omega) (by omega) (by omega) hc).mono ?_
 rintro r w' ⟨rfl, h1, h2⟩
 exact ⟨F, rfl, h1, rfl, rfl, h2.mono (fun j hj => Or.inl hj)⟩
theorem vH (w : World) (B : Nat) (F : FB) (M : PM) (hM : MD w B F M) (T : TBL w) (hB : 6 ≤ B) (e : EV) (he : e.ok) (tv : Value) (R : Tr w tv e.ts) (hno : ∀ n c, tv = .slice none n c → c = 0) (hop : e.op = 7) (h : askL M 0 e = 0) (hc : 0 ≤ M.n ∧ M.n ≤ 4611686018427387904) (hl : M.rates.length < 1000000000000) :
  Calls Tryz.prog 55 #[.pointer (some ⟨F.pm, 0, none⟩), .agg (e.cells tv).toArray] w fun r w' => ∃ F', r = .returned (.tuple #[]) ∧ MD w' B F' (chg M e) ∧ F'.pm = F.pm ∧ F'.km = F.km ∧ But (F.reach w B) w w' := by
 rw [show askL M 0 e = holdL M 0 e.n0 e.n1 e.n2 from by unfold askL; rw [if_neg (by omega), if_neg (by omega), if_neg (by omega), if_neg (by omega), if_neg (by omega), if_neg (by omega), if_pos hop]] at h
 have hw := hM.wf
 rw [show chg M e = { M with al := onA M.al e.n0 fun a => heldA a e.n1 e.n2 } from by unfold chg; rw [if_neg (by omega), if_neg (by omega), if_neg (by omega), if_neg (by omega), if_neg (by omega), if_neg (by omega), if_pos hop]]
 unfold holdL at h
 rw [aO (by decide), aO (by decide), aO (by decide), namedK_0, aO (by decide), aO (by decide)] at h
 obtain ⟨⟨⟨⟨⟨⟨_, k0⟩, k9⟩, a, ha, k1, k2⟩, k3⟩, k4⟩, k5⟩ := h
 have k0 := beyond_0.1 k0
 have k9 := beyond_0.1 k9
 obtain ⟨i, x, hi, hid, _⟩ := hM.acct ha
 have wa := hM.awf hi
 have h1 := wa.bal
 have h3 := wa.held
 have h4 := hM.lim a.prod
 rw [ha] at k3 k4 k5
 have k3 := fc k3
 have k4 : lkA a.hs e.n1 = none := by
  cases hz : lkA a.hs e.n1 with
  | none => rfl
  | some z =>
   have := (wa.hv _ (gd hz)).2.1
   have k4 : ((lkA a.hs e.n1).getD 0 != 0) = false := k4
   rw [hz] at k4
   have : z = 0 := by simpa using k4
   omega
 have k5 : a.hs.length < 64 := by
  have k5 : decide ((64 : Int) ≤ (a.hs.length : Int)) = false := k5
  rw [decide_eq_false_iff_not] at k5
  omega
 rw [← ei hw.sort hi.a hid fun a => heldA a e.n1 e.n2]
 refine (oH w B F M hM T hB e tv hop i a x hi hid k0.1 k0.2 k9 k4 k5 (by omega)).mono ?_
 rintro r w' ⟨rfl, h1, h2⟩
 exact ⟨F, rfl, h1, rfl, rfl, h2.mono (fun j hj => Or.inl hj)⟩
theorem vI (w : World) (B : Nat) (F : FB) (M : PM) (hM : MD w B F M) (T : TBL w) (hB : 6 ≤ B) (e : EV) (he : e.ok) (tv : Value) (R : Tr w tv e.ts) (hno : ∀ n c, tv = .slice none n c → c = 0) (hop : e.op = 8) (h : askL M 0 e = 0) (hc : 0 ≤ M.n ∧ M.n ≤ 4611686018427387904) (hl : M.rates.length < 1000000000000) :
  Calls Tryz.prog 55 #[.pointer (some ⟨F.pm, 0, none⟩), .agg (e.cells tv).toArray] w fun r w' => ∃ F', r = .returned (.tuple #[]) ∧ MD w' B F' (chg M e) ∧ F'.pm = F.pm ∧ F'.km = F.km ∧ But (F.reach w B) w w' := by
 rw [show askL M 0 e = freeL M 0 e.n0 e.n1 from by unfold askL; rw [if_neg (by omega), if_neg (by omega), if_neg (by omega), if_neg (by omega), if_neg (by omega), if_neg (by omega), if_neg (by omega), if_pos hop]] at h
 have hw := hM.wf
 rw [show chg M e = { M with al := onA M.al e.n0 fun a => freedA a e.n1 ((lkA a.hs e.n1).getD 0) } from by unfold chg; rw [if_neg (by omega), if_neg (by omega), if_neg (by omega), if_neg (by omega), if_neg (by omega), if_neg (by omega), if_neg (by omega), if_pos hop]]
 unfold freeL at h
 rw [aO (by decide), namedK_0, aO (by decide)] at h
 obtain ⟨⟨⟨_, k0⟩, a, ha, k1, k2⟩, k3⟩ := h
 obtain ⟨i, x, hi, hid, _⟩ := hM.acct ha
 rw [ha] at k3
 have k3 : ((lkA a.hs e.n1).getD 0 == 0) = false := k3
 obtain ⟨z, hz⟩ : ∃ z, lkA a.hs e.n1 = some z := by
  cases hz : lkA a.hs e.n1 with
  | none => rw [hz] at k3; cases k3
  | some z => exact ⟨z, rfl⟩
 rw [← ei hw.sort hi.a hid fun a => freedA a e.n1 ((lkA a.hs e.n1).getD 0), hz]
 refine (oI w B F M hM T hB e tv hop i a x hi hid z hz).mono ?_
 rintro r w' ⟨rfl, h1, h2⟩
 exact ⟨F, rfl, h1, rfl, rfl, h2.mono (fun j hj => Or.inl hj)⟩
theorem vJ (w : World) (B : Nat) (F : FB) (M : PM) (hM : MD w B F M) (T : TBL w) (hB : 6 ≤ B) (e : EV) (he : e.ok) (tv : Value) (R : Tr w tv e.ts) (hno : ∀ n c, tv = .slice none n c → c = 0) (hop : e.op = 9) (h : askL M 0 e = 0) (hc : 0 ≤ M.n ∧ M.n ≤ 4611686018427387904) (hl : M.rates.length < 1000000000000) :
  Calls Tryz.prog 55 #[.pointer (some ⟨F.pm, 0, none⟩), .agg (e.cells tv).toArray] w fun r w' => ∃ F', r = .returned (.tuple #[]) ∧ MD w' B F' (chg M e) ∧ F'.pm = F.pm ∧ F'.km = F.km ∧ But (F.reach w B) w w' := by
 rw [show askL M 0 e = lendL M 0 e.n0 e.n1 e.n2 e.n3 from by unfold askL; rw [if_neg (by omega), if_neg (by omega), if_neg (by omega), if_neg (by omega), if_neg (by omega), if_neg (by omega), if_neg (by omega), if_neg (by omega), if_pos hop]] at h
 have hw := hM.wf
 rw [show chg M e = dblM M e.n0 e.n2 e.n1 e.n2 3 2 e.n2 from by unfold chg; rw [if_neg (by omega), if_neg (by omega), if_neg (by omega), if_neg (by omega), if_neg (by omega), if_neg (by omega), if_neg (by omega), if_neg (by omega), if_pos hop]]
 unfold lendL at h
 rw [aO (by decide), aO (by decide), aO (by decide), aO (by decide), namedK_0, namedK_0, aO (by decide), aO (by decide)] at h
 obtain ⟨⟨⟨⟨⟨⟨⟨⟨_, k0⟩, k9⟩, a, ha, k1, k2⟩, b, hb, k3, k4⟩, k5⟩, k6⟩, k7⟩, k8⟩ := h
 have k0 := beyond_0.1 k0
 obtain ⟨i, x, hi, hid, _⟩ := hM.acct ha
 obtain ⟨j, y, hj, hjd, _⟩ := hM.acct hb
 have wa := hM.awf hi
 have wb := hM.awf hj
 have h1 := wa.bal
 have h2 := wb.bal
 rw [hb] at k5
 rw [ha] at k8
 have k5 := jl wb (by omega) (by omega) k5
 have k8 : a.bal = 0 := by simpa [owesO] using k8
 have k2 : a.kind = 2 := k2.elim (fun h => by cases h) id
 have k4 : b.kind = 1 := k4.elim (fun h => by cases h) id
 have hij : i ≠ j := by
  rintro rfl
  have := hi.a.symm.trans hj.a
  injection this with this
  rw [this, k4] at k2
  cases k2
 rw [← lN hw.sort hi.a hj.a hij hid hjd ha]
 refine (oJ w B F M hM T hB e tv hop i a x hi hid j b y hj hjd hij k0.1 k0.2 (by omega) (by omega) (by omega) (by omega) hc).mono ?_
 rintro r w' ⟨rfl, h1, h2⟩
 exact ⟨F, rfl, h1, rfl, rfl, h2.mono (fun j hj => Or.inl hj)⟩
theorem tP (w : World) (B : Nat) (F : FB) (M : PM) (hM : MD w B F M) (T : TBL w) (hB : 6 ≤ B) (e : EV) (he : e.ok) (tv : Value) (R : Tr w tv e.ts) (hno : ∀ n c, tv = .slice none n c → c = 0) (hop : e.op = 10) (h : askL M 0 e = 0) (hc : 0 ≤ M.n ∧ M.n ≤ 4611686018427387904) (hl : M.rates.length < 1000000000000) :
  Calls Tryz.prog 55 #[.pointer (some ⟨F.pm, 0, none⟩), .agg (e.cells tv).toArray] w fun r w' => ∃ F', r = .returned (.tuple #[]) ∧ MD w' B F' (chg M e) ∧ F'.pm = F.pm ∧ F'.km = F.km ∧ But (F.reach w B) w w' := by
 rw [show askL M 0 e = repayL M 0 e.n0 e.n1 e.n2 from by unfold askL; rw [if_neg (by omega), if_neg (by omega), if_neg (by omega), if_neg (by omega), if_neg (by omega), if_neg (by omega), if_neg (by omega), if_neg (by omega), if_neg (by omega), if_pos hop]] at h
 have hw := hM.wf
 rw [show chg M e = dblM M e.n0 (-e.n2) e.n1 (-e.n2) 3 2 (-e.n2) from by unfold chg; rw [if_neg (by omega), if_neg (by omega), if_neg (by omega), if_neg (by omega), if_neg (by omega), if_neg (by omega), if_neg (by omega), if_neg (by omega), if_neg (by omega), if_pos hop]]
 unfold repayL at h
 rw [aO (by decide), aO (by decide), aO (by decide), namedK_0, namedK_0, aO (by decide)] at h
 obtain ⟨⟨⟨⟨⟨⟨_, k0⟩, a, ha, k1, k2⟩, b, hb, k3, k4⟩, k5⟩, k6⟩, k7⟩ := h
 have k0 := beyond_0.1 k0
 obtain ⟨i, x, hi, hid, _⟩ := hM.acct ha
 obtain ⟨j, y, hj, hjd, _⟩ := hM.acct hb
 have wa := hM.awf hi
 have wb := hM.awf hj
 have h1 := wa.bal
 have h2 := wb.bal
 have h3 := wb.held
 have h4 := hM.lim b.prod
 rw [hb] at k7
 rw [ha] at k6
 have k7 := fc k7
 have k6 : decide (a.bal < e.n2) = false := k6
 rw [decide_eq_false_iff_not] at k6
 have k2 : a.kind = 2 := k2.elim (fun h => by cases h) id
 have k4 : b.kind = 1 := k4.elim (fun h => by cases h) id
 have hij : i ≠ j := by
  rintro rfl
  have := hi.a.symm.trans hj.a
  injection this with this
  rw [this, k4] at k2
  cases k2
 rw [← lN hw.sort hi.a hj.a hij hid hjd ha]
 refine (mU w B F M hM T hB e tv hop i a x hi hid j b y hj hjd hij k0.1 k0.2 (by omega) (by omega) (by omega) (by omega) hc).mono ?_
 rintro r w' ⟨rfl, h1, h2⟩
 exact ⟨F, rfl, h1, rfl, rfl, h2.mono (fun j hj => Or.inl hj)⟩
theorem tQ (w : World) (B : Nat) (F : FB) (M : PM) (hM : MD w B F M) (T : TBL w) (hB : 6 ≤ B) (e : EV) (he : e.ok) (tv : Value) (R : Tr w tv e.ts) (hno : ∀ n c, tv = .slice none n c → c = 0) (hop : e.op = 11) (h : askL M 0 e = 0) (hc : 0 ≤ M.n ∧ M.n ≤ 4611686018427387904) (hl : M.rates.length < 1000000000000) :
  Calls Tryz.prog 55 #[.pointer (some ⟨F.pm, 0, none⟩), .agg (e.cells tv).toArray] w fun r w' => ∃ F', r = .returned (.tuple #[]) ∧ MD w' B F' (chg M e) ∧ F'.pm = F.pm ∧ F'.km = F.km ∧ But (F.reach w B) w w' := by
 rw [show askL M 0 e = rateL 0 e.n0 e.n1 e.n2 from by unfold askL; rw [if_neg (by omega), if_neg (by omega), if_neg (by omega), if_neg (by omega), if_neg (by omega), if_neg (by omega), if_neg (by omega), if_neg (by omega), if_neg (by omega), if_neg (by omega), if_pos hop]] at h
 have hw := hM.wf
 rw [show chg M e = { M with rates := ((e.n0, e.n1), e.n2) :: M.rates } from by unfold chg; rw [if_neg (by omega), if_neg (by omega), if_neg (by omega), if_neg (by omega), if_neg (by omega), if_neg (by omega), if_neg (by omega), if_neg (by omega), if_neg (by omega), if_neg (by omega), if_pos hop]]
 unfold rateL at h
 rw [aO (by decide), aO (by decide), aO (by decide)] at h
 obtain ⟨⟨⟨_, k0⟩, k1⟩, k2⟩ := h
 have k1 := beyond_0.1 k1
 unfold wi at k0
 simp only [Bool.or_eq_false_iff, Bool.not_eq_false', decide_eq_true_iff] at k0
 refine (mV w B F M hM T hB e tv hop k0.1 k0.2 k1 hl).mono ?_
 rintro r w' ⟨rfl, h1, h2⟩
 exact ⟨F, rfl, h1, rfl, rfl, h2.mono (fun j hj => Or.inl hj)⟩
theorem kT (w : World) (B : Nat) (F : FB) (M : PM) (hM : MD w B F M) (T : TBL w) (hB : 6 ≤ B) (e : EV) (he : e.ok) (tv : Value) (R : Tr w tv e.ts) (hno : ∀ n c, tv = .slice none n c → c = 0) (hop : 1 ≤ e.op ∧ e.op ≤ 11) (h : askL M 0 e = 0) (hc : 0 ≤ M.n ∧ M.n ≤ 4611686018427387904) (hl : M.rates.length < 1000000000000) (hend : e.op = 2 → plc M.al e.n0 = M.al.length) :
  Calls Tryz.prog 55 #[.pointer (some ⟨F.pm, 0, none⟩), .agg (e.cells tv).toArray] w fun r w' => ∃ F', r = .returned (.tuple #[]) ∧ MD w' B F' (chg M e) ∧ F'.pm = F.pm ∧ F'.km = F.km ∧ But (F.reach w B) w w' := by
 have hk : e.op = 1 ∨ e.op = 2 ∨ e.op = 3 ∨ e.op = 4 ∨ e.op = 5 ∨ e.op = 6 ∨ e.op = 7 ∨ e.op = 8 ∨ e.op = 9 ∨ e.op = 10 ∨ e.op = 11 := by omega
 rcases hk with k | k | k | k | k | k | k | k | k | k | k
 ·exact vB w B F M hM T hB e he tv R hno k h hc hl
 ·exact vC w B F M hM T hB e he tv R hno k h hc hl (hend k)
 ·exact vD w B F M hM T hB e he tv R hno k h hc hl
 ·exact vE w B F M hM T hB e he tv R hno k h hc hl
 ·exact vF w B F M hM T hB e he tv R hno k h hc hl
 ·exact vG w B F M hM T hB e he tv R hno k h hc hl
 ·exact vH w B F M hM T hB e he tv R hno k h hc hl
 ·exact vI w B F M hM T hB e he tv R hno k h hc hl
 ·exact vJ w B F M hM T hB e he tv R hno k h hc hl
 ·exact tP w B F M hM T hB e he tv R hno k h hc hl
 ·exact tQ w B F M hM T hB e he tv R hno k h hc hl
theorem ir (w : World) (B : Nat) (F : FB) (M : PM) (hM : MD w B F M) (hcn : M.cnt) (hs : M.seq < 1000000000) (T : TBL w) (hB : 6 ≤ B) (e : EV) (he : e.ok) (tv : Value) (R : Tr w tv e.ts) (hno : ∀ n c, tv = .slice none n c → c = 0) (f : Bool) (hform : f = true ↔ e.e8.form) (hop : 1 ≤ e.op ∧ e.op ≤ 11) (hyes : refL M e f = 0) (hlen : e.ts.length ≤ 8796093022208) (hend : e.op = 2 → plc M.al e.n0 = M.al.length) :
  Calls Tryz.prog 29 #[.pointer (some ⟨F.pm, 0, none⟩), .agg (e.cells tv).toArray] w fun r w' => ∃ F', r = .returned (.int .i64 0) ∧ MD w' B F' (nxt M e) ∧ F'.pm = F.pm ∧ F'.km = F.km ∧ But (F.reach w B) w w' := by
 have h0 := pP hyes
 have c1 := hcn.rat
 have c2 := hcn.key
 have c3 := hcn.ent
 have c4 := hcn.seq
 exact mM w B F M (chg M e) hM e he tv R hno T f hform h0.2.2.1 (by omega) hyes hlen (fun w1 b => kT w1 B F M (hM.step b) (T.step b) hB e he tv (R.step b) hno hop h0.2.2.2.2.2 (by omega) (by omega) hend) (by rw [dN]; omega) (by rw [cE]; omega) (by rw [cE]; omega)
def mT : List TypeId := [100, 85, 81, 144, 154, 208]
theorem MD.reach_ty {w : World} {B : Nat} {F : FB} {M : PM} (h : MD w B F M) {p : Nat} {cs : List Value} {T : TypeId} (v : VA w p cs T) (hT : T ∉ mT) : ¬ F.reach w B p := by
 unfold mT at hT
 simp only [List.mem_cons, List.not_mem_nil, or_false, not_or] at hT
 obtain ⟨t1, t2, t3, t4, t5, t6⟩ := hT
 obtain ⟨sv, hV⟩ := h.cbm
 rintro (hr | hr | hr | ⟨_, cs', fr, e⟩ | ⟨_, cs', fr, e⟩)
 ·rcases hr with hr | hr | hr | hr | hr | ⟨x, hx, e⟩
  ·exact v.ne h.va t1 hr
  ·exact v.ne h.led.va t4 hr
  ·exact v.neM (bW h.led.map) hr
  ·exact v.neM h.rts.isMap hr
  ·exact v.neM h.kys.isMap hr
  ·obtain ⟨i, hi⟩ := List.getElem?_of_mem hx
   obtain ⟨a, ha⟩ : ∃ a, M.al[i]? = some a := ⟨_, List.getElem?_eq_getElem (by rw [← h.len]; exact (List.getElem?_eq_some_iff.1 hi).1)⟩
   have := h.acs i a x ha hi
   rcases e with e | e
   ·exact v.ne this.1 t2 e
   ·exact v.neM this.2.isMap e
 ·exact v.ne hV t5 hr
 ·exact v.neM (h.catO hV).1 hr
 ·have := v.blk.symm.trans e
  simp only [Option.some.injEq, Obj.cells.injEq] at this
  exact t3 this.2.1
 ·have := v.blk.symm.trans e
  simp only [Option.some.injEq, Obj.cells.injEq] at this
  exact t6 this.2.1
theorem VA.keptM {w w' : World} {B : Nat} {F : FB} {M : PM} {p : Nat} {cs : List Value} {T : TypeId} (v : VA w p cs T) (h : MD w B F M) (k : But (F.reach w B) w w') (hT : T ∉ mT) : VA w' p cs T := v.but k (h.reach_ty v hT)
theorem TBL.keptM {w w' : World} {B : Nat} {F : FB} {M : PM} (t : TBL w) (h : MD w B F M) (k : But (F.reach w B) w w') (hB : 6 ≤ B) : TBL w' := t.but k (fun i hi => Nat.le_trans hB (h.reach_low hi))
theorem OwnT.hno {w : World} {B : Nat} {v : Value} {ts : List (Int × Int)} (h : OwnT w B v ts) : ∀ n c, v = .slice none n c → c = 0 := by
 intro n c e
 rcases h.own.2 with ⟨rfl, _⟩ | ⟨g, cap, cur, rfl, _⟩
 ·cases e; rfl
 ·cases e
theorem OwnT.tf {w : World} {B : Nat} {v : Value} {ts : List (Int × Int)} (h : OwnT w B v ts) : ∃ a n c, v = Value.slice a n c := by
 obtain ⟨a, c, e, _⟩ := h.tr.form
 exact ⟨a, _, c, e⟩
theorem Tr.tf {w : World} {v : Value} {ts : List (Int × Int)} (h : Tr w v ts) : ∃ a n c, v = Value.slice a n c := by
 obtain ⟨a, c, e, _⟩ := h.form
 exact ⟨a, _, c, e⟩
theorem nM (w : World) (B : Nat) (F : FB) (M : PM) (hM : MD w B F M) (hcn : M.cnt) (hs : M.seq < 1000000000) (T : TBL w) (hB : 6 ≤ B) (e : EV) (he : e.ok) (tv : Value) (R : Tr w tv e.ts) (hno : ∀ n c, tv = .slice none n c → c = 0) (f : Bool) (hform : f = true ↔ e.e8.form) (hop : 1 ≤ e.op ∧ e.op ≤ 11) (hyes : refL M e f = 0) (hlen : e.ts.length ≤ 8796093022208) (hend : e.op = 2 → plc M.al e.n0 = M.al.length) :
  Calls Tryz.prog 11 #[.pointer (some ⟨F.pm, 0, none⟩), .agg (e.cells tv).toArray] w fun r w' => r = .returned (.bool true) ∧ (∃ F', MD w' B F' (nxt M e) ∧ F'.pm = F.pm) ∧ But (F.reach w B) w w' := by
 refine nA w F e tv (F.reach w B) (fun w' => ∃ F', MD w' B F' (nxt M e) ∧ F'.pm = F.pm) R.tf e.mv (fun w1 b => gU w1 B F M (hM.step b) e he tv (R.step b) hno (T.step b) f hform hyes (by omega) hlen) (fun w1 u b o => ?_)
 refine (ir w1 B F M (hM.step b) hcn hs (T.step b) hB e he u o.tr o.hno f hform hop hyes hlen hend).mono ?_
 rintro r w' ⟨F', rfl, h1, h2, _, h3⟩
 exact ⟨rfl, ⟨F', h1, h2⟩, (af b _).trans h3 (fun j hl hj => FB.reach_back b hl hj)⟩
theorem gC {ns : List Int} {k : Nat} (h : ns.length ≤ k) : ns.getD k 0 = 0 := by rw [List.getD_eq_getElem?_getD, List.getElem?_eq_none h]; rfl
def mkE (op : Nat) (ns : List Int) : EV := ⟨op, 0, ns.getD 0 0, ns.getD 1 0, ns.getD 2 0, ns.getD 3 0, ns.getD 4 0, ns.getD 5 0, ns.getD 6 0, ns.getD 7 0, []⟩
def mkC (op : Nat) (ns : List Int) (i : Nat) : List Value := [.int .u8 (op : Int), .int .u64 0] ++ (List.range 8).map (fun k => Value.int .i64 (if k < i then ns.getD k 0 else 0)) ++ [.slice none 0 0]
def mkZ : List Value := [.int .u8 0, .int .u64 0, .int .i64 0, .int .i64 0, .int .i64 0, .int .i64 0, .int .i64 0, .int .i64 0, .int .i64 0, .int .i64 0, .slice none 0 0]
theorem vU (op : Nat) (ns : List Int) : mkC op ns 0 = [.int .u8 (op : Int), .int .u64 0, .int .i64 0, .int .i64 0, .int .i64 0, .int .i64 0, .int .i64 0, .int .i64 0, .int .i64 0, .int .i64 0, .slice none 0 0] := rfl
theorem rX (op : Nat) (ns : List Int) : ∀ i, i < 8 → (mkC op ns i).set (2 + i) (.int .i64 (ns.getD i 0)) = mkC op ns (i + 1)
 | 0, _ => rfl
 | 1, _ => rfl
 | 2, _ => rfl
 | 3, _ => rfl
 | 4, _ => rfl
 | 5, _ => rfl
 | 6, _ => rfl
 | 7, _ => rfl
 | n + 8, h => by omega
theorem rV (op : Nat) (ns : List Int) : mkC op ns ns.length = (mkE op ns).cells (.slice none 0 0) := by
 have h : ∀ k, (if k < ns.length then ns.getD k 0 else 0) = ns.getD k 0 := fun k => by
  split
  ·rfl
  ·rw [gC (by omega)]
 unfold mkC
 simp only [h]
 rfl
theorem rW (op : Nat) (ns : List Int) : ∀ v ∈ mkC op ns 0, v.oneCell' = true := by
 rw [vU]
 intro v hv
 simp at hv
 rcases hv with rfl | rfl | rfl | rfl <;> rfl
theorem jf : ∀ v ∈ mkZ, v.oneCell' = true := by
 intro v hv
 simp [mkZ] at hv
 rcases hv with rfl | rfl | rfl | rfl <;> rfl
theorem ge (op : Nat) (ns : List Int) : ∀ v ∈ (mkE op ns).cells (.slice none 0 0), v.oneCell' = true := (mkE op ns).one ⟨none, 0, 0, rfl⟩
theorem aZ {ns : List Int} (h : ∀ n ∈ ns, I64 n) (k : Nat) : I64 (ns.getD k 0) := by
 by_cases hk : k < ns.length
 ·rw [List.getD_eq_getElem?_getD, List.getElem?_eq_getElem hk]
  exact h _ (List.getElem_mem hk)
 ·rw [gC (by omega)]
  exact ⟨by decide, by decide⟩
theorem dQ {op : Nat} {ns : List Int} (ho : op ≤ 255) (h : ∀ n ∈ ns, I64 n) : (mkE op ns).ok := ⟨ho, by show 0 ≤ _; omega, aZ h 0, aZ h 1, aZ h 2, aZ h 3, aZ h 4, aZ h 5, aZ h 6, aZ h 7⟩
theorem aM {op : Nat} {ns : List Int} (h1 : 1 ≤ op) (h2 : op ≤ 15) (hl : ns.length ≤ ct.getD op 0) : (mkE op ns).e8.form := by
 refine ⟨h1, h2, Nat.zero_le _, fun i hi h8 => ?_⟩
 have hi : ct.getD op 0 ≤ i := hi
 have e : ns.getD i 0 = 0 := gC (by omega)
 have hc : i = 0 ∨ i = 1 ∨ i = 2 ∨ i = 3 ∨ i = 4 ∨ i = 5 ∨ i = 6 ∨ i = 7 := by omega
 rcases hc with rfl | rfl | rfl | rfl | rfl | rfl | rfl | rfl <;> exact e
set_option maxRecDepth 100000 in
theorem ap (op : Nat) (ns : List Int) (w : World) (p : Nat) (V : VA w p (ns.map fun n => Value.int .i64 n) 2) (hl : ns.length ≤ 8) :
  Calls Tryz.prog 12 #[.int .u8 (op : Int), .slice (some ⟨p, 0, none⟩) ns.length ns.length] w fun r w' => r = .returned (.agg ((mkE op ns).cells (.slice none 0 0)).toArray) ∧ Below w.heap.size w w' := by
 obtain ⟨N, hN⟩ : ∃ N, N = ns.length := ⟨_, rfl⟩
 have HN : Hid (N = ns.length) := hN
 rw [← hN] at hl ⊢
 have b0 := (Below.refl w.heap.size w).alloc (Nat.le_refl _) (.cells #[.int .u8 0, .int .u64 0, .int .i64 0, .int .i64 0, .int .i64 0, .int .i64 0, .int .i64 0, .int .i64 0, .int .i64 0, .int .i64 0, .slice none 0 0] 31)
 have b1 := b0.alloc (by simp) (.cells #[.int .u8 0, .int .u64 0, .int .i64 0, .int .i64 0, .int .i64 0, .int .i64 0, .int .i64 0, .int .i64 0, .int .i64 0, .int .i64 0, .slice none 0 0] 31)
 have V0 := aa w mkZ 31
 have V00 := V0.alloc (.cells #[.int .u8 0, .int .u64 0, .int .i64 0, .int .i64 0, .int .i64 0, .int .i64 0, .int .i64 0, .int .i64 0, .int .i64 0, .int .i64 0, .slice none 0 0] 31)
 have hv1 := aa (w.alloc (.cells #[.int .u8 0, .int .u64 0, .int .i64 0, .int .i64 0, .int .i64 0, .int .i64 0, .int .i64 0, .int .i64 0, .int .i64 0, .int .i64 0, .slice none 0 0] 31)) mkZ 31
 rw [World.size_alloc] at hv1
 have HR_0 := hI_ V00
 have HE_0 := hI_ hv1
 have BB_0 := hI_ b1
 have HV := hI_ V
 clear b0 b1 V0 V00 hv1 V hN
 have g3 : (N : Int) ≤ 8 := by omega
 go_enter Tryz.func12, Tryz.ntmps12
 go_upto_region 2 with (refine stA rfl 31 _ _ rfl (w.heap.size + 1) (by rfl) mkZ (mkC op ns 0) (by rfl) 31 HE_0.out ai rfl (rW op ns) ?_; intro w1 v1 u1)
 have HE_1 := hI_ v1
 have HR_1 : Hid (VA w1 w.heap.size mkZ 31) := HR_0.out.upd u1 (by omega)
 have BB_1 : Hid (Below w.heap.size w w1) := u1.bel BB_0.out (by omega)
 clear v1 u1 HE_0 HR_0 BB_0
 go_wp2_with fail
 go_loopw [12] (fun i wr => ∃ k : Nat, k ≤ N ∧ i = .int .i64 (k : Int) ∧ Hid (VA wr (w.heap.size + 1) (mkC op ns k) 31) ∧ Hid (VA wr w.heap.size mkZ 31) ∧ Hid (Below w.heap.size w wr)) (fun i _ => N - (intOf i).toNat)
 case atStart => exact ⟨0, by omega, rfl, HE_1.out, HR_1.out, BB_1.out⟩
 case round =>
  obtain ⟨k, hk, rfl, HE, HR, HB⟩ := hrel
  by_cases hkn : k = N
  ·subst hkn
   have HE2 : Hid (VA wr (w.heap.size + 1) ((mkE op ns).cells (.slice none 0 0)) 31) := by have := HE.out; rw [HN.out, rV] at this; exact this
   clear HE
   go_wp2_with (first | (refine ldA rfl 31 _ rfl (w.heap.size + 1) (by rfl) _ _ HE2.out _ Tryz.underlying31 rfl ai ?_) | (refine stA rfl 31 _ _ rfl w.heap.size (by rfl) mkZ ((mkE op ns).cells (.slice none 0 0)) (by rfl) 31 HR.out ai rfl (ge op ns) ?_; intro wf vf uf))
   have hld := run_loadVar_row (P := Tryz.prog) wf w.heap.size 31 31 _ (0, 0) _ vf.blk Tryz.underlying31 rfl ai
   exact bodyPost_ret (v := .agg ((mkE op ns).cells (.slice none 0 0)).toArray) (by simp [results, Tryz.results12, asAddr, hld, Act.put]) rfl ⟨rfl, uf.bel HB.out (Nat.le_refl _)⟩
  have hk' : k < N := by omega
  have d1 : (0 : Int) ≤ (k : Int) := by omega
  have d2 : (k : Int) < (N : Int) := by omega
  have d3 : (k : Int) < 8 := by omega
  obtain ⟨x, hx⟩ : ∃ x, x = ns.getD k 0 := ⟨_, rfl⟩
  have HX := hI_ hx
  have cx : wr.cell? ⟨p, k, none⟩ = some (.int .i64 x) := (HV.out.step HB.out).cell k (by rw [List.getElem?_map, List.getElem?_eq_getElem (by have := HN.out; omega), hx, List.getD_eq_getElem?_getD, List.getElem?_eq_getElem (by have := HN.out; omega)]; rfl)
  have fe := HE.out.free (2 + k)
  obtain ⟨y, hy⟩ : ∃ y, wr.cell? ⟨w.heap.size + 1, 2 + k, none⟩ = some y := ⟨_, HE.out.cell (2 + k) (List.getElem?_eq_getElem (by show 2 + k < 11; omega))⟩
  have hbk := HE.out.blk
  clear hx
  go_wp2_with fail
  have U := ax wr (w.heap.size + 1) (2 + k) (.int .i64 x)
  have V2 : VA (wr.setCell ⟨w.heap.size + 1, 2 + k, none⟩ (.int .i64 x)) (w.heap.size + 1) (mkC op ns (k + 1)) 31 := by
   rw [← rX op ns k (by omega), ← HX.out]
   exact HE.out.set (2 + k) (.int .i64 x)
  exact ⟨⟨k + 1, by omega, by go_num, V2, HR.out.upd U (by omega), U.bel HB.out (by omega)⟩, by simp [intOf]; omega⟩
end Go.Proofs.YtjkiplndbcmmbaaGreatDoor