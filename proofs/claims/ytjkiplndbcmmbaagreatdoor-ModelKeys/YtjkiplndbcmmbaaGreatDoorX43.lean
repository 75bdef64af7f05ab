/- texts of the model: Mqv Mqw -/
import Derived.Test.YtjkiplndbcmmbaaGreatDoorX42
set_option linter.unusedVariables false
set_option linter.unusedSimpArgs false
set_option maxHeartbeats 16000000
namespace Go.Proofs.YtjkiplndbcmmbaaGreatDoor
open Go.RowKit Go.Maps
def XL (l m : Int) (u1 u2 u3 : Value) : List (EV × Value) := [(PL 1 1 0 l, u1), (PL 2 2 0 m, u2), (PL 3 1 1 500, u3), (mkE 2 [1, 1], .slice none 0 0), (mkE 2 [2, 2], .slice none 0 0), (mkE 2 [3, 3], .slice none 0 0)]
theorem vk {l m : Int} {u1 u2 u3 : Value} {w : World} {B : Nat} (o1 : OwnT w B u1 [(0, 36500000)]) (o2 : OwnT w B u2 [(0, 36500000)]) (o3 : OwnT w B u3 [(0, 36500000)]) {k : Nat} (hk : k < 6) : ∃ x, (XL l m u1 u2 u3)[k]? = some x ∧ (LC l m)[k]? = some x.1 ∧ OwnT w B x.2 x.1.ts := by
 have hc : k = 0 ∨ k = 1 ∨ k = 2 ∨ k = 3 ∨ k = 4 ∨ k = 5 := by omega
 rcases hc with rfl | rfl | rfl | rfl | rfl | rfl
 ·exact ⟨_, rfl, rfl, o1⟩
 ·exact ⟨_, rfl, rfl, o2⟩
 ·exact ⟨_, rfl, rfl, o3⟩
 ·exact ⟨_, rfl, rfl, cB _ _⟩
 ·exact ⟨_, rfl, rfl, cB _ _⟩
 ·exact ⟨_, rfl, rfl, cB _ _⟩
structure LF (w wx : World) (p q : Nat) (u1 u2 u3 : Value) (l m : Int) : Prop where
 k : BK wx w.heap.size p (bank0 100)
 o1 : OwnT wx w.heap.size u1 [(0, 36500000)]
 o2 : OwnT wx w.heap.size u2 [(0, 36500000)]
 o3 : OwnT wx w.heap.size u3 [(0, 36500000)]
 v8 : VA wx q ((PL 1 1 0 l).cells u1) 31
 v9 : VA wx (q + 1) ((PL 2 2 0 m).cells u2) 31
 v10 : VA wx (q + 1 + 1) ((PL 3 1 1 500).cells u3) 31
 b : Below w.heap.size w wx
theorem LF.step {w wx wy : World} {p q : Nat} {u1 u2 u3 : Value} {l m : Int} (h : LF w wx p q u1 u2 u3 l m) (k : Below wx.heap.size wx wy) : LF w wy p q u1 u2 u3 l m := ⟨h.k.step k, h.o1.step k, h.o2.step k, h.o3.step k, h.v8.step k, h.v9.step k, h.v10.step k, h.b.trans (k.mono h.b.size)⟩
theorem LF.s {w wx : World} {p q : Nat} {u1 u2 u3 : Value} {l m : Int} (h : LF w wx p q u1 u2 u3 l m) : VA wx q ((PL 1 1 0 l).cells u1) 31 ∧ VA wx (q + 1) ((PL 2 2 0 m).cells u2) 31 ∧ VA wx (q + 1 + 1) ((PL 3 1 1 500).cells u3) 31 := ⟨h.v8, h.v9, h.v10⟩
def L2 (w : World) (r : Nat) (n : Int) : Prop := VA w r (([n, n] : List Int).map fun n => Value.int .i64 n) 2
theorem cq {y : Nat → Option Bool} {o : Oper} {a : Act} {Q : Exit → Act → World → Prop} {K : Act → World → Prop} {k0 : Prop} (h : Region.wanted o y = true) (n : Int) {o0 o1 : Operand} (ho : o.op = .buildSlice 80 2 #[(0, o0), (1, o1)]) (h0 : a.eval o0 = .int .i64 n) (h1 : a.eval o1 = .int .i64 n)
  {w wx : World} {p q : Nat} {u1 u2 u3 : Value} {l m : Int} (F : Hid (LF w wx p q u1 u2 u3 l m)) (hk : ∀ wy r, Hid (LF w wy p q u1 u2 u3 l m) → Hid (L2 wy r n) → Hid (∀ {s z}, L2 wx s z → L2 wy s z) → K (a.put o.dst (.slice (some ⟨r, 0, none⟩) 2 2)) wy) : if Region.wanted o y = true then o.wp Tryz.prog a wx K Q else k0 := by
 have b := (Below.refl wx.heap.size wx).alloc (Nat.le_refl _) (.cells #[.int .i64 n, .int .i64 n] 2)
 exact qE h (bI2 o0 o1 ho n n h0 h1 (hk _ _ (F.out.step b) (vI2 wx n n) (fun k => VA.step k b)))
theorem aL {w wx : World} {p q r : Nat} {u1 u2 u3 : Value} {l m n : Int} (F : Hid (LF w wx p q u1 u2 u3 l m)) (L : Hid (L2 wx r n)) : Calls Tryz.prog 12 #[.int .u8 2, .slice (some ⟨r, 0, none⟩) 2 2] wx fun e wy => e = .returned (.agg ((mkE 2 [n, n]).cells (.slice none 0 0)).toArray) ∧ Hid (LF w wy p q u1 u2 u3 l m) ∧ Hid (∀ {s z}, L2 wx s z → L2 wy s z) := by
 refine (ap 2 [n, n] wx r L.out (by show 2 ≤ 8; decide)).mono ?_
 rintro e wy ⟨rfl, b⟩
 exact ⟨rfl, F.out.step b, fun k => VA.step k b⟩
theorem eH {y : Nat → Option Bool} {o : Oper} {a : Act} {Q : Exit → Act → World → Prop} {K : Act → World → Prop} {k0 : Prop} (h : Region.wanted o y = true) {o0 o1 o2 o3 o4 o5 : Operand} (ho : o.op = .buildSlice 70 6 #[(0, o0), (1, o1), (2, o2), (3, o3), (4, o4), (5, o5)])
  {w wx : World} {p q : Nat} {u1 u2 u3 : Value} {l m : Int} (h0 : a.eval o0 = .agg ((PL 1 1 0 l).cells u1).toArray) (h1 : a.eval o1 = .agg ((PL 2 2 0 m).cells u2).toArray) (h2 : a.eval o2 = .agg ((PL 3 1 1 500).cells u3).toArray) (h3 : a.eval o3 = .agg ((mkE 2 [1, 1]).cells (.slice none 0 0)).toArray) (h4 : a.eval o4 = .agg ((mkE 2 [2, 2]).cells (.slice none 0 0)).toArray) (h5 : a.eval o5 = .agg ((mkE 2 [3, 3]).cells (.slice none 0 0)).toArray)
  (F : Hid (LF w wx p q u1 u2 u3 l m)) (d : Nat) (hd : o.dst = some d) (hk : ∀ wy r, Hid (LF w wy p q u1 u2 u3 l m) → Hid (VA wy r (ECS (XL l m u1 u2 u3)) 31) → K (a.put (some d) (.slice (some ⟨r, 0, none⟩) 6 6)) wy) : if Region.wanted o y = true then o.wp Tryz.prog a wx K Q else k0 := by
 have b := (Below.refl wx.heap.size wx).alloc (Nat.le_refl _) (.cells (ECS (XL l m u1 u2 u3)).toArray 31)
 refine qE h (bE6 o0 o1 o2 o3 o4 o5 ho (PL 1 1 0 l) u1 (PL 2 2 0 m) u2 (PL 3 1 1 500) u3 (mkE 2 [1, 1]) (.slice none 0 0) (mkE 2 [2, 2]) (.slice none 0 0) (mkE 2 [3, 3]) (.slice none 0 0) h0 h1 h2 h3 h4 h5 ?_)
 rw [hd]
 exact hk _ _ (F.out.step b) (aa wx (ECS (XL l m u1 u2 u3)) 31)
set_option maxRecDepth 100000 in
theorem gc (w : World) (T : TBL w) (h6 : 6 ≤ w.heap.size) (l m : Int) (hl : 0 ≤ l ∧ l ≤ 10000000000000) (hm : 0 ≤ m ∧ m ≤ 10000000000000) :
  Calls Tryz.prog 10 #[.int .i64 l, .int .i64 m] w fun r w' => ∃ p : Nat, r = .returned (.tuple #[.pointer (some ⟨p, 0, none⟩), .bool true]) ∧ BK w' w.heap.size p (LB l m) ∧ Below w.heap.size w w' := by
 have HG := hI_ (rM hl hm)
 have HTT := hI_ T
 have H6 := hI_ h6
 clear T h6 hl hm
 go_enter Tryz.func10, Tryz.ntmps10
 go_wp2_with fail
 refine (om w HTT.out H6.out 100 (by decide) (by decide)).mono ?_
 rintro e w0 ⟨p, rfl, h1, b0⟩
 have HK_0 : Hid (BK w0 w.heap.size p (bank0 100)) := h1
 have BB_0 := hI_ b0
 clear h1 b0
 go_wp2_with fail
 refine (dC _).mono ?_
 rintro e w1 ⟨⟨u1, rfl, o1⟩, b1⟩
 have HK_1 := hI_ (HK_0.out.step b1)
 have BB_1 := hI_ (BB_0.out.trans (b1.mono BB_0.out.size))
 have O1_1 : Hid (OwnT w1 w.heap.size u1 [(0, 36500000)]) := o1.lower BB_0.out.size
 clear b1 o1
 clear HK_0 BB_0
 go_wp2_with fail
 refine (dC _).mono ?_
 rintro e w2 ⟨⟨u2, rfl, o2⟩, b2⟩
 have HK_2 := hI_ (HK_1.out.step b2)
 have O1_2 := hI_ (O1_1.out.step b2)
 have BB_2 := hI_ (BB_1.out.trans (b2.mono BB_1.out.size))
 have O2_2 : Hid (OwnT w2 w.heap.size u2 [(0, 36500000)]) := o2.lower BB_1.out.size
 clear b2 o2
 clear HK_1 O1_1 BB_1
 go_wp2_with fail
 refine (dC _).mono ?_
 rintro e w3 ⟨⟨u3, rfl, o3⟩, b3⟩
 have HK_3 := hI_ (HK_2.out.step b3)
 have O1_3 := hI_ (O1_2.out.step b3)
 have O2_3 := hI_ (O2_2.out.step b3)
 have BB_3 := hI_ (BB_2.out.trans (b3.mono BB_2.out.size))
 have O3_3 : Hid (OwnT w3 w.heap.size u3 [(0, 36500000)]) := o3.lower BB_2.out.size
 clear b3 o3
 clear HK_2 O1_2 O2_2 BB_2
 have bA := (((Below.refl w3.heap.size w3).alloc (Nat.le_refl _) (.cells #[.int .u8 0, .int .u64 0, .int .i64 0, .int .i64 0, .int .i64 0, .int .i64 0, .int .i64 0, .int .i64 0, .int .i64 0, .int .i64 0, .slice none 0 0] 31)).alloc (by simp) (.cells #[.int .u8 0, .int .u64 0, .int .i64 0, .int .i64 0, .int .i64 0, .int .i64 0, .int .i64 0, .int .i64 0, .int .i64 0, .int .i64 0, .slice none 0 0] 31)).alloc (by rw [World.size_alloc, World.size_alloc]; omega) (.cells #[.int .u8 0, .int .u64 0, .int .i64 0, .int .i64 0, .int .i64 0, .int .i64 0, .int .i64 0, .int .i64 0, .int .i64 0, .int .i64 0, .slice none 0 0] 31)
 have q8 := ((aa w3 mkZ 31).alloc (.cells #[.int .u8 0, .int .u64 0, .int .i64 0, .int .i64 0, .int .i64 0, .int .i64 0, .int .i64 0, .int .i64 0, .int .i64 0, .int .i64 0, .slice none 0 0] 31)).alloc (.cells #[.int .u8 0, .int .u64 0, .int .i64 0, .int .i64 0, .int .i64 0, .int .i64 0, .int .i64 0, .int .i64 0, .int .i64 0, .int .i64 0, .slice none 0 0] 31)
 have q9 := (aa (w3.alloc (.cells #[.int .u8 0, .int .u64 0, .int .i64 0, .int .i64 0, .int .i64 0, .int .i64 0, .int .i64 0, .int .i64 0, .int .i64 0, .int .i64 0, .slice none 0 0] 31)) mkZ 31).alloc (.cells #[.int .u8 0, .int .u64 0, .int .i64 0, .int .i64 0, .int .i64 0, .int .i64 0, .int .i64 0, .int .i64 0, .int .i64 0, .int .i64 0, .slice none 0 0] 31)
 have q10 := aa ((w3.alloc (.cells #[.int .u8 0, .int .u64 0, .int .i64 0, .int .i64 0, .int .i64 0, .int .i64 0, .int .i64 0, .int .i64 0, .int .i64 0, .int .i64 0, .slice none 0 0] 31)).alloc (.cells #[.int .u8 0, .int .u64 0, .int .i64 0, .int .i64 0, .int .i64 0, .int .i64 0, .int .i64 0, .int .i64 0, .int .i64 0, .int .i64 0, .slice none 0 0] 31)) mkZ 31
 simp only [World.size_alloc] at q9 q10
 have V8_A := hI_ q8
 have V9_A := hI_ q9
 have V10_A := hI_ q10
 have HK_A := hI_ (HK_3.out.step bA)
 have O1_A := hI_ (O1_3.out.step bA)
 have O2_A := hI_ (O2_3.out.step bA)
 have O3_A := hI_ (O3_3.out.step bA)
 have BB_A := hI_ (BB_3.out.trans (bA.mono BB_3.out.size))
 have s3 := BB_3.out.size
 clear bA q8 q9 q10
 clear HK_3 O1_3 O2_3 O3_3 BB_3
 go_upto_region 5 with (first | (refine stA rfl 31 _ _ rfl (w3.heap.size) (by rfl) mkZ ((PE.cells u1)) (by rfl) 31 V8_A.out ai rfl (PE.one O1_A.out.tf) ?_; intro w4 v4 u4; have V9_4 := hI_ (V9_A.out.upd u4 (by omega)); have V10_4 := (show Hid _ from V10_A.out.upd u4 (by omega))) | (refine stA rfl 31 _ _ rfl (w3.heap.size + 1) (by rfl) mkZ ((PE.cells u2)) (by rfl) 31 V9_4.out ai rfl (PE.one O2_A.out.tf) ?_; intro w5 v5 u5; have V10_5 := (show Hid _ from V10_4.out.upd u5 (by omega))) | (refine stA rfl 31 _ _ rfl (w3.heap.size + 1 + 1) (by rfl) mkZ ((PE.cells u3)) (by rfl) 31 V10_5.out ai rfl (PE.one O3_A.out.tf) ?_; intro w6 v6 u6))
 have V8_6 : Hid (VA w6 w3.heap.size (PE.cells u1) 31) := (v4.upd u5 (by omega)).upd u6 (by omega)
 have V9_6 : Hid (VA w6 (w3.heap.size + 1) (PE.cells u2) 31) := v5.upd u6 (by omega)
 have V10_6 : Hid (VA w6 (w3.heap.size + 1 + 1) (PE.cells u3) 31) := v6
 have BB_6 : Hid (Below w.heap.size w w6) := u6.bel (u5.bel (u4.bel BB_A.out (by omega)) (by omega)) (by omega)
 have HK_6 : Hid (BK w6 w.heap.size p (bank0 100)) := ((HK_A.out.upd V8_A.out (by decide) u4 (by have := H6.out; omega)).upd V9_4.out (by decide) u5 (by have := H6.out; omega)).upd V10_5.out (by decide) u6 (by have := H6.out; omega)
 have O1_6 : Hid (OwnT w6 w.heap.size u1 _) := ((OwnT.updV O1_A.out V8_A.out (by decide) u4).updV V9_4.out (by decide) u5).updV V10_5.out (by decide) u6
 have O2_6 : Hid (OwnT w6 w.heap.size u2 _) := ((OwnT.updV O2_A.out V8_A.out (by decide) u4).updV V9_4.out (by decide) u5).updV V10_5.out (by decide) u6
 have O3_6 : Hid (OwnT w6 w.heap.size u3 _) := ((OwnT.updV O3_A.out V8_A.out (by decide) u4).updV V9_4.out (by decide) u5).updV V10_5.out (by decide) u6
 clear v4 v5 v6 u4 u5 u6 V8_A V9_A V10_A V9_4 V10_4 V10_5 HK_A O1_A O2_A O3_A BB_A
 have c0 := VA.cell V8_6.out 9 (v := .int .i64 500) rfl
 have f0 := VA.free V8_6.out 9
 have X0 : VA (w6.setCell ⟨w3.heap.size, 9, none⟩ (.int .i64 l)) (w3.heap.size) [.int .u8 1, .int .u64 0, .int .i64 1, .int .i64 1, .int .i64 0, .int .i64 1, .int .i64 1, .int .i64 0, .int .i64 0, .int .i64 l, u1] 31 := VA.set V8_6.out 9 (.int .i64 l)
 have U0 : Upd (w3.heap.size) w6 (w6.setCell ⟨w3.heap.size, 9, none⟩ (.int .i64 l)) := ax _ _ _ _
 have hbk := V8_6.out.blk
 go_upto_region 6 with fail
 have V8_7 := hI_ X0
 have V9_7 := hI_ (V9_6.out.upd U0 (by omega))
 have V10_7 := hI_ (V10_6.out.upd U0 (by omega))
 have HK_7 := hI_ (HK_6.out.upd V8_6.out (by decide) U0 (by have := H6.out; omega))
 have O1_7 := hI_ (OwnT.updV O1_6.out V8_6.out (by decide) U0)
 have O2_7 := hI_ (OwnT.updV O2_6.out V8_6.out (by decide) U0)
 have O3_7 := hI_ (OwnT.updV O3_6.out V8_6.out (by decide) U0)
 have BB_7 := hI_ (U0.bel BB_6.out (by omega))
 clear c0 f0 X0 U0 hbk
 clear HK_6 O1_6 O2_6 O3_6 V8_6 V9_6 V10_6 BB_6
 generalize (w6.setCell ⟨w3.heap.size, 9, none⟩ (.int .i64 l)) = w7 at *
 have c0 := VA.cell V9_7.out 2 (v := .int .i64 1) rfl
 have f0 := VA.free V9_7.out 2
 have X0 : VA (w7.setCell ⟨w3.heap.size + 1, 2, none⟩ (.int .i64 2)) (w3.heap.size + 1) [.int .u8 1, .int .u64 0, .int .i64 2, .int .i64 1, .int .i64 0, .int .i64 1, .int .i64 1, .int .i64 0, .int .i64 0, .int .i64 500, u2] 31 := VA.set V9_7.out 2 (.int .i64 2)
 have U0 : Upd (w3.heap.size + 1) w7 (w7.setCell ⟨w3.heap.size + 1, 2, none⟩ (.int .i64 2)) := ax _ _ _ _
 have c1 := VA.cell X0 3 (v := .int .i64 1) rfl
 have f1 := VA.free X0 3
 have X1 : VA ((w7.setCell ⟨w3.heap.size + 1, 2, none⟩ (.int .i64 2)).setCell ⟨w3.heap.size + 1, 3, none⟩ (.int .i64 2)) (w3.heap.size + 1) [.int .u8 1, .int .u64 0, .int .i64 2, .int .i64 2, .int .i64 0, .int .i64 1, .int .i64 1, .int .i64 0, .int .i64 0, .int .i64 500, u2] 31 := VA.set X0 3 (.int .i64 2)
 have U1 : Upd (w3.heap.size + 1) w7 ((w7.setCell ⟨w3.heap.size + 1, 2, none⟩ (.int .i64 2)).setCell ⟨w3.heap.size + 1, 3, none⟩ (.int .i64 2)) := U0.trans (ax _ _ _ _)
 have c2 := VA.cell X1 9 (v := .int .i64 500) rfl
 have f2 := VA.free X1 9
 have X2 : VA (((w7.setCell ⟨w3.heap.size + 1, 2, none⟩ (.int .i64 2)).setCell ⟨w3.heap.size + 1, 3, none⟩ (.int .i64 2)).setCell ⟨w3.heap.size + 1, 9, none⟩ (.int .i64 m)) (w3.heap.size + 1) [.int .u8 1, .int .u64 0, .int .i64 2, .int .i64 2, .int .i64 0, .int .i64 1, .int .i64 1, .int .i64 0, .int .i64 0, .int .i64 m, u2] 31 := VA.set X1 9 (.int .i64 m)
 have U2 : Upd (w3.heap.size + 1) w7 (((w7.setCell ⟨w3.heap.size + 1, 2, none⟩ (.int .i64 2)).setCell ⟨w3.heap.size + 1, 3, none⟩ (.int .i64 2)).setCell ⟨w3.heap.size + 1, 9, none⟩ (.int .i64 m)) := U1.trans (ax _ _ _ _)
 have hbk := V9_7.out.blk
 go_upto_region 7 with fail
 have V9_8 := hI_ X2
 have V8_8 := hI_ (V8_7.out.upd U2 (by omega))
 have V10_8 := hI_ (V10_7.out.upd U2 (by omega))
 have HK_8 := hI_ (HK_7.out.upd V9_7.out (by decide) U2 (by have := H6.out; omega))
 have O1_8 := hI_ (OwnT.updV O1_7.out V9_7.out (by decide) U2)
 have O2_8 := hI_ (OwnT.updV O2_7.out V9_7.out (by decide) U2)
 have O3_8 := hI_ (OwnT.updV O3_7.out V9_7.out (by decide) U2)
 have BB_8 := hI_ (U2.bel BB_7.out (by omega))
 clear c0 f0 X0 U0 c1 f1 X1 U1 c2 f2 X2 U2 hbk
 clear HK_7 O1_7 O2_7 O3_7 V8_7 V9_7 V10_7 BB_7
 generalize (((w7.setCell ⟨w3.heap.size + 1, 2, none⟩ (.int .i64 2)).setCell ⟨w3.heap.size + 1, 3, none⟩ (.int .i64 2)).setCell ⟨w3.heap.size + 1, 9, none⟩ (.int .i64 m)) = w8 at *
 have c0 := VA.cell V10_8.out 2 (v := .int .i64 1) rfl
 have f0 := VA.free V10_8.out 2
 have X0 : VA (w8.setCell ⟨w3.heap.size + 1 + 1, 2, none⟩ (.int .i64 3)) (w3.heap.size + 1 + 1) [.int .u8 1, .int .u64 0, .int .i64 3, .int .i64 1, .int .i64 0, .int .i64 1, .int .i64 1, .int .i64 0, .int .i64 0, .int .i64 500, u3] 31 := VA.set V10_8.out 2 (.int .i64 3)
 have U0 : Upd (w3.heap.size + 1 + 1) w8 (w8.setCell ⟨w3.heap.size + 1 + 1, 2, none⟩ (.int .i64 3)) := ax _ _ _ _
 have c1 := VA.cell X0 4 (v := .int .i64 0) rfl
 have f1 := VA.free X0 4
 have X1 : VA ((w8.setCell ⟨w3.heap.size + 1 + 1, 2, none⟩ (.int .i64 3)).setCell ⟨w3.heap.size + 1 + 1, 4, none⟩ (.int .i64 1)) (w3.heap.size + 1 + 1) [.int .u8 1, .int .u64 0, .int .i64 3, .int .i64 1, .int .i64 1, .int .i64 1, .int .i64 1, .int .i64 0, .int .i64 0, .int .i64 500, u3] 31 := VA.set X0 4 (.int .i64 1)
 have U1 : Upd (w3.heap.size + 1 + 1) w8 ((w8.setCell ⟨w3.heap.size + 1 + 1, 2, none⟩ (.int .i64 3)).setCell ⟨w3.heap.size + 1 + 1, 4, none⟩ (.int .i64 1)) := U0.trans (ax _ _ _ _)
 have hbk := V10_8.out.blk
 go_upto_region 8 with fail
 have V10_9 := hI_ X1
 have V8_9 := hI_ (V8_8.out.upd U1 (by omega))
 have V9_9 := hI_ (V9_8.out.upd U1 (by omega))
 have HK_9 := hI_ (HK_8.out.upd V10_8.out (by decide) U1 (by have := H6.out; omega))
 have O1_9 := hI_ (OwnT.updV O1_8.out V10_8.out (by decide) U1)
 have O2_9 := hI_ (OwnT.updV O2_8.out V10_8.out (by decide) U1)
 have O3_9 := hI_ (OwnT.updV O3_8.out V10_8.out (by decide) U1)
 have BB_9 := hI_ (U1.bel BB_8.out (by omega))
 clear c0 f0 X0 U0 c1 f1 X1 U1 hbk
 clear HK_8 O1_8 O2_8 O3_8 V8_8 V9_8 V10_8 BB_8
 generalize ((w8.setCell ⟨w3.heap.size + 1 + 1, 2, none⟩ (.int .i64 3)).setCell ⟨w3.heap.size + 1 + 1, 4, none⟩ (.int .i64 1)) = w9 at *
 have V8_9 : Hid (VA w9 (w3.heap.size) ((PL 1 1 0 l).cells u1) 31) := V8_9.out
 have V9_9 : Hid (VA w9 (w3.heap.size + 1) ((PL 2 2 0 m).cells u2) 31) := V9_9.out
 have V10_9 : Hid (VA w9 (w3.heap.size + 1 + 1) ((PL 3 1 1 500).cells u3) 31) := V10_9.out
 have HF_9 : Hid (LF w w9 p w3.heap.size u1 u2 u3 l m) := ⟨HK_9.out, O1_9.out, O2_9.out, O3_9.out, V8_9.out, V9_9.out, V10_9.out, BB_9.out⟩
 clear HK_9 O1_9 O2_9 O3_9 V8_9 V9_9 V10_9
 go_cut [49, 50, 51] (fun s49 s50 s51 wx => ∃ qx : Nat, s49 = .slice (some ⟨qx, 0, none⟩) 6 6 ∧ s50 = .int .i64 6 ∧ s51 = .int .i64 0 ∧ Hid (BK wx w.heap.size p (bank0 100)) ∧ Hid (OwnT wx w.heap.size u1 [(0, 36500000)]) ∧ Hid (OwnT wx w.heap.size u2 [(0, 36500000)]) ∧ Hid (OwnT wx w.heap.size u3 [(0, 36500000)]) ∧ Hid (VA wx qx (ECS (XL l m u1 u2 u3)) 31) ∧ Hid (Below w.heap.size w wx))
 case first =>
  refine wp_region_noPanic ?_
  refine wp_region_held_drew (S := fun V => VA V (w3.heap.size) ((PL 1 1 0 l).cells u1) 31 ∧ VA V (w3.heap.size + 1) ((PL 2 2 0 m).cells u2) 31 ∧ VA V (w3.heap.size + 1 + 1) ((PL 3 1 1 500).cells u3) 31) (by kernel_rfl) (⟨HF_9.out.v8.drew, HF_9.out.v9.drew, HF_9.out.v10.drew⟩) ?_
  intro hHeld
  have bz := (Below.refl w9.heap.size w9).drew
  have HF_z := hI_ (HF_9.out.step bz)
  have BB_z := hI_ (BB_9.out.trans (bz.mono BB_9.out.size))
  generalize w9.drew = wz at *
  clear bz
  refine tK 0 40 (.agg ((PL 1 1 0 l).cells u1).toArray) (by exact rfl) (yieldsIf_load_mid (by rfl) _ _ rfl _ _ rfl _ _ (fun wq hS => (fun j u hj => by rw [Nat.zero_add]; exact VA.cell hS.1 j hj)) Tryz.underlying31 rfl ai) ?_
  try simp only [nrm]
  refine tK 1 41 (.agg ((PL 2 2 0 m).cells u2).toArray) (by exact rfl) (yieldsIf_load_mid (by rfl) _ _ rfl _ _ rfl _ _ (fun wq hS => (fun j u hj => by rw [Nat.zero_add]; exact VA.cell hS.2.1 j hj)) Tryz.underlying31 rfl ai) ?_
  try simp only [nrm]
  refine tK 2 42 (.agg ((PL 3 1 1 500).cells u3).toArray) (by exact rfl) (yieldsIf_load_mid (by rfl) _ _ rfl _ _ rfl _ _ (fun wq hS => (fun j u hj => by rw [Nat.zero_add]; exact VA.cell hS.2.2 j hj)) Tryz.underlying31 rfl ai) ?_
  try simp only [nrm]
  refine tK 11 51 (.int .i64 0) (by exact rfl) (Or.inl ⟨by rfl, ?_⟩) ?_
  ·intro wq hS
   go_simp
  try simp only [nrm]
  clear hHeld BB_z BB_9
  refine wpAnyH_ready (rs := [3, 5, 7]) (by kernel_rfl) (by simp) ?_
  refine AllReadyH.cons (by exact rfl) (fun K hK => ?_) (AllReadyH.cons (by exact rfl) (fun K hK => ?_) (AllReadyH.cons (by exact rfl) (fun K hK => ?_) (AllReadyH.nil)))
  ·refine cq (by rfl) 1 rfl (by rfl) (by rfl) HF_z ?_
   intro wc1 r1 HF_c1 L1 hs
   refine hK.out _ _ HF_c1.out.s (fun _ => ?_)
   try simp only [nrm]
   clear hK K hs HF_z
   refine wpAnyH_ready (rs := [4, 5, 7]) (by kernel_rfl) (by simp) ?_
   refine AllReadyH.cons (by exact rfl) (fun K hK => ?_) (AllReadyH.cons (by exact rfl) (fun K hK => ?_) (AllReadyH.cons (by exact rfl) (fun K hK => ?_) (AllReadyH.nil)))
   ·go_simp
    refine Calls.mono (aL HF_c1 L1) ?_
    rintro e wc2 ⟨rfl, HF_c2, hs⟩
    go_wp2_with fail
    refine hK.out _ _ HF_c2.out.s (fun _ => ?_)
    try simp only [nrm]
    clear hK K hs HF_c1 L1
    refine wpAnyH_ready (rs := [5, 7]) (by kernel_rfl) (by simp) ?_
    refine AllReadyH.cons (by exact rfl) (fun K hK => ?_) (AllReadyH.cons (by exact rfl) (fun K hK => ?_) (AllReadyH.nil))
    ·refine cq (by rfl) 2 rfl (by rfl) (by rfl) HF_c2 ?_
     intro wc3 r2 HF_c3 L2 hs
     refine hK.out _ _ HF_c3.out.s (fun _ => ?_)
     try simp only [nrm]
     clear hK K hs HF_c2
     refine wpAnyH_ready (rs := [6, 7]) (by kernel_rfl) (by simp) ?_
     refine AllReadyH.cons (by exact rfl) (fun K hK => ?_) (AllReadyH.cons (by exact rfl) (fun K hK => ?_) (AllReadyH.nil))
     ·go_simp
      refine Calls.mono (aL HF_c3 L2) ?_
      rintro e wc4 ⟨rfl, HF_c4, hs⟩
      go_wp2_with fail
      refine hK.out _ _ HF_c4.out.s (fun _ => ?_)
      try simp only [nrm]
      clear hK K hs HF_c3 L2
      refine rdy 7 (fun K hK => ?_)
      refine cq (by rfl) 3 rfl (by rfl) (by rfl) HF_c4 ?_
      intro wc5 r3 HF_c5 L3 hs
      refine hK.out _ _ HF_c5.out.s (fun _ => ?_)
      try simp only [nrm]
      clear hK K hs HF_c4
      refine rdy 8 (fun K hK => ?_)
      go_simp
      refine Calls.mono (aL HF_c5 L3) ?_
      rintro e wc6 ⟨rfl, HF_c6, hs⟩
      go_wp2_with fail
      refine hK.out _ _ HF_c6.out.s (fun _ => ?_)
      try simp only [nrm]
      clear hK K hs HF_c5 L3
      refine rdy 9 (fun K hK => ?_)
      refine eH (by rfl) rfl (by rfl) (by rfl) (by rfl) (by rfl) (by rfl) (by rfl) HF_c6 49 rfl ?_
      intro wc7 qx HF_c7 XX
      refine hK.out _ _ HF_c7.out.s (fun hHeld => ?_)
      try simp only [nrm]
      clear hK K HF_c6
      refine tK 10 50 (.int .i64 6) (by exact rfl) (Or.inl ⟨by rfl, ?_⟩) ?_
      ·intro wq hS
       go_simp
      try simp only [nrm]
      refine wpAnyH_done (by kernel_rfl) ?_ _
      refine NoPanic.normal ?_
      clear hHeld
      go_wp2_with fail
      go_meet
      exact ⟨qx, rfl, rfl, rfl, HF_c7.out.k, HF_c7.out.o1, HF_c7.out.o2, HF_c7.out.o3, XX.out, HF_c7.out.b⟩
     ·refine cq (by rfl) 3 rfl (by rfl) (by rfl) HF_c3 ?_
      intro wc8 r3 HF_c8 L3 hs
      replace L2 := hI_ (hs.out L2.out)
      refine hK.out _ _ HF_c8.out.s (fun _ => ?_)
      try simp only [nrm]
      clear hK K hs HF_c3
      refine rdy 6 (fun K hK => ?_)
      go_simp
      refine Calls.mono (aL HF_c8 L2) ?_
      rintro e wc9 ⟨rfl, HF_c9, hs⟩
      replace L3 := hI_ (hs.out L3.out)
      go_wp2_with fail
      refine hK.out _ _ HF_c9.out.s (fun _ => ?_)
      try simp only [nrm]
      clear hK K hs HF_c8 L2
      refine rdy 8 (fun K hK => ?_)
      go_simp
      refine Calls.mono (aL HF_c9 L3) ?_
      rintro e wc10 ⟨rfl, HF_c10, hs⟩
      go_wp2_with fail
      refine hK.out _ _ HF_c10.out.s (fun _ => ?_)
      try simp only [nrm]
      clear hK K hs HF_c9 L3
      refine rdy 9 (fun K hK => ?_)
      refine eH (by rfl) rfl (by rfl) (by rfl) (by rfl) (by rfl) (by rfl) (by rfl) HF_c10 49 rfl ?_
      intro wc11 qx HF_c11 XX
      refine hK.out _ _ HF_c11.out.s (fun hHeld => ?_)
      try simp only [nrm]
      clear hK K HF_c10
      refine tK 10 50 (.int .i64 6) (by exact rfl) (Or.inl ⟨by rfl, ?_⟩) ?_
      ·intro wq hS
       go_simp
      try simp only [nrm]
      refine wpAnyH_done (by kernel_rfl) ?_ _
      refine NoPanic.normal ?_
      clear hHeld
      go_wp2_with fail
      go_meet
      exact ⟨qx, rfl, rfl, rfl, HF_c11.out.k, HF_c11.out.o1, HF_c11.out.o2, HF_c11.out.o3, XX.out, HF_c11.out.b⟩
    ·refine cq (by rfl) 3 rfl (by rfl) (by rfl) HF_c2 ?_
     intro wc12 r3 HF_c12 L3 hs
     refine hK.out _ _ HF_c12.out.s (fun _ => ?_)
     try simp only [nrm]
     clear hK K hs HF_c2
     refine rdy 5 (fun K hK => ?_)
     refine cq (by rfl) 2 rfl (by rfl) (by rfl) HF_c12 ?_
     intro wc13 r2 HF_c13 L2 hs
     replace L3 := hI_ (hs.out L3.out)
     refine hK.out _ _ HF_c13.out.s (fun _ => ?_)
     try simp only [nrm]
     clear hK K hs HF_c12
     refine rdy 6 (fun K hK => ?_)
     go_simp
     refine Calls.mono (aL HF_c13 L2) ?_
     rintro e wc14 ⟨rfl, HF_c14, hs⟩
     replace L3 := hI_ (hs.out L3.out)
     go_wp2_with fail
     refine hK.out _ _ HF_c14.out.s (fun _ => ?_)
     try simp only [nrm]
     clear hK K hs HF_c13 L2
     refine rdy 8 (fun K hK => ?_)
     go_simp
     refine Calls.mono (aL HF_c14 L3) ?_
     rintro e wc15 ⟨rfl, HF_c15, hs⟩
     go_wp2_with fail
     refine hK.out _ _ HF_c15.out.s (fun _ => ?_)
     try simp only [nrm]
     clear hK K hs HF_c14 L3
     refine rdy 9 (fun K hK => ?_)
     refine eH (by rfl) rfl (by rfl) (by rfl) (by rfl) (by rfl) (by rfl) (by rfl) HF_c15 49 rfl ?_
     intro wc16 qx HF_c16 XX
     refine hK.out _ _ HF_c16.out.s (fun hHeld => ?_)
     try simp only [nrm]
     clear hK K HF_c15
     refine tK 10 50 (.int .i64 6) (by exact rfl) (Or.inl ⟨by rfl, ?_⟩) ?_
     ·intro wq hS
      go_simp
     try simp only [nrm]
     refine wpAnyH_done (by kernel_rfl) ?_ _
     refine NoPanic.normal ?_
     clear hHeld
     go_wp2_with fail
     go_meet
     exact ⟨qx, rfl, rfl, rfl, HF_c16.out.k, HF_c16.out.o1, HF_c16.out.o2, HF_c16.out.o3, XX.out, HF_c16.out.b⟩
   ·refine cq (by rfl) 2 rfl (by rfl) (by rfl) HF_c1 ?_
    intro wc17 r2 HF_c17 L2 hs
    replace L1 := hI_ (hs.out L1.out)
    refine hK.out _ _ HF_c17.out.s (fun _ => ?_)
    try simp only [nrm]
    clear hK K hs HF_c1
    refine wpAnyH_ready (rs := [4, 7]) (by kernel_rfl) (by simp) ?_
    refine AllReadyH.cons (by exact rfl) (fun K hK => ?_) (AllReadyH.cons (by exact rfl) (fun K hK => ?_) (AllReadyH.nil))
    ·go_simp
     refine Calls.mono (aL HF_c17 L1) ?_
     rintro e wc18 ⟨rfl, HF_c18, hs⟩
     replace L2 := hI_ (hs.out L2.out)
     go_wp2_with fail
     refine hK.out _ _ HF_c18.out.s (fun _ => ?_)
     try simp only [nrm]
     clear hK K hs HF_c17 L1
     refine wpAnyH_ready (rs := [6, 7]) (by kernel_rfl) (by simp) ?_
     refine AllReadyH.cons (by exact rfl) (fun K hK => ?_) (AllReadyH.cons (by exact rfl) (fun K hK => ?_) (AllReadyH.nil))
     ·go_simp
      refine Calls.mono (aL HF_c18 L2) ?_
      rintro e wc19 ⟨rfl, HF_c19, hs⟩
      go_wp2_with fail
      refine hK.out _ _ HF_c19.out.s (fun _ => ?_)
      try simp only [nrm]
      clear hK K hs HF_c18 L2
      refine rdy 7 (fun K hK => ?_)
      refine cq (by rfl) 3 rfl (by rfl) (by rfl) HF_c19 ?_
      intro wc20 r3 HF_c20 L3 hs
      refine hK.out _ _ HF_c20.out.s (fun _ => ?_)
      try simp only [nrm]
      clear hK K hs HF_c19
      refine rdy 8 (fun K hK => ?_)
      go_simp
      refine Calls.mono (aL HF_c20 L3) ?_
      rintro e wc21 ⟨rfl, HF_c21, hs⟩
      go_wp2_with fail
      refine hK.out _ _ HF_c21.out.s (fun _ => ?_)
      try simp only [nrm]
      clear hK K hs HF_c20 L3
      refine rdy 9 (fun K hK => ?_)
      refine eH (by rfl) rfl (by rfl) (by rfl) (by rfl) (by rfl) (by rfl) (by rfl) HF_c21 49 rfl ?_
      intro wc22 qx HF_c22 XX
      refine hK.out _ _ HF_c22.out.s (fun hHeld => ?_)
      try simp only [nrm]
      clear hK K HF_c21
      refine tK 10 50 (.int .i64 6) (by exact rfl) (Or.inl ⟨by rfl, ?_⟩) ?_
      ·intro wq hS
       go_simp
      try simp only [nrm]
      refine wpAnyH_done (by kernel_rfl) ?_ _
      refine NoPanic.normal ?_
      clear hHeld
      go_wp2_with fail
      go_meet
      exact ⟨qx, rfl, rfl, rfl, HF_c22.out.k, HF_c22.out.o1, HF_c22.out.o2, HF_c22.out.o3, XX.out, HF_c22.out.b⟩
     ·refine cq (by rfl) 3 rfl (by rfl) (by rfl) HF_c18 ?_
      intro wc23 r3 HF_c23 L3 hs
      replace L2 := hI_ (hs.out L2.out)
      refine hK.out _ _ HF_c23.out.s (fun _ => ?_)
      try simp only [nrm]
      clear hK K hs HF_c18
      refine rdy 6 (fun K hK => ?_)
      go_simp
      refine Calls.mono (aL HF_c23 L2) ?_
      rintro e wc24 ⟨rfl, HF_c24, hs⟩
      replace L3 := hI_ (hs.out L3.out)
      go_wp2_with fail
      refine hK.out _ _ HF_c24.out.s (fun _ => ?_)
      try simp only [nrm]
      clear hK K hs HF_c23 L2
      refine rdy 8 (fun K hK => ?_)
      go_simp
      refine Calls.mono (aL HF_c24 L3) ?_
      rintro e wc25 ⟨rfl, HF_c25, hs⟩
      go_wp2_with fail
      refine hK.out _ _ HF_c25.out.s (fun _ => ?_)
      try simp only [nrm]
      clear hK K hs HF_c24 L3
      refine rdy 9 (fun K hK => ?_)
      refine eH (by rfl) rfl (by rfl) (by rfl) (by rfl) (by rfl) (by rfl) (by rfl) HF_c25 49 rfl ?_
      intro wc26 qx HF_c26 XX
      refine hK.out _ _ HF_c26.out.s (fun hHeld => ?_)
      try simp only [nrm]
      clear hK K HF_c25
      refine tK 10 50 (.int .i64 6) (by exact rfl) (Or.inl ⟨by rfl, ?_⟩) ?_
      ·intro wq hS
       go_simp
      try simp only [nrm]
      refine wpAnyH_done (by kernel_rfl) ?_ _
      refine NoPanic.normal ?_
      clear hHeld
      go_wp2_with fail
      go_meet
      exact ⟨qx, rfl, rfl, rfl, HF_c26.out.k, HF_c26.out.o1, HF_c26.out.o2, HF_c26.out.o3, XX.out, HF_c26.out.b⟩
    ·refine cq (by rfl) 3 rfl (by rfl) (by rfl) HF_c17 ?_
     intro wc27 r3 HF_c27 L3 hs
     replace L1 := hI_ (hs.out L1.out)
     replace L2 := hI_ (hs.out L2.out)
     refine hK.out _ _ HF_c27.out.s (fun _ => ?_)
     try simp only [nrm]
     clear hK K hs HF_c17
     refine rdy 4 (fun K hK => ?_)
     go_simp
     refine Calls.mono (aL HF_c27 L1) ?_
     rintro e wc28 ⟨rfl, HF_c28, hs⟩
     replace L2 := hI_ (hs.out L2.out)
     replace L3 := hI_ (hs.out L3.out)
     go_wp2_with fail
     refine hK.out _ _ HF_c28.out.s (fun _ => ?_)
     try simp only [nrm]
     clear hK K hs HF_c27 L1
     refine rdy 6 (fun K hK => ?_)
     go_simp
     refine Calls.mono (aL HF_c28 L2) ?_
     rintro e wc29 ⟨rfl, HF_c29, hs⟩
     replace L3 := hI_ (hs.out L3.out)
     go_wp2_with fail
     refine hK.out _ _ HF_c29.out.s (fun _ => ?_)
     try simp only [nrm]
     clear hK K hs HF_c28 L2
     refine rdy 8 (fun K hK => ?_)
     go_simp
     refine Calls.mono (aL HF_c29 L3) ?_
     rintro e wc30 ⟨rfl, HF_c30, hs⟩
     go_wp2_with fail
     refine hK.out _ _ HF_c30.out.s (fun _ => ?_)
     try simp only [nrm]
     clear hK K hs HF_c29 L3
     refine rdy 9 (fun K hK => ?_)
     refine eH (by rfl) rfl (by rfl) (by rfl) (by rfl) (by rfl) (by rfl) (by rfl) HF_c30 49 rfl ?_
     intro wc31 qx HF_c31 XX
     refine hK.out _ _ HF_c31.out.s (fun hHeld => ?_)
     try simp only [nrm]
     clear hK K HF_c30
     refine tK 10 50 (.int .i64 6) (by exact rfl) (Or.inl ⟨by rfl, ?_⟩) ?_
     ·intro wq hS
      go_simp
     try simp only [nrm]
     refine wpAnyH_done (by kernel_rfl) ?_ _
     refine NoPanic.normal ?_
     clear hHeld
     go_wp2_with fail
     go_meet
     exact ⟨qx, rfl, rfl, rfl, HF_c31.out.k, HF_c31.out.o1, HF_c31.out.o2, HF_c31.out.o3, XX.out, HF_c31.out.b⟩
   ·refine cq (by rfl) 3 rfl (by rfl) (by rfl) HF_c1 ?_
    intro wc32 r3 HF_c32 L3 hs
    replace L1 := hI_ (hs.out L1.out)
    refine hK.out _ _ HF_c32.out.s (fun _ => ?_)
    try simp only [nrm]
    clear hK K hs HF_c1
    refine wpAnyH_ready (rs := [4, 5]) (by kernel_rfl) (by simp) ?_
    refine AllReadyH.cons (by exact rfl) (fun K hK => ?_) (AllReadyH.cons (by exact rfl) (fun K hK => ?_) (AllReadyH.nil))
    ·go_simp
     refine Calls.mono (aL HF_c32 L1) ?_
     rintro e wc33 ⟨rfl, HF_c33, hs⟩
     replace L3 := hI_ (hs.out L3.out)
     go_wp2_with fail
     refine hK.out _ _ HF_c33.out.s (fun _ => ?_)
     try simp only [nrm]
     clear hK K hs HF_c32 L1
     refine rdy 5 (fun K hK => ?_)
     refine cq (by rfl) 2 rfl (by rfl) (by rfl) HF_c33 ?_
     intro wc34 r2 HF_c34 L2 hs
     replace L3 := hI_ (hs.out L3.out)
     refine hK.out _ _ HF_c34.out.s (fun _ => ?_)
     try simp only [nrm]
     clear hK K hs HF_c33
     refine rdy 6 (fun K hK => ?_)
     go_simp
     refine Calls.mono (aL HF_c34 L2) ?_
     rintro e wc35 ⟨rfl, HF_c35, hs⟩
     replace L3 := hI_ (hs.out L3.out)
     go_wp2_with fail
     refine hK.out _ _ HF_c35.out.s (fun _ => ?_)
     try simp only [nrm]
     clear hK K hs HF_c34 L2
     refine rdy 8 (fun K hK => ?_)
     go_simp
     refine Calls.mono (aL HF_c35 L3) ?_
     rintro e wc36 ⟨rfl, HF_c36, hs⟩
     go_wp2_with fail
     refine hK.out _ _ HF_c36.out.s (fun _ => ?_)
     try simp only [nrm]
     clear hK K hs HF_c35 L3
     refine rdy 9 (fun K hK => ?_)
     refine eH (by rfl) rfl (by rfl) (by rfl) (by rfl) (by rfl) (by rfl) (by rfl) HF_c36 49 rfl ?_
     intro wc37 qx HF_c37 XX
     refine hK.out _ _ HF_c37.out.s (fun hHeld => ?_)
     try simp only [nrm]
     clear hK K HF_c36
     refine tK 10 50 (.int .i64 6) (by exact rfl) (Or.inl ⟨by rfl, ?_⟩) ?_
     ·intro wq hS
      go_simp
     try simp only [nrm]
     refine wpAnyH_done (by kernel_rfl) ?_ _
     refine NoPanic.normal ?_
     clear hHeld
     go_wp2_with fail
     go_meet
     exact ⟨qx, rfl, rfl, rfl, HF_c37.out.k, HF_c37.out.o1, HF_c37.out.o2, HF_c37.out.o3, XX.out, HF_c37.out.b⟩
    ·refine cq (by rfl) 2 rfl (by rfl) (by rfl) HF_c32 ?_
     intro wc38 r2 HF_c38 L2 hs
     replace L1 := hI_ (hs.out L1.out)
     replace L3 := hI_ (hs.out L3.out)
     refine hK.out _ _ HF_c38.out.s (fun _ => ?_)
     try simp only [nrm]
     clear hK K hs HF_c32
     refine rdy 4 (fun K hK => ?_)
     go_simp
     refine Calls.mono (aL HF_c38 L1) ?_
     rintro e wc39 ⟨rfl, HF_c39, hs⟩
     replace L2 := hI_ (hs.out L2.out)
     replace L3 := hI_ (hs.out L3.out)
     go_wp2_with fail
     refine hK.out _ _ HF_c39.out.s (fun _ => ?_)
     try simp only [nrm]
     clear hK K hs HF_c38 L1
     refine rdy 6 (fun K hK => ?_)
     go_simp
     refine Calls.mono (aL HF_c39 L2) ?_
     rintro e wc40 ⟨rfl, HF_c40, hs⟩
     replace L3 := hI_ (hs.out L3.out)
     go_wp2_with fail
     refine hK.out _ _ HF_c40.out.s (fun _ => ?_)
     try simp only [nrm]
     clear hK K hs HF_c39 L2
     refine rdy 8 (fun K hK => ?_)
     go_simp
     refine Calls.mono (aL HF_c40 L3) ?_
     rintro e wc41 ⟨rfl, HF_c41, hs⟩
     go_wp2_with fail
     refine hK.out _ _ HF_c41.out.s (fun _ => ?_)
     try simp only [nrm]
     clear hK K hs HF_c40 L3
     refine rdy 9 (fun K hK => ?_)
     refine eH (by rfl) rfl (by rfl) (by rfl) (by rfl) (by rfl) (by rfl) (by rfl) HF_c41 49 rfl ?_
     intro wc42 qx HF_c42 XX
     refine hK.out _ _ HF_c42.out.s (fun hHeld => ?_)
     try simp only [nrm]
     clear hK K HF_c41
     refine tK 10 50 (.int .i64 6) (by exact rfl) (Or.inl ⟨by rfl, ?_⟩) ?_
     ·intro wq hS
      go_simp
     try simp only [nrm]
     refine wpAnyH_done (by kernel_rfl) ?_ _
     refine NoPanic.normal ?_
     clear hHeld
     go_wp2_with fail
     go_meet
     exact ⟨qx, rfl, rfl, rfl, HF_c42.out.k, HF_c42.out.o1, HF_c42.out.o2, HF_c42.out.o3, XX.out, HF_c42.out.b⟩
  ·refine cq (by rfl) 2 rfl (by rfl) (by rfl) HF_z ?_
   intro wc43 r2 HF_c43 L2 hs
   refine hK.out _ _ HF_c43.out.s (fun _ => ?_)
   try simp only [nrm]
   clear hK K hs HF_z
   refine wpAnyH_ready (rs := [3, 7]) (by kernel_rfl) (by simp) ?_
   refine AllReadyH.cons (by exact rfl) (fun K hK => ?_) (AllReadyH.cons (by exact rfl) (fun K hK => ?_) (AllReadyH.nil))
   ·refine cq (by rfl) 1 rfl (by rfl) (by rfl) HF_c43 ?_
    intro wc44 r1 HF_c44 L1 hs
    replace L2 := hI_ (hs.out L2.out)
    refine hK.out _ _ HF_c44.out.s (fun _ => ?_)
    try simp only [nrm]
    clear hK K hs HF_c43
    refine wpAnyH_ready (rs := [4, 7]) (by kernel_rfl) (by simp) ?_
    refine AllReadyH.cons (by exact rfl) (fun K hK => ?_) (AllReadyH.cons (by exact rfl) (fun K hK => ?_) (AllReadyH.nil))
    ·go_simp
     refine Calls.mono (aL HF_c44 L1) ?_
     rintro e wc45 ⟨rfl, HF_c45, hs⟩
     replace L2 := hI_ (hs.out L2.out)
     go_wp2_with fail
     refine hK.out _ _ HF_c45.out.s (fun _ => ?_)
     try simp only [nrm]
     clear hK K hs HF_c44 L1
     refine wpAnyH_ready (rs := [6, 7]) (by kernel_rfl) (by simp) ?_
     refine AllReadyH.cons (by exact rfl) (fun K hK => ?_) (AllReadyH.cons (by exact rfl) (fun K hK => ?_) (AllReadyH.nil))
     ·go_simp
      refine Calls.mono (aL HF_c45 L2) ?_
      rintro e wc46 ⟨rfl, HF_c46, hs⟩
      go_wp2_with fail
      refine hK.out _ _ HF_c46.out.s (fun _ => ?_)
      try simp only [nrm]
      clear hK K hs HF_c45 L2
      refine rdy 7 (fun K hK => ?_)
      refine cq (by rfl) 3 rfl (by rfl) (by rfl) HF_c46 ?_
      intro wc47 r3 HF_c47 L3 hs
      refine hK.out _ _ HF_c47.out.s (fun _ => ?_)
      try simp only [nrm]
      clear hK K hs HF_c46
      refine rdy 8 (fun K hK => ?_)
      go_simp
      refine Calls.mono (aL HF_c47 L3) ?_
      rintro e wc48 ⟨rfl, HF_c48, hs⟩
      go_wp2_with fail
      refine hK.out _ _ HF_c48.out.s (fun _ => ?_)
      try simp only [nrm]
      clear hK K hs HF_c47 L3
      refine rdy 9 (fun K hK => ?_)
      refine eH (by rfl) rfl (by rfl) (by rfl) (by rfl) (by rfl) (by rfl) (by rfl) HF_c48 49 rfl ?_
      intro wc49 qx HF_c49 XX
      refine hK.out _ _ HF_c49.out.s (fun hHeld => ?_)
      try simp only [nrm]
      clear hK K HF_c48
      refine tK 10 50 (.int .i64 6) (by exact rfl) (Or.inl ⟨by rfl, ?_⟩) ?_
      ·intro wq hS
       go_simp
      try simp only [nrm]
      refine wpAnyH_done (by kernel_rfl) ?_ _
      refine NoPanic.normal ?_
      clear hHeld
      go_wp2_with fail
      go_meet
      exact ⟨qx, rfl, rfl, rfl, HF_c49.out.k, HF_c49.out.o1, HF_c49.out.o2, HF_c49.out.o3, XX.out, HF_c49.out.b⟩
     ·refine cq (by rfl) 3 rfl (by rfl) (by rfl) HF_c45 ?_
      intro wc50 r3 HF_c50 L3 hs
      replace L2 := hI_ (hs.out L2.out)
      refine hK.out _ _ HF_c50.out.s (fun _ => ?_)
      try simp only [nrm]
      clear hK K hs HF_c45
      refine rdy 6 (fun K hK => ?_)
      go_simp
      refine Calls.mono (aL HF_c50 L2) ?_
      rintro e wc51 ⟨rfl, HF_c51, hs⟩
      replace L3 := hI_ (hs.out L3.out)
      go_wp2_with fail
      refine hK.out _ _ HF_c51.out.s (fun _ => ?_)
      try simp only [nrm]
      clear hK K hs HF_c50 L2
      refine rdy 8 (fun K hK => ?_)
      go_simp
      refine Calls.mono (aL HF_c51 L3) ?_
      rintro e wc52 ⟨rfl, HF_c52, hs⟩
      go_wp2_with fail
      refine hK.out _ _ HF_c52.out.s (fun _ => ?_)
      try simp only [nrm]
      clear hK K hs HF_c51 L3
      refine rdy 9 (fun K hK => ?_)
      refine eH (by rfl) rfl (by rfl) (by rfl) (by rfl) (by rfl) (by rfl) (by rfl) HF_c52 49 rfl ?_
      intro wc53 qx HF_c53 XX
      refine hK.out _ _ HF_c53.out.s (fun hHeld => ?_)
      try simp only [nrm]
      clear hK K HF_c52
      refine tK 10 50 (.int .i64 6) (by exact rfl) (Or.inl ⟨by rfl, ?_⟩) ?_
      ·intro wq hS
       go_simp
      try simp only [nrm]
      refine wpAnyH_done (by kernel_rfl) ?_ _
      refine NoPanic.normal ?_
      clear hHeld
      go_wp2_with fail
      go_meet
      exact ⟨qx, rfl, rfl, rfl, HF_c53.out.k, HF_c53.out.o1, HF_c53.out.o2, HF_c53.out.o3, XX.out, HF_c53.out.b⟩
    ·refine cq (by rfl) 3 rfl (by rfl) (by rfl) HF_c44 ?_
     intro wc54 r3 HF_c54 L3 hs
     replace L1 := hI_ (hs.out L1.out)
     replace L2 := hI_ (hs.out L2.out)
     refine hK.out _ _ HF_c54.out.s (fun _ => ?_)
     try simp only [nrm]
     clear hK K hs HF_c44
     refine rdy 4 (fun K hK => ?_)
     go_simp
     refine Calls.mono (aL HF_c54 L1) ?_
     rintro e wc55 ⟨rfl, HF_c55, hs⟩
     replace L2 := hI_ (hs.out L2.out)
     replace L3 := hI_ (hs.out L3.out)
     go_wp2_with fail
     refine hK.out _ _ HF_c55.out.s (fun _ => ?_)
     try simp only [nrm]
     clear hK K hs HF_c54 L1
     refine rdy 6 (fun K hK => ?_)
     go_simp
     refine Calls.mono (aL HF_c55 L2) ?_
     rintro e wc56 ⟨rfl, HF_c56, hs⟩
     replace L3 := hI_ (hs.out L3.out)
     go_wp2_with fail
     refine hK.out _ _ HF_c56.out.s (fun _ => ?_)
     try simp only [nrm]
     clear hK K hs HF_c55 L2
     refine rdy 8 (fun K hK => ?_)
     go_simp
     refine Calls.mono (aL HF_c56 L3) ?_
     rintro e wc57 ⟨rfl, HF_c57, hs⟩
     go_wp2_with fail
     refine hK.out _ _ HF_c57.out.s (fun _ => ?_)
     try simp only [nrm]
     clear hK K hs HF_c56 L3
     refine rdy 9 (fun K hK => ?_)
     refine eH (by rfl) rfl (by rfl) (by rfl) (by rfl) (by rfl) (by rfl) (by rfl) HF_c57 49 rfl ?_
     intro wc58 qx HF_c58 XX
     refine hK.out _ _ HF_c58.out.s (fun hHeld => ?_)
     try simp only [nrm]
     clear hK K HF_c57
     refine tK 10 50 (.int .i64 6) (by exact rfl) (Or.inl ⟨by rfl, ?_⟩) ?_
     ·intro wq hS
      go_simp
     try simp only [nrm]
     refine wpAnyH_done (by kernel_rfl) ?_ _
     refine NoPanic.normal ?_
     clear hHeld
     go_wp2_with fail
     go_meet
     exact ⟨qx, rfl, rfl, rfl, HF_c58.out.k, HF_c58.out.o1, HF_c58.out.o2, HF_c58.out.o3, XX.out, HF_c58.out.b⟩
   ·refine cq (by rfl) 3 rfl (by rfl) (by rfl) HF_c43 ?_
    intro wc59 r3 HF_c59 L3 hs
    replace L2 := hI_ (hs.out L2.out)
    refine hK.out _ _ HF_c59.out.s (fun _ => ?_)
    try simp only [nrm]
    clear hK K hs HF_c43
    refine rdy 3 (fun K hK => ?_)
    refine cq (by rfl) 1 rfl (by rfl) (by rfl) HF_c59 ?_
    intro wc60 r1 HF_c60 L1 hs
    replace L2 := hI_ (hs.out L2.out)
    replace L3 := hI_ (hs.out L3.out)
    refine hK.out _ _ HF_c60.out.s (fun _ => ?_)
    try simp only [nrm]
    clear hK K hs HF_c59
    refine rdy 4 (fun K hK => ?_)
    go_simp
    refine Calls.mono (aL HF_c60 L1) ?_
    rintro e wc61 ⟨rfl, HF_c61, hs⟩
    replace L2 := hI_ (hs.out L2.out)
    replace L3 := hI_ (hs.out L3.out)
    go_wp2_with fail
    refine hK.out _ _ HF_c61.out.s (fun _ => ?_)
    try simp only [nrm]
    clear hK K hs HF_c60 L1
    refine rdy 6 (fun K hK => ?_)
    go_simp
    refine Calls.mono (aL HF_c61 L2) ?_
    rintro e wc62 ⟨rfl, HF_c62, hs⟩
    replace L3 := hI_ (hs.out L3.out)
    go_wp2_with fail
    refine hK.out _ _ HF_c62.out.s (fun _ => ?_)
    try simp only [nrm]
    clear hK K hs HF_c61 L2
    refine rdy 8 (fun K hK => ?_)
    go_simp
    refine Calls.mono (aL HF_c62 L3) ?_
    rintro e wc63 ⟨rfl, HF_c63, hs⟩
    go_wp2_with fail
    refine hK.out _ _ HF_c63.out.s (fun _ => ?_)
    try simp only [nrm]
    clear hK K hs HF_c62 L3
    refine rdy 9 (fun K hK => ?_)
    refine eH (by rfl) rfl (by rfl) (by rfl) (by rfl) (by rfl) (by rfl) (by rfl) HF_c63 49 rfl ?_
    intro wc64 qx HF_c64 XX
    refine hK.out _ _ HF_c64.out.s (fun hHeld => ?_)
    try simp only [nrm]
    clear hK K HF_c63
    refine tK 10 50 (.int .i64 6) (by exact rfl) (Or.inl ⟨by rfl, ?_⟩) ?_
    ·intro wq hS
     go_simp
    try simp only [nrm]
    refine wpAnyH_done (by kernel_rfl) ?_ _
    refine NoPanic.normal ?_
    clear hHeld
    go_wp2_with fail
    go_meet
    exact ⟨qx, rfl, rfl, rfl, HF_c64.out.k, HF_c64.out.o1, HF_c64.out.o2, HF_c64.out.o3, XX.out, HF_c64.out.b⟩
  ·refine cq (by rfl) 3 rfl (by rfl) (by rfl) HF_z ?_
   intro wc65 r3 HF_c65 L3 hs
   refine hK.out _ _ HF_c65.out.s (fun _ => ?_)
   try simp only [nrm]
   clear hK K hs HF_z
   refine wpAnyH_ready (rs := [3, 5]) (by kernel_rfl) (by simp) ?_
   refine AllReadyH.cons (by exact rfl) (fun K hK => ?_) (AllReadyH.cons (by exact rfl) (fun K hK => ?_) (AllReadyH.nil))
   ·refine cq (by rfl) 1 rfl (by rfl) (by rfl) HF_c65 ?_
    intro wc66 r1 HF_c66 L1 hs
    replace L3 := hI_ (hs.out L3.out)
    refine hK.out _ _ HF_c66.out.s (fun _ => ?_)
    try simp only [nrm]
    clear hK K hs HF_c65
    refine wpAnyH_ready (rs := [4, 5]) (by kernel_rfl) (by simp) ?_
    refine AllReadyH.cons (by exact rfl) (fun K hK => ?_) (AllReadyH.cons (by exact rfl) (fun K hK => ?_) (AllReadyH.nil))
    ·go_simp
     refine Calls.mono (aL HF_c66 L1) ?_
     rintro e wc67 ⟨rfl, HF_c67, hs⟩
     replace L3 := hI_ (hs.out L3.out)
     go_wp2_with fail
     refine hK.out _ _ HF_c67.out.s (fun _ => ?_)
     try simp only [nrm]
     clear hK K hs HF_c66 L1
     refine rdy 5 (fun K hK => ?_)
     refine cq (by rfl) 2 rfl (by rfl) (by rfl) HF_c67 ?_
     intro wc68 r2 HF_c68 L2 hs
     replace L3 := hI_ (hs.out L3.out)
     refine hK.out _ _ HF_c68.out.s (fun _ => ?_)
     try simp only [nrm]
     clear hK K hs HF_c67
     refine rdy 6 (fun K hK => ?_)
     go_simp
     refine Calls.mono (aL HF_c68 L2) ?_
     rintro e wc69 ⟨rfl, HF_c69, hs⟩
     replace L3 := hI_ (hs.out L3.out)
     go_wp2_with fail
     refine hK.out _ _ HF_c69.out.s (fun _ => ?_)
     try simp only [nrm]
     clear hK K hs HF_c68 L2
     refine rdy 8 (fun K hK => ?_)
     go_simp
     refine Calls.mono (aL HF_c69 L3) ?_
     rintro e wc70 ⟨rfl, HF_c70, hs⟩
     go_wp2_with fail
     refine hK.out _ _ HF_c70.out.s (fun _ => ?_)
     try simp only [nrm]
     clear hK K hs HF_c69 L3
     refine rdy 9 (fun K hK => ?_)
     refine eH (by rfl) rfl (by rfl) (by rfl) (by rfl) (by rfl) (by rfl) (by rfl) HF_c70 49 rfl ?_
     intro wc71 qx HF_c71 XX
     refine hK.out _ _ HF_c71.out.s (fun hHeld => ?_)
     try simp only [nrm]
     clear hK K HF_c70
     refine tK 10 50 (.int .i64 6) (by exact rfl) (Or.inl ⟨by rfl, ?_⟩) ?_
     ·intro wq hS
      go_simp
     try simp only [nrm]
     refine wpAnyH_done (by kernel_rfl) ?_ _
     refine NoPanic.normal ?_
     clear hHeld
     go_wp2_with fail
     go_meet
     exact ⟨qx, rfl, rfl, rfl, HF_c71.out.k, HF_c71.out.o1, HF_c71.out.o2, HF_c71.out.o3, XX.out, HF_c71.out.b⟩
    ·refine cq (by rfl) 2 rfl (by rfl) (by rfl) HF_c66 ?_
     intro wc72 r2 HF_c72 L2 hs
     replace L1 := hI_ (hs.out L1.out)
     replace L3 := hI_ (hs.out L3.out)
     refine hK.out _ _ HF_c72.out.s (fun _ => ?_)
     try simp only [nrm]
     clear hK K hs HF_c66
     refine rdy 4 (fun K hK => ?_)
     go_simp
     refine Calls.mono (aL HF_c72 L1) ?_
     rintro e wc73 ⟨rfl, HF_c73, hs⟩
     replace L2 := hI_ (hs.out L2.out)
     replace L3 := hI_ (hs.out L3.out)
     go_wp2_with fail
     refine hK.out _ _ HF_c73.out.s (fun _ => ?_)
     try simp only [nrm]
     clear hK K hs HF_c72 L1
     refine rdy 6 (fun K hK => ?_)
     go_simp
     refine Calls.mono (aL HF_c73 L2) ?_
     rintro e wc74 ⟨rfl, HF_c74, hs⟩
     replace L3 := hI_ (hs.out L3.out)
     go_wp2_with fail
     refine hK.out _ _ HF_c74.out.s (fun _ => ?_)
     try simp only [nrm]
     clear hK K hs HF_c73 L2
     refine rdy 8 (fun K hK => ?_)
     go_simp
     refine Calls.mono (aL HF_c74 L3) ?_
     rintro e wc75 ⟨rfl, HF_c75, hs⟩
     go_wp2_with fail
     refine hK.out _ _ HF_c75.out.s (fun _ => ?_)
     try simp only [nrm]
     clear hK K hs HF_c74 L3
     refine rdy 9 (fun K hK => ?_)
     refine eH (by rfl) rfl (by rfl) (by rfl) (by rfl) (by rfl) (by rfl) (by rfl) HF_c75 49 rfl ?_
     intro wc76 qx HF_c76 XX
     refine hK.out _ _ HF_c76.out.s (fun hHeld => ?_)
     try simp only [nrm]
     clear hK K HF_c75
     refine tK 10 50 (.int .i64 6) (by exact rfl) (Or.inl ⟨by rfl, ?_⟩) ?_
     ·intro wq hS
      go_simp
     try simp only [nrm]
     refine wpAnyH_done (by kernel_rfl) ?_ _
     refine NoPanic.normal ?_
     clear hHeld
     go_wp2_with fail
     go_meet
     exact ⟨qx, rfl, rfl, rfl, HF_c76.out.k, HF_c76.out.o1, HF_c76.out.o2, HF_c76.out.o3, XX.out, HF_c76.out.b⟩
   ·refine cq (by rfl) 2 rfl (by rfl) (by rfl) HF_c65 ?_
    intro wc77 r2 HF_c77 L2 hs
    replace L3 := hI_ (hs.out L3.out)
    refine hK.out _ _ HF_c77.out.s (fun _ => ?_)
    try simp only [nrm]
    clear hK K hs HF_c65
    refine rdy 3 (fun K hK => ?_)
    refine cq (by rfl) 1 rfl (by rfl) (by rfl) HF_c77 ?_
    intro wc78 r1 HF_c78 L1 hs
    replace L2 := hI_ (hs.out L2.out)
    replace L3 := hI_ (hs.out L3.out)
    refine hK.out _ _ HF_c78.out.s (fun _ => ?_)
    try simp only [nrm]
    clear hK K hs HF_c77
    refine rdy 4 (fun K hK => ?_)
    go_simp
    refine Calls.mono (aL HF_c78 L1) ?_
    rintro e wc79 ⟨rfl, HF_c79, hs⟩
    replace L2 := hI_ (hs.out L2.out)
    replace L3 := hI_ (hs.out L3.out)
    go_wp2_with fail
    refine hK.out _ _ HF_c79.out.s (fun _ => ?_)
    try simp only [nrm]
    clear hK K hs HF_c78 L1
    refine rdy 6 (fun K hK => ?_)
    go_simp
    refine Calls.mono (aL HF_c79 L2) ?_
    rintro e wc80 ⟨rfl, HF_c80, hs⟩
    replace L3 := hI_ (hs.out L3.out)
    go_wp2_with fail
    refine hK.out _ _ HF_c80.out.s (fun _ => ?_)
    try simp only [nrm]
    clear hK K hs HF_c79 L2
    refine rdy 8 (fun K hK => ?_)
    go_simp
    refine Calls.mono (aL HF_c80 L3) ?_
    rintro e wc81 ⟨rfl, HF_c81, hs⟩
    go_wp2_with fail
    refine hK.out _ _ HF_c81.out.s (fun _ => ?_)
    try simp only [nrm]
    clear hK K hs HF_c80 L3
    refine rdy 9 (fun K hK => ?_)
    refine eH (by rfl) rfl (by rfl) (by rfl) (by rfl) (by rfl) (by rfl) (by rfl) HF_c81 49 rfl ?_
    intro wc82 qx HF_c82 XX
    refine hK.out _ _ HF_c82.out.s (fun hHeld => ?_)
    try simp only [nrm]
    clear hK K HF_c81
    refine tK 10 50 (.int .i64 6) (by exact rfl) (Or.inl ⟨by rfl, ?_⟩) ?_
    ·intro wq hS
     go_simp
    try simp only [nrm]
    refine wpAnyH_done (by kernel_rfl) ?_ _
    refine NoPanic.normal ?_
    clear hHeld
    go_wp2_with fail
    go_meet
    exact ⟨qx, rfl, rfl, rfl, HF_c82.out.k, HF_c82.out.o1, HF_c82.out.o2, HF_c82.out.o3, XX.out, HF_c82.out.b⟩
 obtain ⟨qx, rfl, rfl, rfl, HK, P1, P2, P3, XX, BB⟩ := hcut
 go_wp2_with fail
 go_loopw [51] (fun i wr => ∃ k : Nat, k ≤ 6 ∧ i = .int .i64 (k : Int) ∧ Hid (BK wr w.heap.size p (runM (bank0 100) ((LC l m).take k))) ∧ Hid (OwnT wr w.heap.size u1 [(0, 36500000)]) ∧ Hid (OwnT wr w.heap.size u2 [(0, 36500000)]) ∧ Hid (OwnT wr w.heap.size u3 [(0, 36500000)]) ∧ Hid (VA wr qx (ECS (XL l m u1 u2 u3)) 31) ∧ Hid (Below w.heap.size w wr)) (fun i _ => 6 - (intOf i).toNat)
 case atStart => exact ⟨0, by omega, rfl, HK.out, P1.out, P2.out, P3.out, XX.out, BB.out⟩
 case round =>
  obtain ⟨k, hk, rfl, HK, P1, P2, P3, XX, BB⟩ := hrel
  by_cases hk6 : k = 6
  ·subst hk6
   go_wp2_with fail
   exact bodyPost_ret (v := .tuple #[.pointer (some ⟨p, 0, none⟩), .bool true]) (by simp [results, Tryz.results10, go_sem]) rfl ⟨p, rfl, HK.out, BB.out⟩
  have hk' : k < 6 := by omega
  obtain ⟨x, hx, hy, ho⟩ := vk (l := l) (m := m) P1.out P2.out P3.out hk'
  have HX := hI_ hx
  have HY := hI_ hy
  have HO := hI_ ho
  have HGk := hI_ (HG.out k x.1 hy)
  have d1 : (0 : Int) ≤ (k : Int) := by omega
  have d2 : (k : Int) < 6 := by omega
  have bA := (Below.refl wr.heap.size wr).alloc (Nat.le_refl _) (.cells #[.int .u8 0, .int .u64 0, .int .i64 0, .int .i64 0, .int .i64 0, .int .i64 0, .int .i64 0, .int .i64 0, .int .i64 0, .int .i64 0, .slice none 0 0] 31)
  have HV := hI_ (aa wr mkZ 31)
  have HK_1 := hI_ (HK.out.step bA)
  have P1_1 := hI_ (P1.out.step bA)
  have P2_1 := hI_ (P2.out.step bA)
  have P3_1 := hI_ (P3.out.step bA)
  have HO_1 := hI_ (HO.out.step bA)
  have XX_1 := hI_ (XX.out.step bA)
  have BB_1 := hI_ (BB.out.trans (bA.mono BB.out.size))
  have s1 := BB.out.size
  clear hx hy ho bA
  go_upto_region 11 with (first | (refine wpList_load_mid rfl 31 _ rfl qx (k * 11) (by rfl) (x.1.cells x.2) _ (fun j u hj => XX.out.cell (k * 11 + j) (iV _ k x HX.out j u hj)) Tryz.underlying31 rfl ai ?_) | (refine stA rfl 31 _ _ rfl wr.heap.size (by rfl) mkZ (x.1.cells x.2) (by rfl) 31 HV.out ai rfl (x.1.one HO.out.tf) ?_; intro w2 v2 u2))
  have HK_2 := hI_ (HK_1.out.upd HV.out (by decide) u2 (by have := H6.out; omega))
  have P1_2 := hI_ (OwnT.updV P1_1.out HV.out (by decide) u2)
  have P2_2 := hI_ (OwnT.updV P2_1.out HV.out (by decide) u2)
  have P3_2 := hI_ (OwnT.updV P3_1.out HV.out (by decide) u2)
  have HO_2 := hI_ (OwnT.updV HO_1.out HV.out (by decide) u2)
  have XX_2 := hI_ (XX_1.out.upd u2 (Nat.ne_of_lt XX.out.lt))
  have BB_2 := hI_ (u2.bel BB_1.out s1)
  have HV_2 := hI_ v2
  clear v2 u2 HV HK_1 P1_1 P2_1 P3_1 HO_1 XX_1 BB_1 XX P1 P2 P3 HO BB HK
  go_wp2_with (refine ldA rfl 31 _ rfl wr.heap.size (by rfl) _ _ HV_2.out _ Tryz.underlying31 rfl ai ?_)
  refine (bj HK_2.out HGk.out (by rw [kj, List.length_take]; show (0 : Int) + _ < _; omega) HO_2.out.tr HO_2.out.hno).mono ?_
  rintro r w3 ⟨rfl, h1, k3⟩
  have HK_3 : Hid (BK w3 w.heap.size p (runM (bank0 100) ((LC l m).take (k + 1)))) := by rw [iO _ _ HY.out]; exact h1
  have P1_3 := hI_ (k3.ot P1_2.out)
  have P2_3 := hI_ (k3.ot P2_2.out)
  have P3_3 := hI_ (k3.ot P3_2.out)
  have XX_3 := hI_ (k3.va XX_2.out (by decide))
  have BB_3 : Hid (Below w.heap.size w w3) := BB_2.out.trans k3.bel
  clear h1 k3
  go_wp2_with fail
  exact ⟨⟨k + 1, by omega, by go_num, HK_3.out, P1_3.out, P2_3.out, P3_3.out, XX_3.out, BB_3.out⟩, by simp [intOf]; omega⟩
def AW : List EV := [PE, mkE 2 [10, 1], mkE 4 [10, 1000000]]
def AA : PA := ⟨10, 1, 0, 1, true, 1000000, 0, 0, []⟩
def AB1 : PM := ⟨40, [PE.pv], [], [], fun _ _ => 0, 0, [], false, 0, 0, 1⟩
def AB2 : PM := ⟨40, [PE.pv], [⟨10, 1, 0, 1, true, 0, 0, 0, []⟩], [], fun _ _ => 0, 0, [], false, 0, 0, 2⟩
def AB3 : PM := nxt AB2 (mkE 4 [10, 1000000])
theorem nV : acctO AB3 10 = some AA := rfl
theorem qL : AB3.day = 40 := rfl
theorem qM : AB3.seq = 3 := rfl
theorem tx : askL AB2 0 (mkE 4 [10, 1000000]) = 0 := by
 rw [iY (a := ⟨10, 1, 0, 1, true, 0, 0, 0, []⟩) rfl rfl rfl (by decide) (by decide), fl (by decide) (by decide)]
 rfl
theorem qP : refL AB3 (mkE 5 [10, 1000501]) true = 13 := by
 rw [bP rfl rfl (by decide), gu (a := AA) rfl rfl rfl (by decide) (by decide), cJ]
 ·rfl
 ·show (1000000 : Int) + 500 - 0 < 1000501
  decide
theorem qQ : ∀ (k : Nat) e, AW[k]? = some e → Good (runM (bank0 40) (AW.take k)) e := by
 intro k e h
 have hk : k < 3 := (List.getElem?_eq_some_iff.1 h).1
 have hc : k = 0 ∨ k = 1 ∨ k = 2 := by omega
 rcases hc with rfl | rfl | rfl <;> cases h
 ·exact gj (k := 1) (d := 1) (c := 0) (lim := 500) (by decide) (by decide) (by decide) (by decide) rfl rfl rfl (by decide)
 ·exact gi (M := AB1) (by decide) ⟨by decide, by decide⟩ rfl rfl rfl rfl (by show 0 < 256; decide) rfl
 ·exact ck (M := AB2) rfl rfl (by decide) (fY ⟨by decide, by decide⟩ ⟨by decide, by decide⟩) (by decide) tx
def XA (u : Value) : List (EV × Value) := [(PE, u), (mkE 2 [10, 1], .slice none 0 0), (mkE 4 [10, 1000000], .slice none 0 0)]
theorem vj {u : Value} {w : World} {B : Nat} (o1 : OwnT w B u [(0, 36500000)]) {k : Nat} (hk : k < 3) : ∃ x, (XA u)[k]? = some x ∧ AW[k]? = some x.1 ∧ OwnT w B x.2 x.1.ts := by
 have hc : k = 0 ∨ k = 1 ∨ k = 2 := by omega
 rcases hc with rfl | rfl | rfl
 ·exact ⟨_, rfl, rfl, o1⟩
 ·exact ⟨_, rfl, rfl, cB _ _⟩
 ·exact ⟨_, rfl, rfl, cB _ _⟩
theorem lE3 {w : World} {ops : Array Oper} {rest : List Oper} {o : Oper} {a : Act} {Q : Exit → Act → World → Prop} (hg : o.guard = none) (o0 o1 o2 : Operand) (ho : o.op = .buildSlice 70 3 #[(0, o0), (1, o1), (2, o2)]) (e0 : EV) (v0 : Value) (e1 : EV) (v1 : Value) (e2 : EV) (v2 : Value) (h0 : a.eval o0 = .agg (e0.cells v0).toArray) (h1 : a.eval o1 = .agg (e1.cells v1).toArray) (h2 : a.eval o2 = .agg (e2.cells v2).toArray)
  (h : wpList Tryz.prog ops Q rest (a.put o.dst (.slice (some ⟨w.heap.size, 0, none⟩) 3 3)) (w.alloc (.cells (ECS [(e0, v0), (e1, v1), (e2, v2)]).toArray 31))) : wpList Tryz.prog ops Q (o :: rest) a w :=
 wpList_plain hg fun _ hK => bE3 o0 o1 o2 ho e0 v0 e1 v1 e2 v2 h0 h1 h2 (hK _ _ h)
set_option maxRecDepth 100000 in
theorem dZ (w : World) (T : TBL w) (h6 : 6 ≤ w.heap.size) : Calls Tryz.prog 9 #[] w fun r w' => r = .returned (.bool true) ∧ Below w.heap.size w w' := by
 have HTT := hI_ T
 have H6 := hI_ h6
 clear T h6
 go_enter Tryz.func9, Tryz.ntmps9
 have hbs1 := @rI1
 have hbs2 := @rI2
 have hbs3 := @rI3
 have hbs4 := @rI4

 go_wp2_with fail
 refine (om w HTT.out H6.out 40 (by decide) (by decide)).mono ?_
 rintro e w0 ⟨p, rfl, h1, b0⟩
 have HK_0 : Hid (BK w0 w.heap.size p (bank0 40)) := h1
 have BB_0 := hI_ b0
 clear h1 b0
 go_wp2_with fail
 refine (dC _).mono ?_
 rintro e wb ⟨⟨u, rfl, o1⟩, b1⟩
 have HK_b : Hid (BK _ w.heap.size p _) := HK_0.out.step b1
 have BB_b := hI_ (BB_0.out.trans (b1.mono BB_0.out.size))
 have O1_b : Hid (OwnT wb w.heap.size u [(0, 36500000)]) := o1.lower BB_0.out.size
 clear  BB_0 HK_0
 clear o1 b1
 go_wp2_with fail
 refine (ap 2 [10, 1] _ _ (vI2 wb (10) (1)) (by show 2 ≤ 8; decide)).mono ?_
 rintro r wa1 ⟨rfl, ba1⟩
 have ka1 := ((Below.refl wb.heap.size wb).alloc (Nat.le_refl _) (.cells #[.int .i64 (10), .int .i64 (1)] 2)).trans (ba1.mono (by simp))
 have O1_a1 := hI_ (O1_b.out.step ka1)
 have HK_a1 : Hid (BK _ w.heap.size p _) := HK_b.out.step ka1
 have BB_a1 := hI_ (BB_b.out.trans (ka1.mono BB_b.out.size))
 clear O1_b BB_b HK_b
 clear ba1 ka1
 go_wp2_with fail
 refine (ap 4 [10, 1000000] _ _ (vI2 wa1 (10) (1000000)) (by show 2 ≤ 8; decide)).mono ?_
 rintro r wa2 ⟨rfl, ba2⟩
 have ka2 := ((Below.refl wa1.heap.size wa1).alloc (Nat.le_refl _) (.cells #[.int .i64 (10), .int .i64 (1000000)] 2)).trans (ba2.mono (by simp))
 have O1_a2 := hI_ (O1_a1.out.step ka2)
 have HK_a2 : Hid (BK _ w.heap.size p _) := HK_a1.out.step ka2
 have BB_a2 := hI_ (BB_a1.out.trans (ka2.mono BB_a1.out.size))
 clear O1_a1 BB_a1 HK_a1
 clear ba2 ka2
 have b4 := (Below.refl wa2.heap.size wa2).alloc (Nat.le_refl _) (.cells (ECS (XA u)).toArray 31)
 have xx := aa wa2 (ECS (XA u)) 31
 go_upto_region 5 with (refine lE3 rfl _ _ _ rfl PE u (mkE 2 [10, 1]) (.slice none 0 0) (mkE 4 [10, 1000000]) (.slice none 0 0) (by rfl) (by rfl) (by rfl) ?_)
 have XX_x : Hid (VA _ _ (ECS (XA u)) 31) := xx
 have O1_x := hI_ (O1_a2.out.step b4)
 have HK_x : Hid (BK _ w.heap.size p _) := HK_a2.out.step b4
 have BB_x := hI_ (BB_a2.out.trans (b4.mono BB_a2.out.size))
 clear O1_a2 BB_a2 HK_a2
 clear b4 xx
 rw [show ECS [(PE, u), (mkE 2 [10, 1], Value.slice none 0 0), (mkE 4 [10, 1000000], Value.slice none 0 0)] = ECS (XA u) from rfl]
 generalize wa2.alloc (.cells (ECS (XA u)).toArray 31) = wx at *
 generalize wa2.heap.size = qx at *
 go_loopw [30] (fun i wr => ∃ k : Nat, k ≤ 3 ∧ i = .int .i64 (k : Int) ∧ Hid (BK wr w.heap.size p (runM (bank0 40) (AW.take k))) ∧ Hid (OwnT wr w.heap.size u [(0, 36500000)]) ∧ Hid (VA wr qx (ECS (XA u)) 31) ∧ Hid (Below w.heap.size w wr)) (fun i _ => 3 - (intOf i).toNat)
 case atStart => exact ⟨0, by omega, rfl, HK_x.out, O1_x.out, XX_x.out, BB_x.out⟩
 case round =>
  obtain ⟨k, hk, rfl, HK, P1, XX, BB⟩ := hrel
  clear HK_x O1_x XX_x BB_x
  by_cases hk3 : k = 3
  ·subst hk3
   have HK_r : Hid (BK wr w.heap.size p AB3) := HK.out
   have BB_r := hI_ BB.out
   clear HK BB P1 XX
   go_wp2_with fail
   refine (ap 5 [10, 1000501] _ _ (vI2 wr (10) (1000501)) (by show 2 ≤ 8; decide)).mono ?_
   rintro r wa21 ⟨rfl, ba21⟩
   have ka21 := ((Below.refl wr.heap.size wr).alloc (Nat.le_refl _) (.cells #[.int .i64 (10), .int .i64 (1000501)] 2)).trans (ba21.mono (by simp))
   have HK_a21 : Hid (BK _ w.heap.size p _) := HK_r.out.step ka21
   have BB_a21 := hI_ (BB_r.out.trans (ka21.mono BB_r.out.size))
   clear  BB_r HK_r
   clear ba21 ka21
   go_wp2_with fail
   refine (eI (e := mkE 5 [10, 1000501]) HK_a21.out (dQ (by decide) (fY ⟨by decide, by decide⟩ ⟨by decide, by decide⟩)) (az _) ay (f := true) (by simp [aM (op := 5) (ns := [10, 1000501]) (by decide) (by decide) (by decide)]) qP (by decide)).mono ?_
   rintro r wa22 ⟨rfl, ha22, ka22⟩
   have HK_a22 : Hid (BK _ w.heap.size p _) := ha22
   have BB_a22 : Hid (Below w.heap.size w wa22) := BB_a21.out.trans ka22.bel
   clear  BB_a21 HK_a21
   clear ha22 ka22
   have bA := (Below.refl wa22.heap.size wa22).alloc (Nat.le_refl _) (.cells #[.int .u8 0, .int .u64 0, .int .i64 0, .int .i64 0, .int .i64 0, .int .i64 0, .int .i64 0, .int .i64 0, .int .i64 0, .int .i64 0, .slice none 0 0] 31)
   have HV := hI_ (aa wa22 mkZ 31)
   have HK_z : Hid (BK _ w.heap.size p _) := HK_a22.out.step bA
   have BB_z := hI_ (BB_a22.out.trans (bA.mono BB_a22.out.size))
   have s1 := BB_a22.out.size
   clear  BB_a22 HK_a22
   clear bA
   go_upto_region 12 with (refine stA rfl 31 _ _ rfl wa22.heap.size (by rfl) mkZ (mkZ) (by rfl) 31 HV.out ai rfl (jf) ?_; intro wa23 va23 ua23)
   have HK_a23 : Hid (BK _ w.heap.size p _) := HK_z.out.upd HV.out (by decide) ua23 (by have := H6.out; omega)
   have BB_a23 := hI_ (ua23.bel BB_z.out s1)
   have V8_a23 := hI_ va23
   clear va23 ua23 HV s1 HK_z BB_z
   clear V8_a23
   go_wp2_with fail
   refine (dw HK_a23.out nV).mono ?_
   rintro r wa24 ⟨rfl, ha24, ka24⟩
   have HK_a24 : Hid (BK _ w.heap.size p _) := ha24
   have BB_a24 : Hid (Below w.heap.size w wa24) := BB_a23.out.trans ka24.bel
   clear  BB_a23 HK_a23
   clear ha24 ka24
   have bA := (Below.refl wa24.heap.size wa24).alloc (Nat.le_refl _) (.cells #[.int .i64 0, .int .i64 0, .int .i64 0, .int .i64 0, .bool false, .int .i64 0, .int .i64 0, .int .i64 0] 36)
   have HV := hI_ (aa wa24 ZA 36)
   have HK_z : Hid (BK _ w.heap.size p _) := HK_a24.out.step bA
   have BB_z := hI_ (BB_a24.out.trans (bA.mono BB_a24.out.size))
   have s1 := BB_a24.out.size
   clear  BB_a24 HK_a24
   clear bA
   go_upto_region 13 with (refine stA rfl 36 _ _ rfl wa24.heap.size (by rfl) ZA (AA.told) (by rfl) 36 HV.out cm rfl (AA.told_one) ?_; intro wa25 va25 ua25)
   have HK_a25 : Hid (BK _ w.heap.size p _) := HK_z.out.upd HV.out (by decide) ua25 (by have := H6.out; omega)
   have BB_a25 := hI_ (ua25.bel BB_z.out s1)
   have V11_a25 := hI_ va25
   clear va25 ua25 HV s1 HK_z BB_z
   have cb := V11_a25.out.cell 5 (v := .int .i64 1000000) rfl
   go_wp2_with fail
   refine (oo HK_a25.out qM).mono ?_
   rintro r wq ⟨rfl, hq⟩
   obtain rfl := hq.symm
   clear hq
   go_wp2_with fail
   refine (tN HK_a25.out qL).mono ?_
   rintro r wq ⟨rfl, hq⟩
   obtain rfl := hq.symm
   clear hq
   go_wp2_with fail
   go_ret
   exact ⟨rfl, BB_a25.out⟩
  have hk' : k < 3 := by omega
  obtain ⟨x, hx, hy, ho⟩ := vj P1.out hk'
  have HX := hI_ hx
  have HY := hI_ hy
  have HO := hI_ ho
  have HGk := hI_ (qQ k x.1 hy)
  have d1 : (0 : Int) ≤ (k : Int) := by omega
  have d2 : (k : Int) < 3 := by omega
  have bA := (Below.refl wr.heap.size wr).alloc (Nat.le_refl _) (.cells #[.int .u8 0, .int .u64 0, .int .i64 0, .int .i64 0, .int .i64 0, .int .i64 0, .int .i64 0, .int .i64 0, .int .i64 0, .int .i64 0, .slice none 0 0] 31)
  have HV := hI_ (aa wr mkZ 31)
  have HK_1 := hI_ (HK.out.step bA)
  have P1_1 := hI_ (P1.out.step bA)
  have HO_1 := hI_ (HO.out.step bA)
  have XX_1 := hI_ (XX.out.step bA)
  have BB_1 := hI_ (BB.out.trans (bA.mono BB.out.size))
  have s1 := BB.out.size
  clear hx hy ho bA
  go_upto_region 7 with (first | (refine wpList_load_mid rfl 31 _ rfl qx (k * 11) (by rfl) (x.1.cells x.2) _ (fun j u hj => XX.out.cell (k * 11 + j) (iV _ k x HX.out j u hj)) Tryz.underlying31 rfl ai ?_) | (refine stA rfl 31 _ _ rfl wr.heap.size (by rfl) mkZ (x.1.cells x.2) (by rfl) 31 HV.out ai rfl (x.1.one HO.out.tf) ?_; intro w2 v2 u2))
  have HK_2 := hI_ (HK_1.out.upd HV.out (by decide) u2 (by have := H6.out; omega))
  have P1_2 := hI_ (OwnT.updV P1_1.out HV.out (by decide) u2)
  have HO_2 := hI_ (OwnT.updV HO_1.out HV.out (by decide) u2)
  have XX_2 := hI_ (XX_1.out.upd u2 (Nat.ne_of_lt XX.out.lt))
  have BB_2 := hI_ (u2.bel BB_1.out s1)
  have HV_2 := hI_ v2
  clear v2 u2 HV HK_1 P1_1 HO_1 XX_1 BB_1 XX P1 HO BB HK
  go_wp2_with (refine ldA rfl 31 _ rfl wr.heap.size (by rfl) _ _ HV_2.out _ Tryz.underlying31 rfl ai ?_)
  refine (r8 HK_2.out HGk.out HO_2.out.tr HO_2.out.hno).mono ?_
  rintro r w3 ⟨z, rfl, oz, h1, k3⟩
  have HK_3 := hI_ h1
  have OZ_3 := hI_ oz
  have P1_3 := hI_ (k3.ot P1_2.out)
  have XX_3 := hI_ (k3.va XX_2.out (by decide))
  have BB_3 : Hid (Below w.heap.size w w3) := BB_2.out.trans k3.bel
  have bA := (Below.refl w3.heap.size w3).alloc (Nat.le_refl _) (.cells #[.int .u8 0, .int .u64 0, .int .i64 0, .int .i64 0, .int .i64 0, .int .i64 0, .int .i64 0, .int .i64 0, .int .i64 0, .int .i64 0, .slice none 0 0] 31)
  have HV := hI_ (aa w3 mkZ 31)
  have HK_4 := hI_ (HK_3.out.step bA)
  have OZ_4 := hI_ (OZ_3.out.step bA)
  have P1_4 := hI_ (P1_3.out.step bA)
  have XX_4 := hI_ (XX_3.out.step bA)
  have BB_4 := hI_ (BB_3.out.trans (bA.mono BB_3.out.size))
  have s3 := BB_3.out.size
  have x3 := XX_3.out.lt
  clear h1 k3 oz bA HK_2 P1_2 HO_2 XX_2 BB_2 HV_2 HK_3 OZ_3 P1_3 XX_3 BB_3
  go_upto_region 8 with (refine stA rfl 31 _ _ rfl w3.heap.size (by rfl) mkZ (x.1.cells z) (by rfl) 31 HV.out ai rfl (x.1.one OZ_4.out.tf) ?_; intro w5 v5 u5)
  have HK_5 := hI_ (HK_4.out.upd HV.out (by decide) u5 (by have := H6.out; omega))
  have OZ_5 := hI_ (OwnT.updV OZ_4.out HV.out (by decide) u5)
  have P1_5 := hI_ (OwnT.updV P1_4.out HV.out (by decide) u5)
  have XX_5 := hI_ (XX_4.out.upd u5 (Nat.ne_of_lt x3))
  have BB_5 := hI_ (u5.bel BB_4.out s3)
  have HV_5 := hI_ v5
  clear v5 u5 HV HK_4 OZ_4 P1_4 XX_4 BB_4
  go_wp2_with (refine iF (by rfl) 31 _ rfl w3.heap.size (by rfl) _ _ HV_5.out _ Tryz.underlying31 rfl ai ?_)
  refine (ol HK_5.out HGk.out (by rw [kj, List.length_take]; show (0 : Int) + _ < _; omega) OZ_5.out.tr OZ_5.out.hno).mono ?_
  rintro r w6 ⟨rfl, h1, k6⟩
  have HK_6 : Hid (BK w6 w.heap.size p (runM (bank0 40) (AW.take (k + 1)))) := by rw [iO _ _ HY.out]; exact h1
  have P1_6 := hI_ (k6.ot P1_5.out)
  have XX_6 := hI_ (k6.va XX_5.out (by decide))
  have BB_6 : Hid (Below w.heap.size w w6) := BB_5.out.trans k6.bel
  clear h1 k6
  go_wp2_with fail
  exact ⟨⟨k + 1, by omega, by go_num, HK_6.out, P1_6.out, XX_6.out, BB_6.out⟩, by simp [intOf]; omega⟩
end Go.Proofs.YtjkiplndbcmmbaaGreatDoor