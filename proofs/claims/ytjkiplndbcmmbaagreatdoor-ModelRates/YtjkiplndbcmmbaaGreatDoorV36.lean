/- texts of the model: Mqv Mqw Mra Mrk Mrf Mri Mrl -/
import Derived.Test.YtjkiplndbcmmbaaGreatDoorV35
import Derived.Test.YtjkiplndbcmmbaaGreatDoorV26
import Derived.Test.YtjkiplndbcmmbaaGreatDoorV12
import Derived.Test.YtjkiplndbcmmbaaGreatDoorV31
import Derived.Test.YtjkiplndbcmmbaaGreatDoorV16
import Derived.Test.YtjkiplndbcmmbaaGreatDoorV04
set_option linter.unusedVariables false
set_option linter.unusedSimpArgs false
set_option maxHeartbeats 16000000
namespace Go.Proofs.YtjkiplndbcmmbaaGreatDoor
open Tryz
open Go.RowKit Go.Maps
def XL (l m : Int) (u1 u2 u3 : Value) : List (EV × Value) := [(PL 1 1 0 l, u1), (PL 2 2 0 m, u2), (PL 3 1 1 500, u3), (mkE 2 [1, 1], .slice none 0 0), (mkE 2 [2, 2], .slice none 0 0), (mkE 2 [3, 3], .slice none 0 0)]
theorem vh {l m : Int} {u1 u2 u3 : Value} {w : World} {B : Nat} (o1 : OwnT w B u1 [(0, 36500000)]) (o2 : OwnT w B u2 [(0, 36500000)]) (o3 : OwnT w B u3 [(0, 36500000)]) {k : Nat} (hk : k < 6) : ∃ x, (XL l m u1 u2 u3)[k]? = some x ∧ (LC l m)[k]? = some x.1 ∧ OwnT w B x.2 x.1.ts := by
 have hc : k = 0 ∨ k = 1 ∨ k = 2 ∨ k = 3 ∨ k = 4 ∨ k = 5 := by omega
 rcases hc with rfl | rfl | rfl | rfl | rfl | rfl
 ·exact ⟨_, rfl, rfl, o1⟩
 ·exact ⟨_, rfl, rfl, o2⟩
 ·exact ⟨_, rfl, rfl, o3⟩
 ·exact ⟨_, rfl, rfl, cq _ _⟩
 ·exact ⟨_, rfl, rfl, cq _ _⟩
 ·exact ⟨_, rfl, rfl, cq _ _⟩
structure LF (w wx : World) (p q : Nat) (u1 u2 u3 : Value) (l m : Int) : Prop where
 k : BK wx w.heap.size p (bank0 100)
 o1 : OwnT wx w.heap.size u1 [(0, 36500000)]
 o2 : OwnT wx w.heap.size u2 [(0, 36500000)]
 o3 : OwnT wx w.heap.size u3 [(0, 36500000)]
 v8 : VA wx q ((PL 1 1 0 l).cells u1) 31
 v9 : VA wx (q + 1) ((PL 2 2 0 m).cells u2) 31
 v10 : VA wx (q + 1 + 1) ((PL 3 1 1 500).cells u3) 31
 b : Below w.heap.size w wx
theorem LF.step {w wx wy : World} {p q : Nat} {u1 u2 u3 : Value} {l m : Int} (h : LF w wx p q u1 u2 u3 l m) (k : Below wx.heap.size wx wy) : LF w wy p q u1 u2 u3 l m := ⟨h.k.step k, h.o1.step k, h.o2.step k, h.o3.step k, h.v8.step k, h.v9.step k, h.v10.step k, h.b.trans (k.mono h.b.size)⟩
theorem LF.s {w wx : World} {p q : Nat} {u1 u2 u3 : Value} {l m : Int} (h : LF w wx p q u1 u2 u3 l m) : VA wx q ((PL 1 1 0 l).cells u1) 31 ∧ VA wx (q + 1) ((PL 2 2 0 m).cells u2) 31 ∧ VA wx (q + 1 + 1) ((PL 3 1 1 500).cells u3) 31 := ⟨h.v8, h.v9, h.v10⟩
def L2 (w : World) (r : Nat) (n : Int) : Prop := VA w r (([n, n] : List Int).map fun n => Value.int .i64 n) 2
theorem cg {y : Nat → Option Bool} {o : Oper} {a : Act} {Q : Exit → Act → World → Prop} {K : Act → World → Prop} {k0 : Prop} (h : Region.wanted o y = true) (n : Int) {o0 o1 : Operand} (ho : o.op = .buildSlice 80 2 #[(0, o0), (1, o1)]) (h0 : a.eval o0 = .int .i64 n) (h1 : a.eval o1 = .int .i64 n)
  {w wx : World} {p q : Nat} {u1 u2 u3 : Value} {l m : Int} (F : Hid (LF w wx p q u1 u2 u3 l m)) (hk : ∀ wy r, Hid (LF w wy p q u1 u2 u3 l m) → Hid (L2 wy r n) → Hid (∀ {s z}, L2 wx s z → L2 wy s z) → K (a.put o.dst (.slice (some ⟨r, 0, none⟩) 2 2)) wy) : if Region.wanted o y = true then o.wp prog a wx K Q else k0 := by
 have b := (Below.refl wx.heap.size wx).alloc (Nat.le_refl _) (.cells #[.int .i64 n, .int .i64 n] 2)
 exact qN h (bI2 o0 o1 ho n n h0 h1 (hk _ _ (F.out.step b) (vI2 wx n n) (fun k => VA.step k b)))
theorem aH {w wx : World} {p q r : Nat} {u1 u2 u3 : Value} {l m n : Int} (F : Hid (LF w wx p q u1 u2 u3 l m)) (L : Hid (L2 wx r n)) : Calls prog 12 #[.int .u8 2, .slice (some ⟨r, 0, none⟩) 2 2] wx fun e wy => e = .returned (.agg ((mkE 2 [n, n]).cells (.slice none 0 0)).toArray) ∧ Hid (LF w wy p q u1 u2 u3 l m) ∧ Hid (∀ {s z}, L2 wx s z → L2 wy s z) := by
 refine (bV 2 [n, n] wx r L.out (by show 2 ≤ 8; decide)).mono ?_
 rintro e wy ⟨rfl, b⟩
 exact ⟨rfl, F.out.step b, fun k => VA.step k b⟩
theorem eC {y : Nat → Option Bool} {o : Oper} {a : Act} {Q : Exit → Act → World → Prop} {K : Act → World → Prop} {k0 : Prop} (h : Region.wanted o y = true) {o0 o1 o2 o3 o4 o5 : Operand} (ho : o.op = .buildSlice 70 6 #[(0, o0), (1, o1), (2, o2), (3, o3), (4, o4), (5, o5)])
  {w wx : World} {p q : Nat} {u1 u2 u3 : Value} {l m : Int} (h0 : a.eval o0 = .agg ((PL 1 1 0 l).cells u1).toArray) (h1 : a.eval o1 = .agg ((PL 2 2 0 m).cells u2).toArray) (h2 : a.eval o2 = .agg ((PL 3 1 1 500).cells u3).toArray) (h3 : a.eval o3 = .agg ((mkE 2 [1, 1]).cells (.slice none 0 0)).toArray) (h4 : a.eval o4 = .agg ((mkE 2 [2, 2]).cells (.slice none 0 0)).toArray) (h5 : a.eval o5 = .agg ((mkE 2 [3, 3]).cells (.slice none 0 0)).toArray)
  (F : Hid (LF w wx p q u1 u2 u3 l m)) (d : Nat) (hd : o.dst = some d) (hk : ∀ wy r, Hid (LF w wy p q u1 u2 u3 l m) → Hid (VA wy r (ECS (XL l m u1 u2 u3)) 31) → K (a.put (some d) (.slice (some ⟨r, 0, none⟩) 6 6)) wy) : if Region.wanted o y = true then o.wp prog a wx K Q else k0 := by
 have b := (Below.refl wx.heap.size wx).alloc (Nat.le_refl _) (.cells (ECS (XL l m u1 u2 u3)).toArray 31)
 refine qN h (bE6 o0 o1 o2 o3 o4 o5 ho (PL 1 1 0 l) u1 (PL 2 2 0 m) u2 (PL 3 1 1 500) u3 (mkE 2 [1, 1]) (.slice none 0 0) (mkE 2 [2, 2]) (.slice none 0 0) (mkE 2 [3, 3]) (.slice none 0 0) h0 h1 h2 h3 h4 h5 ?_)
 rw [hd]
 exact hk _ _ (F.out.step b) (aa wx (ECS (XL l m u1 u2 u3)) 31)
set_option maxRecDepth 100000 in
theorem rT (w : World) (T : TBL w) (h6 : 6 ≤ w.heap.size) (l m : Int) (hl : 0 ≤ l ∧ l ≤ 10000000000000) (hm : 0 ≤ m ∧ m ≤ 10000000000000) :
  Calls prog 10 #[.int .i64 l, .int .i64 m] w fun r w' => ∃ p : Nat, r = .returned (.tuple #[.pointer (some ⟨p, 0, none⟩), .bool true]) ∧ BK w' w.heap.size p (LB l m) ∧ Below w.heap.size w w' := by
 have HG := hI_ (rW hl hm)
 have HTT := hI_ T
 have H6 := hI_ h6
 clear T h6 hl hm
 go_enter func10, ntmps10
 go_wp2_with fail
 refine (oB w HTT.out H6.out 100 (by decide) (by decide)).mono ?_
 rintro e w0 ⟨p, rfl, h1, b0⟩
 have HK_0 : Hid (BK w0 w.heap.size p (bank0 100)) := h1
 have BB_0 := hI_ b0
 clear h1 b0
 go_wp2_with fail
 refine (dx _).mono ?_
 rintro e w1 ⟨⟨u1, rfl, o1⟩, b1⟩
 have HK_1 := hI_ (HK_0.out.step b1)
 have BB_1 := hI_ (BB_0.out.trans (b1.mono BB_0.out.size))
 have O1_1 : Hid (OwnT w1 w.heap.size u1 [(0, 36500000)]) := o1.lower BB_0.out.size
 clear b1 o1
 clear HK_0 BB_0
 go_wp2_with fail
 refine (dx _).mono ?_
 rintro e w2 ⟨⟨u2, rfl, o2⟩, b2⟩
 have HK_2 := hI_ (HK_1.out.step b2)
 have O1_2 := hI_ (O1_1.out.step b2)
 have BB_2 := hI_ (BB_1.out.trans (b2.mono BB_1.out.size))
 have O2_2 : Hid (OwnT w2 w.heap.size u2 [(0, 36500000)]) := o2.lower BB_1.out.size
 clear b2 o2
 clear HK_1 O1_1 BB_1
 go_wp2_with fail
 refine (dx _).mono ?_
 rintro e w3 ⟨⟨u3, rfl, o3⟩, b3⟩
 have HK_3 := hI_ (HK_2.out.step b3)
 have O1_3 := hI_ (O1_2.out.step b3)
 have O2_3 := hI_ (O2_2.out.step b3)
 have BB_3 := hI_ (BB_2.out.trans (b3.mono BB_2.out.size))
 have O3_3 : Hid (OwnT w3 w.heap.size u3 [(0, 36500000)]) := o3.lower BB_2.out.size
 clear b3 o3
 clear HK_2 O1_2 O2_2 BB_2
 have bA := (((Below.refl w3.heap.size w3).alloc (Nat.le_refl _) (.cells #[.int .u8 0, .int .u64 0, .int .i64 0, .int .i64 0, .int .i64 0, .int .i64 0, .int .i64 0, .int .i64 0, .int .i64 0, .int .i64 0, .slice none 0 0] 31)).alloc (by simp) (.cells #[.int .u8 0, .int .u64 0, .int .i64 0, .int .i64 0, .int .i64 0, .int .i64 0, .int .i64 0, .int .i64 0, .int .i64 0, .int .i64 0, .slice none 0 0] 31)).alloc (by rw [World.size_alloc, World.size_alloc]; omega) (.cells #[.int .u8 0, .int .u64 0, .int .i64 0, .int .i64 0, .int .i64 0, .int .i64 0, .int .i64 0, .int .i64 0, .int .i64 0, .int .i64 0, .slice none 0 0] 31)
 have q8 := ((aa w3 mkZ 31).alloc (.cells #[.int .u8 0, .int .u64 0, .int .i64 0, .int .i64 0, .int .i64 0, .int .i64 0, .int .i64 0, .int .i64 0, .int .i64 0, .int .i64 0, .slice none 0 0] 31)).alloc (.cells #[.int .u8 0, .int .u64 0, .int .i64 0, .int .i64 0, .int .i64 0, .int .i64 0, .int .i64 0, .int .i64 0, .int .i64 0, .int .i64 0, .slice none 0 0] 31)
 have q9 := (aa (w3.alloc (.cells #[.int .u8 0, .int .u64 0, .int .i64 0, .int .i64 0, .int .i64 0, .int .i64 0, .int .i64 0, .int .i64 0, .int .i64 0, .int .i64 0, .slice none 0 0] 31)) mkZ 31).alloc (.cells #[.int .u8 0, .int .u64 0, .int .i64 0, .int .i64 0, .int .i64 0, .int .i64 0, .int .i64 0, .int .i64 0, .int .i64 0, .int .i64 0, .slice none 0 0] 31)
 have q10 := aa ((w3.alloc (.cells #[.int .u8 0, .int .u64 0, .int .i64 0, .int .i64 0, .int .i64 0, .int .i64 0, .int .i64 0, .int .i64 0, .int .i64 0, .int .i64 0, .slice none 0 0] 31)).alloc (.cells #[.int .u8 0, .int .u64 0, .int .i64 0, .int .i64 0, .int .i64 0, .int .i64 0, .int .i64 0, .int .i64 0, .int .i64 0, .int .i64 0, .slice none 0 0] 31)) mkZ 31
 simp only [World.size_alloc] at q9 q10
 have V8_A := hI_ q8
 have V9_A := hI_ q9
 have V10_A := hI_ q10
 have HK_A := hI_ (HK_3.out.step bA)
 have O1_A := hI_ (O1_3.out.step bA)
 have O2_A := hI_ (O2_3.out.step bA)
 have O3_A := hI_ (O3_3.out.step bA)
 have BB_A := hI_ (BB_3.out.trans (bA.mono BB_3.out.size))
 have s3 := BB_3.out.size
 clear bA q8 q9 q10
 clear HK_3 O1_3 O2_3 O3_3 BB_3
 go_upto_region 5 with (first | (refine stA rfl 31 _ _ rfl (w3.heap.size) (by rfl) mkZ ((PE.cells u1)) (by rfl) 31 V8_A.out ao rfl (PE.one O1_A.out.tf) ?_; intro w4 v4 u4; have V9_4 := hI_ (V9_A.out.upd u4 (by omega)); have V10_4 := (show Hid _ from V10_A.out.upd u4 (by omega))) | (refine stA rfl 31 _ _ rfl (w3.heap.size + 1) (by rfl) mkZ ((PE.cells u2)) (by rfl) 31 V9_4.out ao rfl (PE.one O2_A.out.tf) ?_; intro w5 v5 u5; have V10_5 := (show Hid _ from V10_4.out.upd u5 (by omega))) | (refine stA rfl 31 _ _ rfl (w3.heap.size + 1 + 1) (by rfl) mkZ ((PE.cells u3)) (by rfl) 31 V10_5.out ao rfl (PE.one O3_A.out.tf) ?_; intro w6 v6 u6))
 have V8_6 : Hid (VA w6 w3.heap.size (PE.cells u1) 31) := (v4.upd u5 (by omega)).upd u6 (by omega)
 have V9_6 : Hid (VA w6 (w3.heap.size + 1) (PE.cells u2) 31) := v5.upd u6 (by omega)
 have V10_6 : Hid (VA w6 (w3.heap.size + 1 + 1) (PE.cells u3) 31) := v6
 have BB_6 : Hid (Below w.heap.size w w6) := u6.bel (u5.bel (u4.bel BB_A.out (by omega)) (by omega)) (by omega)
 have HK_6 : Hid (BK w6 w.heap.size p (bank0 100)) := ((HK_A.out.upd V8_A.out (by decide) u4 (by have := H6.out; omega)).upd V9_4.out (by decide) u5 (by have := H6.out; omega)).upd V10_5.out (by decide) u6 (by have := H6.out; omega)
 have O1_6 : Hid (OwnT w6 w.heap.size u1 _) := ((OwnT.updV O1_A.out V8_A.out (by decide) u4).updV V9_4.out (by decide) u5).updV V10_5.out (by decide) u6
 have O2_6 : Hid (OwnT w6 w.heap.size u2 _) := ((OwnT.updV O2_A.out V8_A.out (by decide) u4).updV V9_4.out (by decide) u5).updV V10_5.out (by decide) u6
 have O3_6 : Hid (OwnT w6 w.heap.size u3 _) := ((OwnT.updV O3_A.out V8_A.out (by decide) u4).updV V9_4.out (by decide) u5).updV V10_5.out (by decide) u6
 clear v4 v5 v6 u4 u5 u6 V8_A V9_A V10_A V9_4 V10_4 V10_5 HK_A O1_A O2_A O3_A BB_A
 have c0 := VA.cell V8_6.out 9 (v := .int .i64 500) rfl
 have f0 := VA.free V8_6.out 9
 have X0 : VA (w6.setCell ⟨w3.heap.size, 9, none⟩ (.int .i64 l)) (w3.heap.size) [.int .u8 1, .int .u64 0, .int .i64 1, .int .i64 1, .int .i64 0, .int .i64 1, .int .i64 1, .int .i64 0, .int .i64 0, .int .i64 l, u1] 31 := VA.set V8_6.out 9 (.int .i64 l)
 have U0 : Upd (w3.heap.size) w6 (w6.setCell ⟨w3.heap.size, 9, none⟩ (.int .i64 l)) := av _ _ _ _
 have hbk := V8_6.out.blk
 go_upto_region 6 with fail
 have V8_7 := hI_ X0
 have V9_7 := hI_ (V9_6.out.upd U0 (by omega))
 have V10_7 := hI_ (V10_6.out.upd U0 (by omega))
 have HK_7 := hI_ (HK_6.out.upd V8_6.out (by decide) U0 (by have := H6.out; omega))
 have O1_7 := hI_ (OwnT.updV O1_6.out V8_6.out (by decide) U0)
 have O2_7 := hI_ (OwnT.updV O2_6.out V8_6.out (by decide) U0)
 have O3_7 := hI_ (OwnT.updV O3_6.out V8_6.out (by decide) U0)
 have BB_7 := hI_ (U0.bel BB_6.out (by omega))
 clear c0 f0 X0 U0 hbk
 clear HK_6 O1_6 O2_6 O3_6 V8_6 V9_6 V10_6 BB_6
 generalize (w6.setCell ⟨w3.heap.size, 9, none⟩ (.int .i64 l)) = w7 at *
 have c0 := VA.cell V9_7.out 2 (v := .int .i64 1) rfl
 have f0 := VA.free V9_7.out 2
 have X0 : VA (w7.setCell ⟨w3.heap.size + 1, 2, none⟩ (.int .i64 2)) (w3.heap.size + 1) [.int .u8 1, .int .u64 0, .int .i64 2, .int .i64 1, .int .i64 0, .int .i64 1, .int .i64 1, .int .i64 0, .int .i64 0, .int .i64 500, u2] 31 := VA.set V9_7.out 2 (.int .i64 2)
 have U0 : Upd (w3.heap.size + 1) w7 (w7.setCell ⟨w3.heap.size + 1, 2, none⟩ (.int .i64 2)) := av _ _ _ _
 have c1 := VA.cell X0 3 (v := .int .i64 1) rfl
 have f1 := VA.free X0 3
 have X1 : VA ((w7.setCell ⟨w3.heap.size + 1, 2, none⟩ (.int .i64 2)).setCell ⟨w3.heap.size + 1, 3, none⟩ (.int .i64 2)) (w3.heap.size + 1) [.int .u8 1, .int .u64 0, .int .i64 2, .int .i64 2, .int .i64 0, .int .i64 1, .int .i64 1, .int .i64 0, .int .i64 0, .int .i64 500, u2] 31 := VA.set X0 3 (.int .i64 2)
 have U1 : Upd (w3.heap.size + 1) w7 ((w7.setCell ⟨w3.heap.size + 1, 2, none⟩ (.int .i64 2)).setCell ⟨w3.heap.size + 1, 3, none⟩ (.int .i64 2)) := U0.trans (av _ _ _ _)
 have c2 := VA.cell X1 9 (v := .int .i64 500) rfl
 have f2 := VA.free X1 9
 have X2 : VA (((w7.setCell ⟨w3.heap.size + 1, 2, none⟩ (.int .i64 2)).setCell ⟨w3.heap.size + 1, 3, none⟩ (.int .i64 2)).setCell ⟨w3.heap.size + 1, 9, none⟩ (.int .i64 m)) (w3.heap.size + 1) [.int .u8 1, .int .u64 0, .int .i64 2, .int .i64 2, .int .i64 0, .int .i64 1, .int .i64 1, .int .i64 0, .int .i64 0, .int .i64 m, u2] 31 := VA.set X1 9 (.int .i64 m)
 have U2 : Upd (w3.heap.size + 1) w7 (((w7.setCell ⟨w3.heap.size + 1, 2, none⟩ (.int .i64 2)).setCell ⟨w3.heap.size + 1, 3, none⟩ (.int .i64 2)).setCell ⟨w3.heap.size + 1, 9, none⟩ (.int .i64 m)) := U1.trans (av _ _ _ _)
 have hbk := V9_7.out.blk
 go_upto_region 7 with fail
 have V9_8 := hI_ X2
 have V8_8 := hI_ (V8_7.out.upd U2 (by omega))
 have V10_8 := hI_ (V10_7.out.upd U2 (by omega))
 have HK_8 := hI_ (HK_7.out.upd V9_7.out (by decide) U2 (by have := H6.out; omega))
 have O1_8 := hI_ (OwnT.updV O1_7.out V9_7.out (by decide) U2)
 have O2_8 := hI_ (OwnT.updV O2_7.out V9_7.out (by decide) U2)
 have O3_8 := hI_ (OwnT.updV O3_7.out V9_7.out (by decide) U2)
 have BB_8 := hI_ (U2.bel BB_7.out (by omega))
 clear c0 f0 X0 U0 c1 f1 X1 U1 c2 f2 X2 U2 hbk
 clear HK_7 O1_7 O2_7 O3_7 V8_7 V9_7 V10_7 BB_7
 generalize (((w7.setCell ⟨w3.heap.size + 1, 2, none⟩ (.int .i64 2)).setCell ⟨w3.heap.size + 1, 3, none⟩ (.int .i64 2)).setCell ⟨w3.heap.size + 1, 9, none⟩ (.int .i64 m)) = w8 at *
 have c0 := VA.cell V10_8.out 2 (v := .int .i64 1) rfl
 have f0 := VA.free V10_8.out 2
 have X0 : VA (w8.setCell ⟨w3.heap.size + 1 + 1, 2, none⟩ (.int .i64 3)) (w3.heap.size + 1 + 1) [.int .u8 1, .int .u64 0, .int .i64 3, .int .i64 1, .int .i64 0, .int .i64 1, .int .i64 1, .int .i64 0, .int .i64 0, .int .i64 500, u3] 31 := VA.set V10_8.out 2 (.int .i64 3)
 have U0 : Upd (w3.heap.size + 1 + 1) w8 (w8.setCell ⟨w3.heap.size + 1 + 1, 2, none⟩ (.int .i64 3)) := av _ _ _ _
 have c1 := VA.cell X0 4 (v := .int .i64 0) rfl
 have f1 := VA.free X0 4
 have X1 : VA ((w8.setCell ⟨w3.heap.size + 1 + 1, 2, none⟩ (.int .i64 3)).setCell ⟨w3.heap.size + 1 + 1, 4, none⟩ (.int .i64 1)) (w3.heap.size + 1 + 1) [.int .u8 1, .int .u64 0, .int .i64 3, .int .i64 1, .int .i64 1, .int .i64 1, .int .i64 1, .int .i64 0, .int .i64 0, .int .i64 500, u3] 31 := VA.set X0 4 (.int .i64 1)
 have U1 : Upd (w3.heap.size + 1 + 1) w8 ((w8.setCell ⟨w3.heap.size + 1 + 1, 2, none⟩ (.int .i64 3)).setCell ⟨w3.heap.size + 1 + 1, 4, none⟩ (.int .i64 1)) := U0.trans (av _ _ _ _)
 have hbk := V10_8.out.blk
 go_upto_region 8 with fail
 have V10_9 := hI_ X1
 have V8_9 := hI_ (V8_8.out.upd U1 (by omega))
 have V9_9 := hI_ (V9_8.out.upd U1 (by omega))
 have HK_9 := hI_ (HK_8.out.upd V10_8.out (by decide) U1 (by have := H6.out; omega))
 have O1_9 := hI_ (OwnT.updV O1_8.out V10_8.out (by decide) U1)
 have O2_9 := hI_ (OwnT.updV O2_8.out V10_8.out (by decide) U1)
 have O3_9 := hI_ (OwnT.updV O3_8.out V10_8.out (by decide) U1)
 have BB_9 := hI_ (U1.bel BB_8.out (by omega))
 clear c0 f0 X0 U0 c1 f1 X1 U1 hbk
 clear HK_8 O1_8 O2_8 O3_8 V8_8 V9_8 V10_8 BB_8
 generalize ((w8.setCell ⟨w3.heap.size + 1 + 1, 2, none⟩ (.int .i64 3)).setCell ⟨w3.heap.size + 1 + 1, 4, none⟩ (.int .i64 1)) = w9 at *
 have V8_9 : Hid (VA w9 (w3.heap.size) ((PL 1 1 0 l).cells u1) 31) := V8_9.out
 have V9_9 : Hid (VA w9 (w3.heap.size + 1) ((PL 2 2 0 m).cells u2) 31) := V9_9.out
 have V10_9 : Hid (VA w9 (w3.heap.size + 1 + 1) ((PL 3 1 1 500).cells u3) 31) := V10_9.out
 have HF_9 : Hid (LF w w9 p w3.heap.size u1 u2 u3 l m) := ⟨HK_9.out, O1_9.out, O2_9.out, O3_9.out, V8_9.out, V9_9.out, V10_9.out, BB_9.out⟩
 clear HK_9 O1_9 O2_9 O3_9 V8_9 V9_9 V10_9
 go_cut [49, 50, 51] (fun s49 s50 s51 wx => ∃ qx : Nat, s49 = .slice (some ⟨qx, 0, none⟩) 6 6 ∧ s50 = .int .i64 6 ∧ s51 = .int .i64 0 ∧ Hid (BK wx w.heap.size p (bank0 100)) ∧ Hid (OwnT wx w.heap.size u1 [(0, 36500000)]) ∧ Hid (OwnT wx w.heap.size u2 [(0, 36500000)]) ∧ Hid (OwnT wx w.heap.size u3 [(0, 36500000)]) ∧ Hid (VA wx qx (ECS (XL l m u1 u2 u3)) 31) ∧ Hid (Below w.heap.size w wx))
 case first =>
  refine wp_region_noPanic ?_
  refine wp_region_held_drew (S := fun V => VA V (w3.heap.size) ((PL 1 1 0 l).cells u1) 31 ∧ VA V (w3.heap.size + 1) ((PL 2 2 0 m).cells u2) 31 ∧ VA V (w3.heap.size + 1 + 1) ((PL 3 1 1 500).cells u3) 31) (by kernel_rfl) (⟨HF_9.out.v8.drew, HF_9.out.v9.drew, HF_9.out.v10.drew⟩) ?_
  intro hh_
  have bz := (Below.refl w9.heap.size w9).drew
  have HF_z := hI_ (HF_9.out.step bz)
  have BB_z := hI_ (BB_9.out.trans (bz.mono BB_9.out.size))
  generalize w9.drew = wz at *
  clear bz
  refine tK 0 40 (.agg ((PL 1 1 0 l).cells u1).toArray) (by exact rfl) (yieldsIf_load_mid (by rfl) _ _ rfl _ _ rfl _ _ (fun wq hS => (fun j u hj => by rw [Nat.zero_add]; exact VA.cell hS.1 j hj)) underlying31 rfl ao) ?_
  try simp only [nrm]
  refine tK 1 41 (.agg ((PL 2 2 0 m).cells u2).toArray) (by exact rfl) (yieldsIf_load_mid (by rfl) _ _ rfl _ _ rfl _ _ (fun wq hS => (fun j u hj => by rw [Nat.zero_add]; exact VA.cell hS.2.1 j hj)) underlying31 rfl ao) ?_
  try simp only [nrm]
  refine tK 2 42 (.agg ((PL 3 1 1 500).cells u3).toArray) (by exact rfl) (yieldsIf_load_mid (by rfl) _ _ rfl _ _ rfl _ _ (fun wq hS => (fun j u hj => by rw [Nat.zero_add]; exact VA.cell hS.2.2 j hj)) underlying31 rfl ao) ?_
  try simp only [nrm]
  refine tK 11 51 (.int .i64 0) (by exact rfl) (Or.inl ⟨by rfl, ?_⟩) ?_
  ·intro wq hS
   go_simp
  try simp only [nrm]
  clear hh_ BB_z BB_9
  refine wpAnyH_ready (rs := [3, 5, 7]) (by kernel_rfl) (by simp) ?_
  refine AllReadyH.cons (by exact rfl) (fun K hK => ?_) (AllReadyH.cons (by exact rfl) (fun K hK => ?_) (AllReadyH.cons (by exact rfl) (fun K hK => ?_) (AllReadyH.nil)))
  ·refine cg (by rfl) 1 rfl (by rfl) (by rfl) HF_z ?_
   intro wc1 r1 HF_c1 L1 hs
   refine hK.out _ _ HF_c1.out.s (fun _ => ?_)
   try simp only [nrm]
   clear hK K hs HF_z
   refine wpAnyH_ready (rs := [4, 5, 7]) (by kernel_rfl) (by simp) ?_
   refine AllReadyH.cons (by exact rfl) (fun K hK => ?_) (AllReadyH.cons (by exact rfl) (fun K hK => ?_) (AllReadyH.cons (by exact rfl) (fun K hK => ?_) (AllReadyH.nil)))
   ·go_simp
    refine Calls.mono (aH HF_c1 L1) ?_
    rintro e wc2 ⟨rfl, HF_c2, hs⟩
    go_wp2_with fail
    refine hK.out _ _ HF_c2.out.s (fun _ => ?_)
    try simp only [nrm]
    clear hK K hs HF_c1 L1
    refine wpAnyH_ready (rs := [5, 7]) (by kernel_rfl) (by simp) ?_
    refine AllReadyH.cons (by exact rfl) (fun K hK => ?_) (AllReadyH.cons (by exact rfl) (fun K hK => ?_) (AllReadyH.nil))
    ·refine cg (by rfl) 2 rfl (by rfl) (by rfl) HF_c2 ?_
     intro wc3 r2 HF_c3 L2 hs
     refine hK.out _ _ HF_c3.out.s (fun _ => ?_)
     try simp only [nrm]
     clear hK K hs HF_c2
     refine wpAnyH_ready (rs := [6, 7]) (by kernel_rfl) (by simp) ?_
     refine AllReadyH.cons (by exact rfl) (fun K hK => ?_) (AllReadyH.cons (by exact rfl) (fun K hK => ?_) (AllReadyH.nil))
     ·go_simp
      refine Calls.mono (aH HF_c3 L2) ?_
      rintro e wc4 ⟨rfl, HF_c4, hs⟩
      go_wp2_with fail
      refine hK.out _ _ HF_c4.out.s (fun _ => ?_)
      try simp only [nrm]
      clear hK K hs HF_c3 L2
      refine rdy 7 (fun K hK => ?_)
      refine cg (by rfl) 3 rfl (by rfl) (by rfl) HF_c4 ?_
      intro wc5 r3 HF_c5 L3 hs
      refine hK.out _ _ HF_c5.out.s (fun _ => ?_)
      try simp only [nrm]
      clear hK K hs HF_c4
      refine rdy 8 (fun K hK => ?_)
      go_simp
      refine Calls.mono (aH HF_c5 L3) ?_
      rintro e wc6 ⟨rfl, HF_c6, hs⟩
      go_wp2_with fail
      refine hK.out _ _ HF_c6.out.s (fun _ => ?_)
      try simp only [nrm]
      clear hK K hs HF_c5 L3
      refine rdy 9 (fun K hK => ?_)
      refine eC (by rfl) rfl (by rfl) (by rfl) (by rfl) (by rfl) (by rfl) (by rfl) HF_c6 49 rfl ?_
      intro wc7 qx HF_c7 XX
      refine hK.out _ _ HF_c7.out.s (fun hh_ => ?_)
      try simp only [nrm]
      clear hK K HF_c6
      refine tK 10 50 (.int .i64 6) (by exact rfl) (Or.inl ⟨by rfl, ?_⟩) ?_
      ·intro wq hS
       go_simp
      try simp only [nrm]
      refine wpAnyH_done (by kernel_rfl) ?_ _
      refine NoPanic.normal ?_
      clear hh_
      go_wp2_with fail
      go_meet
      exact ⟨qx, rfl, rfl, rfl, HF_c7.out.k, HF_c7.out.o1, HF_c7.out.o2, HF_c7.out.o3, XX.out, HF_c7.out.b⟩
     ·refine cg (by rfl) 3 rfl (by rfl) (by rfl) HF_c3 ?_
      intro wc8 r3 HF_c8 L3 hs
      replace L2 := hI_ (hs.out L2.out)
      refine hK.out _ _ HF_c8.out.s (fun _ => ?_)
      try simp only [nrm]
      clear hK K hs HF_c3
      refine rdy 6 (fun K hK => ?_)
      go_simp
      refine Calls.mono (aH HF_c8 L2) ?_
      rintro e wc9 ⟨rfl, HF_c9, hs⟩
      replace L3 := hI_ (hs.out L3.out)
      go_wp2_with fail
      refine hK.out _ _ HF_c9.out.s (fun _ => ?_)
      try simp only [nrm]
      clear hK K hs HF_c8 L2
      refine rdy 8 (fun K hK => ?_)
      go_simp
      refine Calls.mono (aH HF_c9 L3) ?_
      rintro e wc10 ⟨rfl, HF_c10, hs⟩
      go_wp2_with fail
      refine hK.out _ _ HF_c10.out.s (fun _ => ?_)
      try simp only [nrm]
      clear hK K hs HF_c9 L3
      refine rdy 9 (fun K hK => ?_)
      refine eC (by rfl) rfl (by rfl) (by rfl) (by rfl) (by rfl) (by rfl) (by rfl) HF_c10 49 rfl ?_
      intro wc11 qx HF_c11 XX
      refine hK.out _ _ HF_c11.out.s (fun hh_ => ?_)
      try simp only [nrm]
      clear hK K HF_c10
      refine tK 10 50 (.int .i64 6) (by exact rfl) (Or.inl ⟨by rfl, ?_⟩) ?_
      ·intro wq hS
       go_simp
      try simp only [nrm]
      refine wpAnyH_done (by kernel_rfl) ?_ _
      refine NoPanic.normal ?_
      clear hh_
      go_wp2_with fail
      go_meet
      exact ⟨qx, rfl, rfl, rfl, HF_c11.out.k, HF_c11.out.o1, HF_c11.out.o2, HF_c11.out.o3, XX.out, HF_c11.out.b⟩
    ·refine cg (by rfl) 3 rfl (by rfl) (by rfl) HF_c2 ?_
     intro wc12 r3 HF_c12 L3 hs
     refine hK.out _ _ HF_c12.out.s (fun _ => ?_)
     try simp only [nrm]
     clear hK K hs HF_c2
     refine rdy 5 (fun K hK => ?_)
     refine cg (by rfl) 2 rfl (by rfl) (by rfl) HF_c12 ?_
     intro wc13 r2 HF_c13 L2 hs
     replace L3 := hI_ (hs.out L3.out)
     refine hK.out _ _ HF_c13.out.s (fun _ => ?_)
     try simp only [nrm]
     clear hK K hs HF_c12
     refine rdy 6 (fun K hK => ?_)
     go_simp
     refine Calls.mono (aH HF_c13 L2) ?_
     rintro e wc14 ⟨rfl, HF_c14, hs⟩
     replace L3 := hI_ (hs.out L3.out)
     go_wp2_with fail
     refine hK.out _ _ HF_c14.out.s (fun _ => ?_)
     try simp only [nrm]
     clear hK K hs HF_c13 L2
     refine rdy 8 (fun K hK => ?_)
     go_simp
     refine Calls.mono (aH HF_c14 L3) ?_
     rintro e wc15 ⟨rfl, HF_c15, hs⟩
     go_wp2_with fail
     refine hK.out _ _ HF_c15.out.s (fun _ => ?_)
     try simp only [nrm]
     clear hK K hs HF_c14 L3
     refine rdy 9 (fun K hK => ?_)
     refine eC (by rfl) rfl (by rfl) (by rfl) (by rfl) (by rfl) (by rfl) (by rfl) HF_c15 49 rfl ?_
     intro wc16 qx HF_c16 XX
     refine hK.out _ _ HF_c16.out.s (fun hh_ => ?_)
     try simp only [nrm]
     clear hK K HF_c15
     refine tK 10 50 (.int .i64 6) (by exact rfl) (Or.inl ⟨by rfl, ?_⟩) ?_
     ·intro wq hS
      go_simp
     try simp only [nrm]
     refine wpAnyH_done (by kernel_rfl) ?_ _
     refine NoPanic.normal ?_
     clear hh_
     go_wp2_with fail
     go_meet
     exact ⟨qx, rfl, rfl, rfl, HF_c16.out.k, HF_c16.out.o1, HF_c16.out.o2, HF_c16.out.o3, XX.out, HF_c16.out.b⟩
   ·refine cg (by rfl) 2 rfl (by rfl) (by rfl) HF_c1 ?_
    intro wc17 r2 HF_c17 L2 hs
    replace L1 := hI_ (hs.out L1.out)
    refine hK.out _ _ HF_c17.out.s (fun _ => ?_)
    try simp only [nrm]
    clear hK K hs HF_c1
    refine wpAnyH_ready (rs := [4, 7]) (by kernel_rfl) (by simp) ?_
    refine AllReadyH.cons (by exact rfl) (fun K hK => ?_) (AllReadyH.cons (by exact rfl) (fun K hK => ?_) (AllReadyH.nil))
    ·go_simp
     refine Calls.mono (aH HF_c17 L1) ?_
     rintro e wc18 ⟨rfl, HF_c18, hs⟩
     replace L2 := hI_ (hs.out L2.out)
     go_wp2_with fail
     refine hK.out _ _ HF_c18.out.s (fun _ => ?_)
     try simp only [nrm]
     clear hK K hs HF_c17 L1
     refine wpAnyH_ready (rs := [6, 7]) (by kernel_rfl) (by simp) ?_
     refine AllReadyH.cons (by exact rfl) (fun K hK => ?_) (AllReadyH.cons (by exact rfl) (fun K hK => ?_) (AllReadyH.nil))
     ·go_simp
      refine Calls.mono (aH HF_c18 L2) ?_
      rintro e wc19 ⟨rfl, HF_c19, hs⟩
      go_wp2_with fail
      refine hK.out _ _ HF_c19.out.s (fun _ => ?_)
      try simp only [nrm]
      clear hK K hs HF_c18 L2
      refine rdy 7 (fun K hK => ?_)
      refine cg (by rfl) 3 rfl (by rfl) (by rfl) HF_c19 ?_
      intro wc20 r3 HF_c20 L3 hs
      refine hK.out _ _ HF_c20.out.s (fun _ => ?_)
      try simp only [nrm]
      clear hK K hs HF_c19
      refine rdy 8 (fun K hK => ?_)
      go_simp
      refine Calls.mono (aH HF_c20 L3) ?_
      rintro e wc21 ⟨rfl, HF_c21, hs⟩
      go_wp2_with fail
      refine hK.out _ _ HF_c21.out.s (fun _ => ?_)
      try simp only [nrm]
      clear hK K hs HF_c20 L3
      refine rdy 9 (fun K hK => ?_)
      refine eC (by rfl) rfl (by rfl) (by rfl) (by rfl) (by rfl) (by rfl) (by rfl) HF_c21 49 rfl ?_
      intro wc22 qx HF_c22 XX
      refine hK.out _ _ HF_c22.out.s (fun hh_ => ?_)
      try simp only [nrm]
      clear hK K HF_c21
      refine tK 10 50 (.int .i64 6) (by exact rfl) (Or.inl ⟨by rfl, ?_⟩) ?_
      ·intro wq hS
       go_simp
      try simp only [nrm]
      refine wpAnyH_done (by kernel_rfl) ?_ _
      refine NoPanic.normal ?_
      clear hh_
      go_wp2_with fail
      go_meet
      exact ⟨qx, rfl, rfl, rfl, HF_c22.out.k, HF_c22.out.o1, HF_c22.out.o2, HF_c22.out.o3, XX.out, HF_c22.out.b⟩
     ·refine cg (by rfl) 3 rfl (by rfl) (by rfl) HF_c18 ?_
      intro wc23 r3 HF_c23 L3 hs
      replace L2 := hI_ (hs.out L2.out)
      refine hK.out _ _ HF_c23.out.s (fun _ => ?_)
      try simp only [nrm]
      clear hK K hs HF_c18
      refine rdy 6 (fun K hK => ?_)
      go_simp
      refine Calls.mono (aH HF_c23 L2) ?_
      rintro e wc24 ⟨rfl, HF_c24, hs⟩
      replace L3 := hI_ (hs.out L3.out)
      go_wp2_with fail
      refine hK.out _ _ HF_c24.out.s (fun _ => ?_)
      try simp only [nrm]
      clear hK K hs HF_c23 L2
      refine rdy 8 (fun K hK => ?_)
      go_simp
      refine Calls.mono (aH HF_c24 L3) ?_
      rintro e wc25 ⟨rfl, HF_c25, hs⟩
      go_wp2_with fail
      refine hK.out _ _ HF_c25.out.s (fun _ => ?_)
      try simp only [nrm]
      clear hK K hs HF_c24 L3
      refine rdy 9 (fun K hK => ?_)
      refine eC (by rfl) rfl (by rfl) (by rfl) (by rfl) (by rfl) (by rfl) (by rfl) HF_c25 49 rfl ?_
      intro wc26 qx HF_c26 XX
      refine hK.out _ _ HF_c26.out.s (fun hh_ => ?_)
      try simp only [nrm]
      clear hK K HF_c25
      refine tK 10 50 (.int .i64 6) (by exact rfl) (Or.inl ⟨by rfl, ?_⟩) ?_
      ·intro wq hS
       go_simp
      try simp only [nrm]
      refine wpAnyH_done (by kernel_rfl) ?_ _
      refine NoPanic.normal ?_
      clear hh_
      go_wp2_with fail
      go_meet
      exact ⟨qx, rfl, rfl, rfl, HF_c26.out.k, HF_c26.out.o1, HF_c26.out.o2, HF_c26.out.o3, XX.out, HF_c26.out.b⟩
    ·refine cg (by rfl) 3 rfl (by rfl) (by rfl) HF_c17 ?_
     intro wc27 r3 HF_c27 L3 hs
     replace L1 := hI_ (hs.out L1.out)
     replace L2 := hI_ (hs.out L2.out)
     refine hK.out _ _ HF_c27.out.s (fun _ => ?_)
     try simp only [nrm]
     clear hK K hs HF_c17
     refine rdy 4 (fun K hK => ?_)
     go_simp
     refine Calls.mono (aH HF_c27 L1) ?_
     rintro e wc28 ⟨rfl, HF_c28, hs⟩
     replace L2 := hI_ (hs.out L2.out)
     replace L3 := hI_ (hs.out L3.out)
     go_wp2_with fail
     refine hK.out _ _ HF_c28.out.s (fun _ => ?_)
     try simp only [nrm]
     clear hK K hs HF_c27 L1
     refine rdy 6 (fun K hK => ?_)
     go_simp
     refine Calls.mono (aH HF_c28 L2) ?_
     rintro e wc29 ⟨rfl, HF_c29, hs⟩
     replace L3 := hI_ (hs.out L3.out)
     go_wp2_with fail
     refine hK.out _ _ HF_c29.out.s (fun _ => ?_)
     try simp only [nrm]
     clear hK K hs HF_c28 L2
     refine rdy 8 (fun K hK => ?_)
     go_simp
     refine Calls.mono (aH HF_c29 L3) ?_
     rintro e wc30 ⟨rfl, HF_c30, hs⟩
     go_wp2_with fail
     refine hK.out _ _ HF_c30.out.s (fun _ => ?_)
     try simp only [nrm]
     clear hK K hs HF_c29 L3
     refine rdy 9 (fun K hK => ?_)
     refine eC (by rfl) rfl (by rfl) (by rfl) (by rfl) (by rfl) (by rfl) (by rfl) HF_c30 49 rfl ?_
     intro wc31 qx HF_c31 XX
     refine hK.out _ _ HF_c31.out.s (fun hh_ => ?_)
     try simp only [nrm]
     clear hK K HF_c30
     refine tK 10 50 (.int .i64 6) (by exact rfl) (Or.inl ⟨by rfl, ?_⟩) ?_
     ·intro wq hS
      go_simp
     try simp only [nrm]
     refine wpAnyH_done (by kernel_rfl) ?_ _
     refine NoPanic.normal ?_
     clear hh_
     go_wp2_with fail
     go_meet
     exact ⟨qx, rfl, rfl, rfl, HF_c31.out.k, HF_c31.out.o1, HF_c31.out.o2, HF_c31.out.o3, XX.out, HF_c31.out.b⟩
   ·refine cg (by rfl) 3 rfl (by rfl) (by rfl) HF_c1 ?_
    intro wc32 r3 HF_c32 L3 hs
    replace L1 := hI_ (hs.out L1.out)
    refine hK.out _ _ HF_c32.out.s (fun _ => ?_)
    try simp only [nrm]
    clear hK K hs HF_c1
    refine wpAnyH_ready (rs := [4, 5]) (by kernel_rfl) (by simp) ?_
    refine AllReadyH.cons (by exact rfl) (fun K hK => ?_) (AllReadyH.cons (by exact rfl) (fun K hK => ?_) (AllReadyH.nil))
    ·go_simp
     refine Calls.mono (aH HF_c32 L1) ?_
     rintro e wc33 ⟨rfl, HF_c33, hs⟩
     replace L3 := hI_ (hs.out L3.out)
     go_wp2_with fail
     refine hK.out _ _ HF_c33.out.s (fun _ => ?_)
     try simp only [nrm]
     clear hK K hs HF_c32 L1
     refine rdy 5 (fun K hK => ?_)
     refine cg (by rfl) 2 rfl (by rfl) (by rfl) HF_c33 ?_
     intro wc34 r2 HF_c34 L2 hs
     replace L3 := hI_ (hs.out L3.out)
     refine hK.out _ _ HF_c34.out.s (fun _ => ?_)
     try simp only [nrm]
     clear hK K hs HF_c33
     refine rdy 6 (fun K hK => ?_)
     go_simp
     refine Calls.mono (aH HF_c34 L2) ?_
     rintro e wc35 ⟨rfl, HF_c35, hs⟩
     replace L3 := hI_ (hs.out L3.out)
     go_wp2_with fail
     refine hK.out _ _ HF_c35.out.s (fun _ => ?_)
     try simp only [nrm]
     clear hK K hs HF_c34 L2
     refine rdy 8 (fun K hK => ?_)
     go_simp
     refine Calls.mono (aH HF_c35 L3) ?_
     rintro e wc36 ⟨rfl, HF_c36, hs⟩
     go_wp2_with fail
     refine hK.out _ _ HF_c36.out.s (fun _ => ?_)
     try simp only [nrm]
     clear hK K hs HF_c35 L3
     refine rdy 9 (fun K hK => ?_)
     refine eC (by rfl) rfl (by rfl) (by rfl) (by rfl) (by rfl) (by rfl) (by rfl) HF_c36 49 rfl ?_
     intro wc37 qx HF_c37 XX
     refine hK.out _ _ HF_c37.out.s (fun hh_ => ?_)
     try simp only [nrm]
     clear hK K HF_c36
     refine tK 10 50 (.int .i64 6) (by exact rfl) (Or.inl ⟨by rfl, ?_⟩) ?_
     ·intro wq hS
      go_simp
     try simp only [nrm]
     refine wpAnyH_done (by kernel_rfl) ?_ _
     refine NoPanic.normal ?_
     clear hh_
     go_wp2_with fail
     go_meet
     exact ⟨qx, rfl, rfl, rfl, HF_c37.out.k, HF_c37.out.o1, HF_c37.out.o2, HF_c37.out.o3, XX.out, HF_c37.out.b⟩
    ·refine cg (by rfl) 2 rfl (by rfl) (by rfl) HF_c32 ?_
     intro wc38 r2 HF_c38 L2 hs
     replace L1 := hI_ (hs.out L1.out)
     replace L3 := hI_ (hs.out L3.out)
     refine hK.out _ _ HF_c38.out.s (fun _ => ?_)
     try simp only [nrm]
     clear hK K hs HF_c32
     refine rdy 4 (fun K hK => ?_)
     go_simp
     refine Calls.mono (aH HF_c38 L1) ?_
     rintro e wc39 ⟨rfl, HF_c39, hs⟩
     replace L2 := hI_ (hs.out L2.out)
     replace L3 := hI_ (hs.out L3.out)
     go_wp2_with fail
     refine hK.out _ _ HF_c39.out.s (fun _ => ?_)
     try simp only [nrm]
     clear hK K hs HF_c38 L1
     refine rdy 6 (fun K hK => ?_)
     go_simp
     refine Calls.mono (aH HF_c39 L2) ?_
     rintro e wc40 ⟨rfl, HF_c40, hs⟩
     replace L3 := hI_ (hs.out L3.out)
     go_wp2_with fail
     refine hK.out _ _ HF_c40.out.s (fun _ => ?_)
     try simp only [nrm]
     clear hK K hs HF_c39 L2
     refine rdy 8 (fun K hK => ?_)
     go_simp
     refine Calls.mono (aH HF_c40 L3) ?_
     rintro e wc41 ⟨rfl, HF_c41, hs⟩
     go_wp2_with fail
     refine hK.out _ _ HF_c41.out.s (fun _ => ?_)
     try simp only [nrm]
     clear hK K hs HF_c40 L3
     refine rdy 9 (fun K hK => ?_)
     refine eC (by rfl) rfl (by rfl) (by rfl) (by rfl) (by rfl) (by rfl) (by rfl) HF_c41 49 rfl ?_
     intro wc42 qx HF_c42 XX
     refine hK.out _ _ HF_c42.out.s (fun hh_ => ?_)
     try simp only [nrm]
     clear hK K HF_c41
     refine tK 10 50 (.int .i64 6) (by exact rfl) (Or.inl ⟨by rfl, ?_⟩) ?_
     ·intro wq hS
      go_simp
     try simp only [nrm]
     refine wpAnyH_done (by kernel_rfl) ?_ _
     refine NoPanic.normal ?_
     clear hh_
     go_wp2_with fail
     go_meet
     exact ⟨qx, rfl, rfl, rfl, HF_c42.out.k, HF_c42.out.o1, HF_c42.out.o2, HF_c42.out.o3, XX.out, HF_c42.out.b⟩
  ·refine cg (by rfl) 2 rfl (by rfl) (by rfl) HF_z ?_
   intro wc43 r2 HF_c43 L2 hs
   refine hK.out _ _ HF_c43.out.s (fun _ => ?_)
   try simp only [nrm]
   clear hK K hs HF_z
   refine wpAnyH_ready (rs := [3, 7]) (by kernel_rfl) (by simp) ?_
   refine AllReadyH.cons (by exact rfl) (fun K hK => ?_) (AllReadyH.cons (by exact rfl) (fun K hK => ?_) (AllReadyH.nil))
   ·refine cg (by rfl) 1 rfl (by rfl) (by rfl) HF_c43 ?_
    intro wc44 r1 HF_c44 L1 hs
    replace L2 := hI_ (hs.out L2.out)
    refine hK.out _ _ HF_c44.out.s (fun _ => ?_)
    try simp only [nrm]
    clear hK K hs HF_c43
    refine wpAnyH_ready (rs := [4, 7]) (by kernel_rfl) (by simp) ?_
    refine AllReadyH.cons (by exact rfl) (fun K hK => ?_) (AllReadyH.cons (by exact rfl) (fun K hK => ?_) (AllReadyH.nil))
    ·go_simp
     refine Calls.mono (aH HF_c44 L1) ?_
     rintro e wc45 ⟨rfl, HF_c45, hs⟩
     replace L2 := hI_ (hs.out L2.out)
     go_wp2_with fail
     refine hK.out _ _ HF_c45.out.s (fun _ => ?_)
     try simp only [nrm]
     clear hK K hs HF_c44 L1
     refine wpAnyH_ready (rs := [6, 7]) (by kernel_rfl) (by simp) ?_
     refine AllReadyH.cons (by exact rfl) (fun K hK => ?_) (AllReadyH.cons (by exact rfl) (fun K hK => ?_) (AllReadyH.nil))
     ·go_simp
      refine Calls.mono (aH HF_c45 L2) ?_
      rintro e wc46 ⟨rfl, HF_c46, hs⟩
      go_wp2_with fail
      refine hK.out _ _ HF_c46.out.s (fun _ => ?_)
      try simp only [nrm]
      clear hK K hs HF_c45 L2
      refine rdy 7 (fun K hK => ?_)
      refine cg (by rfl) 3 rfl (by rfl) (by rfl) HF_c46 ?_
      intro wc47 r3 HF_c47 L3 hs
      refine hK.out _ _ HF_c47.out.s (fun _ => ?_)
      try simp only [nrm]
      clear hK K hs HF_c46
      refine rdy 8 (fun K hK => ?_)
      go_simp
      refine Calls.mono (aH HF_c47 L3) ?_
      rintro e wc48 ⟨rfl, HF_c48, hs⟩
      go_wp2_with fail
      refine hK.out _ _ HF_c48.out.s (fun _ => ?_)
      try simp only [nrm]
      clear hK K hs HF_c47 L3
      refine rdy 9 (fun K hK => ?_)
      refine eC (by rfl) rfl (by rfl) (by rfl) (by rfl) (by rfl) (by rfl) (by rfl) HF_c48 49 rfl ?_
      intro wc49 qx HF_c49 XX
      refine hK.out _ _ HF_c49.out.s (fun hh_ => ?_)
      try simp only [nrm]
      clear hK K HF_c48
      refine tK 10 50 (.int .i64 6) (by exact rfl) (Or.inl ⟨by rfl, ?_⟩) ?_
      ·intro wq hS
       go_simp
      try simp only [nrm]
      refine wpAnyH_done (by kernel_rfl) ?_ _
      refine NoPanic.normal ?_
      clear hh_
      go_wp2_with fail
      go_meet
      exact ⟨qx, rfl, rfl, rfl, HF_c49.out.k, HF_c49.out.o1, HF_c49.out.o2, HF_c49.out.o3, XX.out, HF_c49.out.b⟩
     ·refine cg (by rfl) 3 rfl (by rfl) (by rfl) HF_c45 ?_
      intro wc50 r3 HF_c50 L3 hs
      replace L2 := hI_ (hs.out L2.out)
      refine hK.out _ _ HF_c50.out.s (fun _ => ?_)
      try simp only [nrm]
      clear hK K hs HF_c45
      refine rdy 6 (fun K hK => ?_)
      go_simp
      refine Calls.mono (aH HF_c50 L2) ?_
      rintro e wc51 ⟨rfl, HF_c51, hs⟩
      replace L3 := hI_ (hs.out L3.out)
      go_wp2_with fail
      refine hK.out _ _ HF_c51.out.s (fun _ => ?_)
      try simp only [nrm]
      clear hK K hs HF_c50 L2
      refine rdy 8 (fun K hK => ?_)
      go_simp
      refine Calls.mono (aH HF_c51 L3) ?_
      rintro e wc52 ⟨rfl, HF_c52, hs⟩
      go_wp2_with fail
      refine hK.out _ _ HF_c52.out.s (fun _ => ?_)
      try simp only [nrm]
      clear hK K hs HF_c51 L3
      refine rdy 9 (fun K hK => ?_)
      refine eC (by rfl) rfl (by rfl) (by rfl) (by rfl) (by rfl) (by rfl) (by rfl) HF_c52 49 rfl ?_
      intro wc53 qx HF_c53 XX
      refine hK.out _ _ HF_c53.out.s (fun hh_ => ?_)
      try simp only [nrm]
      clear hK K HF_c52
      refine tK 10 50 (.int .i64 6) (by exact rfl) (Or.inl ⟨by rfl, ?_⟩) ?_
      ·intro wq hS
       go_simp
      try simp only [nrm]
      refine wpAnyH_done (by kernel_rfl) ?_ _
      refine NoPanic.normal ?_
      clear hh_
      go_wp2_with fail
      go_meet
      exact ⟨qx, rfl, rfl, rfl, HF_c53.out.k, HF_c53.out.o1, HF_c53.out.o2, HF_c53.out.o3, XX.out, HF_c53.out.b⟩
    ·refine cg (by rfl) 3 rfl (by rfl) (by rfl) HF_c44 ?_
     intro wc54 r3 HF_c54 L3 hs
     replace L1 := hI_ (hs.out L1.out)
     replace L2 := hI_ (hs.out L2.out)
     refine hK.out _ _ HF_c54.out.s (fun _ => ?_)
     try simp only [nrm]
     clear hK K hs HF_c44
     refine rdy 4 (fun K hK => ?_)
     go_simp
     refine Calls.mono (aH HF_c54 L1) ?_
     rintro e wc55 ⟨rfl, HF_c55, hs⟩
     replace L2 := hI_ (hs.out L2.out)
     replace L3 := hI_ (hs.out L3.out)
     go_wp2_with fail
     refine hK.out _ _ HF_c55.out.s (fun _ => ?_)
     try simp only [nrm]
     clear hK K hs HF_c54 L1
     refine rdy 6 (fun K hK => ?_)
     go_simp
     refine Calls.mono (aH HF_c55 L2) ?_
     rintro e wc56 ⟨rfl, HF_c56, hs⟩
     replace L3 := hI_ (hs.out L3.out)
     go_wp2_with fail
     refine hK.out _ _ HF_c56.out.s (fun _ => ?_)
     try simp only [nrm]
     clear hK K hs HF_c55 L2
     refine rdy 8 (fun K hK => ?_)
     go_simp
     refine Calls.mono (aH HF_c56 L3) ?_
     rintro e wc57 ⟨rfl, HF_c57, hs⟩
     go_wp2_with fail
     refine hK.out _ _ HF_c57.out.s (fun _ => ?_)
     try simp only [nrm]
     clear hK K hs HF_c56 L3
     refine rdy 9 (fun K hK => ?_)
     refine eC (by rfl) rfl (by rfl) (by rfl) (by rfl) (by rfl) (by rfl) (by rfl) HF_c57 49 rfl ?_
     intro wc58 qx HF_c58 XX
     refine hK.out _ _ HF_c58.out.s (fun hh_ => ?_)
     try simp only [nrm]
     clear hK K HF_c57
     refine tK 10 50 (.int .i64 6) (by exact rfl) (Or.inl ⟨by rfl, ?_⟩) ?_
     ·intro wq hS
      go_simp
     try simp only [nrm]
     refine wpAnyH_done (by kernel_rfl) ?_ _
     refine NoPanic.normal ?_
     clear hh_
     go_wp2_with fail
     go_meet
     exact ⟨qx, rfl, rfl, rfl, HF_c58.out.k, HF_c58.out.o1, HF_c58.out.o2, HF_c58.out.o3, XX.out, HF_c58.out.b⟩
   ·refine cg (by rfl) 3 rfl (by rfl) (by rfl) HF_c43 ?_
    intro wc59 r3 HF_c59 L3 hs
    replace L2 := hI_ (hs.out L2.out)
    refine hK.out _ _ HF_c59.out.s (fun _ => ?_)
    try simp only [nrm]
    clear hK K hs HF_c43
    refine rdy 3 (fun K hK => ?_)
    refine cg (by rfl) 1 rfl (by rfl) (by rfl) HF_c59 ?_
    intro wc60 r1 HF_c60 L1 hs
    replace L2 := hI_ (hs.out L2.out)
    replace L3 := hI_ (hs.out L3.out)
    refine hK.out _ _ HF_c60.out.s (fun _ => ?_)
    try simp only [nrm]
    clear hK K hs HF_c59
    refine rdy 4 (fun K hK => ?_)
    go_simp
    refine Calls.mono (aH HF_c60 L1) ?_
    rintro e wc61 ⟨rfl, HF_c61, hs⟩
    replace L2 := hI_ (hs.out L2.out)
    replace L3 := hI_ (hs.out L3.out)
    go_wp2_with fail
    refine hK.out _ _ HF_c61.out.s (fun _ => ?_)
    try simp only [nrm]
    clear hK K hs HF_c60 L1
    refine rdy 6 (fun K hK => ?_)
    go_simp
    refine Calls.mono (aH HF_c61 L2) ?_
    rintro e wc62 ⟨rfl, HF_c62, hs⟩
    replace L3 := hI_ (hs.out L3.out)
    go_wp2_with fail
    refine hK.out _ _ HF_c62.out.s (fun _ => ?_)
    try simp only [nrm]
    clear hK K hs HF_c61 L2
    refine rdy 8 (fun K hK => ?_)
    go_simp
    refine Calls.mono (aH HF_c62 L3) ?_
    rintro e wc63 ⟨rfl, HF_c63, hs⟩
    go_wp2_with fail
    refine hK.out _ _ HF_c63.out.s (fun _ => ?_)
    try simp only [nrm]
    clear hK K hs HF_c62 L3
    refine rdy 9 (fun K hK => ?_)
    refine eC (by rfl) rfl (by rfl) (by rfl) (by rfl) (by rfl) (by rfl) (by rfl) HF_c63 49 rfl ?_
    intro wc64 qx HF_c64 XX
    refine hK.out _ _ HF_c64.out.s (fun hh_ => ?_)
    try simp only [nrm]
    clear hK K HF_c63
    refine tK 10 50 (.int .i64 6) (by exact rfl) (Or.inl ⟨by rfl, ?_⟩) ?_
    ·intro wq hS
     go_simp
    try simp only [nrm]
    refine wpAnyH_done (by kernel_rfl) ?_ _
    refine NoPanic.normal ?_
    clear hh_
    go_wp2_with fail
    go_meet
    exact ⟨qx, rfl, rfl, rfl, HF_c64.out.k, HF_c64.out.o1, HF_c64.out.o2, HF_c64.out.o3, XX.out, HF_c64.out.b⟩
  ·refine cg (by rfl) 3 rfl (by rfl) (by rfl) HF_z ?_
   intro wc65 r3 HF_c65 L3 hs
   refine hK.out _ _ HF_c65.out.s (fun _ => ?_)
   try simp only [nrm]
   clear hK K hs HF_z
   refine wpAnyH_ready (rs := [3, 5]) (by kernel_rfl) (by simp) ?_
   refine AllReadyH.cons (by exact rfl) (fun K hK => ?_) (AllReadyH.cons (by exact rfl) (fun K hK => ?_) (AllReadyH.nil))
   ·refine cg (by rfl) 1 rfl (by rfl) (by rfl) HF_c65 ?_
    intro wc66 r1 HF_c66 L1 hs
    replace L3 := hI_ (hs.out L3.out)
    refine hK.out _ _ HF_c66.out.s (fun _ => ?_)
    try simp only [nrm]
    clear hK K hs HF_c65
    refine wpAnyH_ready (rs := [4, 5]) (by kernel_rfl) (by simp) ?_
    refine AllReadyH.cons (by exact rfl) (fun K hK => ?_) (AllReadyH.cons (by exact rfl) (fun K hK => ?_) (AllReadyH.nil))
    ·go_simp
     refine Calls.mono (aH HF_c66 L1) ?_
     rintro e wc67 ⟨rfl, HF_c67, hs⟩
     replace L3 := hI_ (hs.out L3.out)
     go_wp2_with fail
     refine hK.out _ _ HF_c67.out.s (fun _ => ?_)
     try simp only [nrm]
     clear hK K hs HF_c66 L1
     refine rdy 5 (fun K hK => ?_)
     refine cg (by rfl) 2 rfl (by rfl) (by rfl) HF_c67 ?_
     intro wc68 r2 HF_c68 L2 hs
     replace L3 := hI_ (hs.out L3.out)
     refine hK.out _ _ HF_c68.out.s (fun _ => ?_)
     try simp only [nrm]
     clear hK K hs HF_c67
     refine rdy 6 (fun K hK => ?_)
     go_simp
     refine Calls.mono (aH HF_c68 L2) ?_
     rintro e wc69 ⟨rfl, HF_c69, hs⟩
     replace L3 := hI_ (hs.out L3.out)
     go_wp2_with fail
     refine hK.out _ _ HF_c69.out.s (fun _ => ?_)
     try simp only [nrm]
     clear hK K hs HF_c68 L2
     refine rdy 8 (fun K hK => ?_)
     go_simp
     refine Calls.mono (aH HF_c69 L3) ?_
     rintro e wc70 ⟨rfl, HF_c70, hs⟩
     go_wp2_with fail
     refine hK.out _ _ HF_c70.out.s (fun _ => ?_)
     try simp only [nrm]
     clear hK K hs HF_c69 L3
     refine rdy 9 (fun K hK => ?_)
     refine eC (by rfl) rfl (by rfl) (by rfl) (by rfl) (by rfl) (by rfl) (by rfl) HF_c70 49 rfl ?_
     intro wc71 qx HF_c71 XX
     refine hK.out _ _ HF_c71.out.s (fun hh_ => ?_)
     try simp only [nrm]
     clear hK K HF_c70
     refine tK 10 50 (.int .i64 6) (by exact rfl) (Or.inl ⟨by rfl, ?_⟩) ?_
     ·intro wq hS
      go_simp
     try simp only [nrm]
     refine wpAnyH_done (by kernel_rfl) ?_ _
     refine NoPanic.normal ?_
     clear hh_
     go_wp2_with fail
     go_meet
     exact ⟨qx, rfl, rfl, rfl, HF_c71.out.k, HF_c71.out.o1, HF_c71.out.o2, HF_c71.out.o3, XX.out, HF_c71.out.b⟩
    ·refine cg (by rfl) 2 rfl (by rfl) (by rfl) HF_c66 ?_
     intro wc72 r2 HF_c72 L2 hs
     replace L1 := hI_ (hs.out L1.out)
     replace L3 := hI_ (hs.out L3.out)
     refine hK.out _ _ HF_c72.out.s (fun _ => ?_)
     try simp only [nrm]
     clear hK K hs HF_c66
     refine rdy 4 (fun K hK => ?_)
     go_simp
     refine Calls.mono (aH HF_c72 L1) ?_
     rintro e wc73 ⟨rfl, HF_c73, hs⟩
     replace L2 := hI_ (hs.out L2.out)
     replace L3 := hI_ (hs.out L3.out)
     go_wp2_with fail
     refine hK.out _ _ HF_c73.out.s (fun _ => ?_)
     try simp only [nrm]
     clear hK K hs HF_c72 L1
     refine rdy 6 (fun K hK => ?_)
     go_simp
     refine Calls.mono (aH HF_c73 L2) ?_
     rintro e wc74 ⟨rfl, HF_c74, hs⟩
     replace L3 := hI_ (hs.out L3.out)
     go_wp2_with fail
     refine hK.out _ _ HF_c74.out.s (fun _ => ?_)
     try simp only [nrm]
     clear hK K hs HF_c73 L2
     refine rdy 8 (fun K hK => ?_)
     go_simp
     refine Calls.mono (aH HF_c74 L3) ?_
     rintro e wc75 ⟨rfl, HF_c75, hs⟩
     go_wp2_with fail
     refine hK.out _ _ HF_c75.out.s (fun _ => ?_)
     try simp only [nrm]
     clear hK K hs HF_c74 L3
     refine rdy 9 (fun K hK => ?_)
     refine eC (by rfl) rfl (by rfl) (by rfl) (by rfl) (by rfl) (by rfl) (by rfl) HF_c75 49 rfl ?_
     intro wc76 qx HF_c76 XX
     refine hK.out _ _ HF_c76.out.s (fun hh_ => ?_)
     try simp only [nrm]
     clear hK K HF_c75
     refine tK 10 50 (.int .i64 6) (by exact rfl) (Or.inl ⟨by rfl, ?_⟩) ?_
     ·intro wq hS
      go_simp
     try simp only [nrm]
     refine wpAnyH_done (by kernel_rfl) ?_ _
     refine NoPanic.normal ?_
     clear hh_
     go_wp2_with fail
     go_meet
     exact ⟨qx, rfl, rfl, rfl, HF_c76.out.k, HF_c76.out.o1, HF_c76.out.o2, HF_c76.out.o3, XX.out, HF_c76.out.b⟩
   ·refine cg (by rfl) 2 rfl (by rfl) (by rfl) HF_c65 ?_
    intro wc77 r2 HF_c77 L2 hs
    replace L3 := hI_ (hs.out L3.out)
    refine hK.out _ _ HF_c77.out.s (fun _ => ?_)
    try simp only [nrm]
    clear hK K hs HF_c65
    refine rdy 3 (fun K hK => ?_)
    refine cg (by rfl) 1 rfl (by rfl) (by rfl) HF_c77 ?_
    intro wc78 r1 HF_c78 L1 hs
    replace L2 := hI_ (hs.out L2.out)
    replace L3 := hI_ (hs.out L3.out)
    refine hK.out _ _ HF_c78.out.s (fun _ => ?_)
    try simp only [nrm]
    clear hK K hs HF_c77
    refine rdy 4 (fun K hK => ?_)
    go_simp
    refine Calls.mono (aH HF_c78 L1) ?_
    rintro e wc79 ⟨rfl, HF_c79, hs⟩
    replace L2 := hI_ (hs.out L2.out)
    replace L3 := hI_ (hs.out L3.out)
    go_wp2_with fail
    refine hK.out _ _ HF_c79.out.s (fun _ => ?_)
    try simp only [nrm]
    clear hK K hs HF_c78 L1
    refine rdy 6 (fun K hK => ?_)
    go_simp
    refine Calls.mono (aH HF_c79 L2) ?_
    rintro e wc80 ⟨rfl, HF_c80, hs⟩
    replace L3 := hI_ (hs.out L3.out)
    go_wp2_with fail
    refine hK.out _ _ HF_c80.out.s (fun _ => ?_)
    try simp only [nrm]
    clear hK K hs HF_c79 L2
    refine rdy 8 (fun K hK => ?_)
    go_simp
    refine Calls.mono (aH HF_c80 L3) ?_
    rintro e wc81 ⟨rfl, HF_c81, hs⟩
    go_wp2_with fail
    refine hK.out _ _ HF_c81.out.s (fun _ => ?_)
    try simp only [nrm]
    clear hK K hs HF_c80 L3
    refine rdy 9 (fun K hK => ?_)
    refine eC (by rfl) rfl (by rfl) (by rfl) (by rfl) (by rfl) (by rfl) (by rfl) HF_c81 49 rfl ?_
    intro wc82 qx HF_c82 XX
    refine hK.out _ _ HF_c82.out.s (fun hh_ => ?_)
    try simp only [nrm]
    clear hK K HF_c81
    refine tK 10 50 (.int .i64 6) (by exact rfl) (Or.inl ⟨by rfl, ?_⟩) ?_
    ·intro wq hS
     go_simp
    try simp only [nrm]
    refine wpAnyH_done (by kernel_rfl) ?_ _
    refine NoPanic.normal ?_
    clear hh_
    go_wp2_with fail
    go_meet
    exact ⟨qx, rfl, rfl, rfl, HF_c82.out.k, HF_c82.out.o1, HF_c82.out.o2, HF_c82.out.o3, XX.out, HF_c82.out.b⟩
 obtain ⟨qx, rfl, rfl, rfl, HK, P1, P2, P3, XX, BB⟩ := hcut
 go_wp2_with fail
 go_loopw [51] (fun i wr => ∃ k : Nat, k ≤ 6 ∧ i = .int .i64 (k : Int) ∧ Hid (BK wr w.heap.size p (runM (bank0 100) ((LC l m).take k))) ∧ Hid (OwnT wr w.heap.size u1 [(0, 36500000)]) ∧ Hid (OwnT wr w.heap.size u2 [(0, 36500000)]) ∧ Hid (OwnT wr w.heap.size u3 [(0, 36500000)]) ∧ Hid (VA wr qx (ECS (XL l m u1 u2 u3)) 31) ∧ Hid (Below w.heap.size w wr)) (fun i _ => 6 - (intOf i).toNat)
 case atStart => exact ⟨0, by omega, rfl, HK.out, P1.out, P2.out, P3.out, XX.out, BB.out⟩
 case round =>
  obtain ⟨k, hk, rfl, HK, P1, P2, P3, XX, BB⟩ := hrel
  by_cases hk6 : k = 6
  ·subst hk6
   go_wp2_with fail
   exact bodyPost_ret (v := .tuple #[.pointer (some ⟨p, 0, none⟩), .bool true]) (by simp [results, results10, go_sem]) rfl ⟨p, rfl, HK.out, BB.out⟩
  have hk' : k < 6 := by omega
  obtain ⟨x, hx, hy, ho⟩ := vh (l := l) (m := m) P1.out P2.out P3.out hk'
  have HX := hI_ hx
  have HY := hI_ hy
  have HO := hI_ ho
  have HGk := hI_ (HG.out k x.1 hy)
  have d1 : (0 : Int) ≤ (k : Int) := by omega
  have d2 : (k : Int) < 6 := by omega
  have bA := (Below.refl wr.heap.size wr).alloc (Nat.le_refl _) (.cells #[.int .u8 0, .int .u64 0, .int .i64 0, .int .i64 0, .int .i64 0, .int .i64 0, .int .i64 0, .int .i64 0, .int .i64 0, .int .i64 0, .slice none 0 0] 31)
  have HV := hI_ (aa wr mkZ 31)
  have HK_1 := hI_ (HK.out.step bA)
  have P1_1 := hI_ (P1.out.step bA)
  have P2_1 := hI_ (P2.out.step bA)
  have P3_1 := hI_ (P3.out.step bA)
  have HO_1 := hI_ (HO.out.step bA)
  have XX_1 := hI_ (XX.out.step bA)
  have BB_1 := hI_ (BB.out.trans (bA.mono BB.out.size))
  have s1 := BB.out.size
  clear hx hy ho bA
  go_upto_region 11 with (first | (refine wpList_load_mid rfl 31 _ rfl qx (k * 11) (by rfl) (x.1.cells x.2) _ (fun j u hj => XX.out.cell (k * 11 + j) (iS _ k x HX.out j u hj)) underlying31 rfl ao ?_) | (refine stA rfl 31 _ _ rfl wr.heap.size (by rfl) mkZ (x.1.cells x.2) (by rfl) 31 HV.out ao rfl (x.1.one HO.out.tf) ?_; intro w2 v2 u2))
  have HK_2 := hI_ (HK_1.out.upd HV.out (by decide) u2 (by have := H6.out; omega))
  have P1_2 := hI_ (OwnT.updV P1_1.out HV.out (by decide) u2)
  have P2_2 := hI_ (OwnT.updV P2_1.out HV.out (by decide) u2)
  have P3_2 := hI_ (OwnT.updV P3_1.out HV.out (by decide) u2)
  have HO_2 := hI_ (OwnT.updV HO_1.out HV.out (by decide) u2)
  have XX_2 := hI_ (XX_1.out.upd u2 (Nat.ne_of_lt XX.out.lt))
  have BB_2 := hI_ (u2.bel BB_1.out s1)
  have HV_2 := hI_ v2
  clear v2 u2 HV HK_1 P1_1 P2_1 P3_1 HO_1 XX_1 BB_1 XX P1 P2 P3 HO BB HK
  go_wp2_with (refine ldA rfl 31 _ rfl wr.heap.size (by rfl) _ _ HV_2.out _ underlying31 rfl ao ?_)
  refine (gp HK_2.out HGk.out (by rw [kh, List.length_take]; show (0 : Int) + _ < _; omega) HO_2.out.tr HO_2.out.hno).mono ?_
  rintro r w3 ⟨rfl, h1, k3⟩
  have HK_3 : Hid (BK w3 w.heap.size p (runM (bank0 100) ((LC l m).take (k + 1)))) := by rw [iL _ _ HY.out]; exact h1
  have P1_3 := hI_ (k3.ot P1_2.out)
  have P2_3 := hI_ (k3.ot P2_2.out)
  have P3_3 := hI_ (k3.ot P3_2.out)
  have XX_3 := hI_ (k3.va XX_2.out (by decide))
  have BB_3 : Hid (Below w.heap.size w w3) := BB_2.out.trans k3.bel
  clear h1 k3
  go_wp2_with fail
  exact ⟨⟨k + 1, by omega, by go_num, HK_3.out, P1_3.out, P2_3.out, P3_3.out, XX_3.out, BB_3.out⟩, by simp [intOf]; omega⟩
def AW : List EV := [PE, mkE 2 [10, 1], mkE 4 [10, 1000000]]
def AA : PA := ⟨10, 1, 0, 1, true, 1000000, 0, 0, []⟩
def AB1 : PM := ⟨40, [PE.pv], [], [], fun _ _ => 0, 0, [], false, 0, 0, 1⟩
def AB2 : PM := ⟨40, [PE.pv], [⟨10, 1, 0, 1, true, 0, 0, 0, []⟩], [], fun _ _ => 0, 0, [], false, 0, 0, 2⟩
def AB3 : PM := nxt AB2 (mkE 4 [10, 1000000])
theorem od : acctO AB3 10 = some AA := rfl
theorem qX : AB3.day = 40 := rfl
theorem qY : AB3.seq = 3 := rfl
theorem tI : askL AB2 0 (mkE 4 [10, 1000000]) = 0 := by
 rw [oo (a := ⟨10, 1, 0, 1, true, 0, 0, 0, []⟩) rfl rfl rfl (by decide) (by decide), jk (by decide) (by decide)]
 rfl
theorem r6 : refL AB3 (mkE 5 [10, 1000501]) true = 13 := by
 rw [qb rfl rfl (by decide), tH (a := AA) rfl rfl rfl (by decide) (by decide), nf]
 ·rfl
 ·show (1000000 : Int) + 500 - 0 < 1000501
  decide
theorem r7 : ∀ (k : Nat) e, AW[k]? = some e → Good (runM (bank0 40) (AW.take k)) e := by
 intro k e h
 have hk : k < 3 := (List.getElem?_eq_some_iff.1 h).1
 have hc : k = 0 ∨ k = 1 ∨ k = 2 := by omega
 rcases hc with rfl | rfl | rfl <;> cases h
 ·exact ga (k := 1) (d := 1) (c := 0) (lim := 500) (by decide) (by decide) (by decide) (by decide) rfl rfl rfl (by decide)
 ·exact g8 (M := AB1) (by decide) ⟨by decide, by decide⟩ rfl rfl rfl rfl (by show 0 < 256; decide) rfl
 ·exact j6 (M := AB2) rfl rfl (by decide) (tz ⟨by decide, by decide⟩ ⟨by decide, by decide⟩) (by decide) tI
def XA (u : Value) : List (EV × Value) := [(PE, u), (mkE 2 [10, 1], .slice none 0 0), (mkE 4 [10, 1000000], .slice none 0 0)]
theorem vg {u : Value} {w : World} {B : Nat} (o1 : OwnT w B u [(0, 36500000)]) {k : Nat} (hk : k < 3) : ∃ x, (XA u)[k]? = some x ∧ AW[k]? = some x.1 ∧ OwnT w B x.2 x.1.ts := by
 have hc : k = 0 ∨ k = 1 ∨ k = 2 := by omega
 rcases hc with rfl | rfl | rfl
 ·exact ⟨_, rfl, rfl, o1⟩
 ·exact ⟨_, rfl, rfl, cq _ _⟩
 ·exact ⟨_, rfl, rfl, cq _ _⟩
theorem lE3 {w : World} {ops : Array Oper} {rest : List Oper} {o : Oper} {a : Act} {Q : Exit → Act → World → Prop} (hg : o.guard = none) (o0 o1 o2 : Operand) (ho : o.op = .buildSlice 70 3 #[(0, o0), (1, o1), (2, o2)]) (e0 : EV) (v0 : Value) (e1 : EV) (v1 : Value) (e2 : EV) (v2 : Value) (h0 : a.eval o0 = .agg (e0.cells v0).toArray) (h1 : a.eval o1 = .agg (e1.cells v1).toArray) (h2 : a.eval o2 = .agg (e2.cells v2).toArray)
  (h : wpList prog ops Q rest (a.put o.dst (.slice (some ⟨w.heap.size, 0, none⟩) 3 3)) (w.alloc (.cells (ECS [(e0, v0), (e1, v1), (e2, v2)]).toArray 31))) : wpList prog ops Q (o :: rest) a w :=
 wpList_plain hg fun _ hK => bE3 o0 o1 o2 ho e0 v0 e1 v1 e2 v2 h0 h1 h2 (hK _ _ h)
set_option maxRecDepth 100000 in
theorem nG (w : World) (T : TBL w) (h6 : 6 ≤ w.heap.size) : Calls prog 9 #[] w fun r w' => r = .returned (.bool true) ∧ Below w.heap.size w w' := by
 have HTT := hI_ T
 have H6 := hI_ h6
 clear T h6
 go_enter func9, ntmps9
 have hbs1 := @rI1
 have hbs2 := @rI2
 have hbs3 := @rI3
 have hbs4 := @rI4

 go_wp2_with fail
 refine (oB w HTT.out H6.out 40 (by decide) (by decide)).mono ?_
 rintro e w0 ⟨p, rfl, h1, b0⟩
 have HK_0 : Hid (BK w0 w.heap.size p (bank0 40)) := h1
 have BB_0 := hI_ b0
 clear h1 b0
 go_wp2_with fail
 refine (dx _).mono ?_
 rintro e wb ⟨⟨u, rfl, o1⟩, b1⟩
 have HK_b : Hid (BK _ w.heap.size p _) := HK_0.out.step b1
 have BB_b := hI_ (BB_0.out.trans (b1.mono BB_0.out.size))
 have O1_b : Hid (OwnT wb w.heap.size u [(0, 36500000)]) := o1.lower BB_0.out.size
 clear  BB_0 HK_0
 clear o1 b1
 go_wp2_with fail
 refine (bV 2 [10, 1] _ _ (vI2 wb (10) (1)) (by show 2 ≤ 8; decide)).mono ?_
 rintro r wa1 ⟨rfl, ba1⟩
 have ka1 := ((Below.refl wb.heap.size wb).alloc (Nat.le_refl _) (.cells #[.int .i64 (10), .int .i64 (1)] 2)).trans (ba1.mono (by simp))
 have O1_a1 := hI_ (O1_b.out.step ka1)
 have HK_a1 : Hid (BK _ w.heap.size p _) := HK_b.out.step ka1
 have BB_a1 := hI_ (BB_b.out.trans (ka1.mono BB_b.out.size))
 clear O1_b BB_b HK_b
 clear ba1 ka1
 go_wp2_with fail
 refine (bV 4 [10, 1000000] _ _ (vI2 wa1 (10) (1000000)) (by show 2 ≤ 8; decide)).mono ?_
 rintro r wa2 ⟨rfl, ba2⟩
 have ka2 := ((Below.refl wa1.heap.size wa1).alloc (Nat.le_refl _) (.cells #[.int .i64 (10), .int .i64 (1000000)] 2)).trans (ba2.mono (by simp))
 have O1_a2 := hI_ (O1_a1.out.step ka2)
 have HK_a2 : Hid (BK _ w.heap.size p _) := HK_a1.out.step ka2
 have BB_a2 := hI_ (BB_a1.out.trans (ka2.mono BB_a1.out.size))
 clear O1_a1 BB_a1 HK_a1
 clear ba2 ka2
 have b4 := (Below.refl wa2.heap.size wa2).alloc (Nat.le_refl _) (.cells (ECS (XA u)).toArray 31)
 have xx := aa wa2 (ECS (XA u)) 31
 go_upto_region 5 with (refine lE3 rfl _ _ _ rfl PE u (mkE 2 [10, 1]) (.slice none 0 0) (mkE 4 [10, 1000000]) (.slice none 0 0) (by rfl) (by rfl) (by rfl) ?_)
 have XX_x : Hid (VA _ _ (ECS (XA u)) 31) := xx
 have O1_x := hI_ (O1_a2.out.step b4)
 have HK_x : Hid (BK _ w.heap.size p _) := HK_a2.out.step b4
 have BB_x := hI_ (BB_a2.out.trans (b4.mono BB_a2.out.size))
 clear O1_a2 BB_a2 HK_a2
 clear b4 xx
 rw [show ECS [(PE, u), (mkE 2 [10, 1], Value.slice none 0 0), (mkE 4 [10, 1000000], Value.slice none 0 0)] = ECS (XA u) from rfl]
 generalize wa2.alloc (.cells (ECS (XA u)).toArray 31) = wx at *
 generalize wa2.heap.size = qx at *
 go_loopw [30] (fun i wr => ∃ k : Nat, k ≤ 3 ∧ i = .int .i64 (k : Int) ∧ Hid (BK wr w.heap.size p (runM (bank0 40) (AW.take k))) ∧ Hid (OwnT wr w.heap.size u [(0, 36500000)]) ∧ Hid (VA wr qx (ECS (XA u)) 31) ∧ Hid (Below w.heap.size w wr)) (fun i _ => 3 - (intOf i).toNat)
 case atStart => exact ⟨0, by omega, rfl, HK_x.out, O1_x.out, XX_x.out, BB_x.out⟩
 case round =>
  obtain ⟨k, hk, rfl, HK, P1, XX, BB⟩ := hrel
  clear HK_x O1_x XX_x BB_x
  by_cases hk3 : k = 3
  ·subst hk3
   have HK_r : Hid (BK wr w.heap.size p AB3) := HK.out
   have BB_r := hI_ BB.out
   clear HK BB P1 XX
   go_wp2_with fail
   refine (bV 5 [10, 1000501] _ _ (vI2 wr (10) (1000501)) (by show 2 ≤ 8; decide)).mono ?_
   rintro r wa21 ⟨rfl, ba21⟩
   have ka21 := ((Below.refl wr.heap.size wr).alloc (Nat.le_refl _) (.cells #[.int .i64 (10), .int .i64 (1000501)] 2)).trans (ba21.mono (by simp))
   have HK_a21 : Hid (BK _ w.heap.size p _) := HK_r.out.step ka21
   have BB_a21 := hI_ (BB_r.out.trans (ka21.mono BB_r.out.size))
   clear  BB_r HK_r
   clear ba21 ka21
   go_wp2_with fail
   refine (kO (e := mkE 5 [10, 1000501]) HK_a21.out (gK (by decide) (tz ⟨by decide, by decide⟩ ⟨by decide, by decide⟩)) (fl _) fd (f := true) (by simp [dK (op := 5) (ns := [10, 1000501]) (by decide) (by decide) (by decide)]) r6 (by decide)).mono ?_
   rintro r wa22 ⟨rfl, ha22, ka22⟩
   have HK_a22 : Hid (BK _ w.heap.size p _) := ha22
   have BB_a22 : Hid (Below w.heap.size w wa22) := BB_a21.out.trans ka22.bel
   clear  BB_a21 HK_a21
   clear ha22 ka22
   have bA := (Below.refl wa22.heap.size wa22).alloc (Nat.le_refl _) (.cells #[.int .u8 0, .int .u64 0, .int .i64 0, .int .i64 0, .int .i64 0, .int .i64 0, .int .i64 0, .int .i64 0, .int .i64 0, .int .i64 0, .slice none 0 0] 31)
   have HV := hI_ (aa wa22 mkZ 31)
   have HK_z : Hid (BK _ w.heap.size p _) := HK_a22.out.step bA
   have BB_z := hI_ (BB_a22.out.trans (bA.mono BB_a22.out.size))
   have s1 := BB_a22.out.size
   clear  BB_a22 HK_a22
   clear bA
   go_upto_region 12 with (refine stA rfl 31 _ _ rfl wa22.heap.size (by rfl) mkZ (mkZ) (by rfl) 31 HV.out ao rfl (sf) ?_; intro wa23 va23 ua23)
   have HK_a23 : Hid (BK _ w.heap.size p _) := HK_z.out.upd HV.out (by decide) ua23 (by have := H6.out; omega)
   have BB_a23 := hI_ (ua23.bel BB_z.out s1)
   have V8_a23 := hI_ va23
   clear va23 ua23 HV s1 HK_z BB_z
   clear V8_a23
   go_wp2_with fail
   refine (kN HK_a23.out od).mono ?_
   rintro r wa24 ⟨rfl, ha24, ka24⟩
   have HK_a24 : Hid (BK _ w.heap.size p _) := ha24
   have BB_a24 : Hid (Below w.heap.size w wa24) := BB_a23.out.trans ka24.bel
   clear  BB_a23 HK_a23
   clear ha24 ka24
   have bA := (Below.refl wa24.heap.size wa24).alloc (Nat.le_refl _) (.cells #[.int .i64 0, .int .i64 0, .int .i64 0, .int .i64 0, .bool false, .int .i64 0, .int .i64 0, .int .i64 0] 36)
   have HV := hI_ (aa wa24 ZA 36)
   have HK_z : Hid (BK _ w.heap.size p _) := HK_a24.out.step bA
   have BB_z := hI_ (BB_a24.out.trans (bA.mono BB_a24.out.size))
   have s1 := BB_a24.out.size
   clear  BB_a24 HK_a24
   clear bA
   go_upto_region 13 with (refine stA rfl 36 _ _ rfl wa24.heap.size (by rfl) ZA (AA.told) (by rfl) 36 HV.out dq rfl (AA.told_one) ?_; intro wa25 va25 ua25)
   have HK_a25 : Hid (BK _ w.heap.size p _) := HK_z.out.upd HV.out (by decide) ua25 (by have := H6.out; omega)
   have BB_a25 := hI_ (ua25.bel BB_z.out s1)
   have V11_a25 := hI_ va25
   clear va25 ua25 HV s1 HK_z BB_z
   have cb := V11_a25.out.cell 5 (v := .int .i64 1000000) rfl
   go_wp2_with fail
   refine (tY HK_a25.out qY).mono ?_
   rintro r wq ⟨rfl, hq⟩
   obtain rfl := hq.symm
   clear hq
   go_wp2_with fail
   refine (tX HK_a25.out qX).mono ?_
   rintro r wq ⟨rfl, hq⟩
   obtain rfl := hq.symm
   clear hq
   go_wp2_with fail
   go_ret
   exact ⟨rfl, BB_a25.out⟩
  have hk' : k < 3 := by omega
  obtain ⟨x, hx, hy, ho⟩ := vg P1.out hk'
  have HX := hI_ hx
  have HY := hI_ hy
  have HO := hI_ ho
  have HGk := hI_ (r7 k x.1 hy)
  have d1 : (0 : Int) ≤ (k : Int) := by omega
  have d2 : (k : Int) < 3 := by omega
  have bA := (Below.refl wr.heap.size wr).alloc (Nat.le_refl _) (.cells #[.int .u8 0, .int .u64 0, .int .i64 0, .int .i64 0, .int .i64 0, .int .i64 0, .int .i64 0, .int .i64 0, .int .i64 0, .int .i64 0, .slice none 0 0] 31)
  have HV := hI_ (aa wr mkZ 31)
  have HK_1 := hI_ (HK.out.step bA)
  have P1_1 := hI_ (P1.out.step bA)
  have HO_1 := hI_ (HO.out.step bA)
  have XX_1 := hI_ (XX.out.step bA)
  have BB_1 := hI_ (BB.out.trans (bA.mono BB.out.size))
  have s1 := BB.out.size
  clear hx hy ho bA
  go_upto_region 7 with (first | (refine wpList_load_mid rfl 31 _ rfl qx (k * 11) (by rfl) (x.1.cells x.2) _ (fun j u hj => XX.out.cell (k * 11 + j) (iS _ k x HX.out j u hj)) underlying31 rfl ao ?_) | (refine stA rfl 31 _ _ rfl wr.heap.size (by rfl) mkZ (x.1.cells x.2) (by rfl) 31 HV.out ao rfl (x.1.one HO.out.tf) ?_; intro w2 v2 u2))
  have HK_2 := hI_ (HK_1.out.upd HV.out (by decide) u2 (by have := H6.out; omega))
  have P1_2 := hI_ (OwnT.updV P1_1.out HV.out (by decide) u2)
  have HO_2 := hI_ (OwnT.updV HO_1.out HV.out (by decide) u2)
  have XX_2 := hI_ (XX_1.out.upd u2 (Nat.ne_of_lt XX.out.lt))
  have BB_2 := hI_ (u2.bel BB_1.out s1)
  have HV_2 := hI_ v2
  clear v2 u2 HV HK_1 P1_1 HO_1 XX_1 BB_1 XX P1 HO BB HK
  go_wp2_with (refine ldA rfl 31 _ rfl wr.heap.size (by rfl) _ _ HV_2.out _ underlying31 rfl ao ?_)
  refine (rn HK_2.out HGk.out HO_2.out.tr HO_2.out.hno).mono ?_
  rintro r w3 ⟨z, rfl, oz, h1, k3⟩
  have HK_3 := hI_ h1
  have OZ_3 := hI_ oz
  have P1_3 := hI_ (k3.ot P1_2.out)
  have XX_3 := hI_ (k3.va XX_2.out (by decide))
  have BB_3 : Hid (Below w.heap.size w w3) := BB_2.out.trans k3.bel
  have bA := (Below.refl w3.heap.size w3).alloc (Nat.le_refl _) (.cells #[.int .u8 0, .int .u64 0, .int .i64 0, .int .i64 0, .int .i64 0, .int .i64 0, .int .i64 0, .int .i64 0, .int .i64 0, .int .i64 0, .slice none 0 0] 31)
  have HV := hI_ (aa w3 mkZ 31)
  have HK_4 := hI_ (HK_3.out.step bA)
  have OZ_4 := hI_ (OZ_3.out.step bA)
  have P1_4 := hI_ (P1_3.out.step bA)
  have XX_4 := hI_ (XX_3.out.step bA)
  have BB_4 := hI_ (BB_3.out.trans (bA.mono BB_3.out.size))
  have s3 := BB_3.out.size
  have x3 := XX_3.out.lt
  clear h1 k3 oz bA HK_2 P1_2 HO_2 XX_2 BB_2 HV_2 HK_3 OZ_3 P1_3 XX_3 BB_3
  go_upto_region 8 with (refine stA rfl 31 _ _ rfl w3.heap.size (by rfl) mkZ (x.1.cells z) (by rfl) 31 HV.out ao rfl (x.1.one OZ_4.out.tf) ?_; intro w5 v5 u5)
  have HK_5 := hI_ (HK_4.out.upd HV.out (by decide) u5 (by have := H6.out; omega))
  have OZ_5 := hI_ (OwnT.updV OZ_4.out HV.out (by decide) u5)
  have P1_5 := hI_ (OwnT.updV P1_4.out HV.out (by decide) u5)
  have XX_5 := hI_ (XX_4.out.upd u5 (Nat.ne_of_lt x3))
  have BB_5 := hI_ (u5.bel BB_4.out s3)
  have HV_5 := hI_ v5
  clear v5 u5 HV HK_4 OZ_4 P1_4 XX_4 BB_4
  go_wp2_with (refine th (by rfl) 31 _ rfl w3.heap.size (by rfl) _ _ HV_5.out _ underlying31 rfl ao ?_)
  refine (oA HK_5.out HGk.out (by rw [kh, List.length_take]; show (0 : Int) + _ < _; omega) OZ_5.out.tr OZ_5.out.hno).mono ?_
  rintro r w6 ⟨rfl, h1, k6⟩
  have HK_6 : Hid (BK w6 w.heap.size p (runM (bank0 40) (AW.take (k + 1)))) := by rw [iL _ _ HY.out]; exact h1
  have P1_6 := hI_ (k6.ot P1_5.out)
  have XX_6 := hI_ (k6.va XX_5.out (by decide))
  have BB_6 : Hid (Below w.heap.size w w6) := BB_5.out.trans k6.bel
  clear h1 k6
  go_wp2_with fail
  exact ⟨⟨k + 1, by omega, by go_num, HK_6.out, P1_6.out, XX_6.out, BB_6.out⟩, by simp [intOf]; omega⟩
end Go.Proofs.YtjkiplndbcmmbaaGreatDoor
namespace Go.Proofs.YtjkiplndbcmmbaaGreatDoor
open Go.RowKit Go.Maps
def pa1 (b g : Int) (hs : List (Int × Int)) : PA := ⟨1, 1, 0, 1, true, b, g, 0, hs⟩
theorem uU {M : PM} {l m b g s : Int} {hs : List (Int × Int)} {a2 a3 : PA} (h : S3 M l m (pa1 b g hs) a2 a3 s) (h0 : s < 1000) (n : Int) {c : Int} (hc : b + n = c) : S3 (nxt M (mkE 4 [1, n])) l m (pa1 c g hs) a2 a3 (s + 1) := by
 subst hc
 exact h.next rfl (by show 4 ≠ 1; decide) h0 (by show onA M.al 1 (addB n) = _; rw [h.chg1]; rfl) rfl h.i2 h.i3
theorem vQ {M : PM} {l m b g s : Int} {hs : List (Int × Int)} {a2 a3 : PA} (h : S3 M l m (pa1 b g hs) a2 a3 s) {n : Int} (h1 : 1 ≤ n) (h2 : n ≤ 10000000000000) (h3 : -10000000000000 ≤ b + n) (h4 : b + n ≤ 10000000000000) : Good M (mkE 4 [1, n]) :=
 j6 h.keys h.uw (by decide) (tz pf ⟨by omega, by omega⟩) (by show 2 ≤ ct.getD 4 0; decide) (by rw [oo h.a1 rfl rfl h1 h2, jk h3 h4]; rfl)
theorem sN {a : PA} {n : Int} (h0 : -10000000000000 ≤ a.bal + n) (h : a.bal + n ≤ 10000000000000) : roomO (some a) n = false := jk h0 h
theorem io {n g : Int} (h1 : 1 ≤ n) (h2 : n ≤ g) : beyond n g = false := beyond_0.2 ⟨h1, h2⟩
theorem wl (l e : Int) : whn l false e = l := rfl
end Go.Proofs.YtjkiplndbcmmbaaGreatDoor
namespace Go.Proofs.YtjkiplndbcmmbaaGreatDoor
open Tryz
open Go.RowKit Go.Maps
def gotM (M : PM) (e : EV) : Int := match acctO M e.n0, acctO M e.n1 with
 | some a, some b => (cvA M a.cur b.cur e.n2).1
 | _, _ => 0
def EX (M : PM) (e : EV) : EV := { e with n3 := gotM M e }
theorem uk {M : PM} {e : EV} {f : Bool} (h12 : e.op = 12) (h : refL M e f = 0) : e.n3 = 0 ∧ e.n0 ≠ e.n1 ∧ (1 ≤ e.n2 ∧ e.n2 ≤ 10000000000000) ∧ ∃ a b, acctO M e.n0 = some a ∧ acctO M e.n1 = some b ∧ a.opn = true ∧ a.kind = 1 ∧ b.opn = true ∧ b.kind = 1 ∧ e.n2 ≤ spend M a ∧ (cvA M a.cur b.cur e.n2).2.2 = 0 ∧ roomO (some b) (cvA M a.cur b.cur e.n2).1 = false := by
 have h0 := pZ h
 have hx := h0.2.2.2.2.2
 unfold askL at hx
 simp only [h12, reduceIte, Nat.reduceEqDiff] at hx
 have h3 : e.n3 = 0 := Classical.not_not.1 fun k => h0.2.1 ⟨h12, k⟩
 unfold exchL at hx
 have key : ∀ {l : Int}, namedK M (namedK M (whn (whn 0 (beyond e.n2 10000000000000) 1) (e.n0 == e.n1) 1) e.n0 1) e.n1 1 = 0 → e.n0 ≠ e.n1 ∧ (1 ≤ e.n2 ∧ e.n2 ≤ 10000000000000) ∧ ∃ a b, acctO M e.n0 = some a ∧ acctO M e.n1 = some b ∧ a.opn = true ∧ a.kind = 1 ∧ b.opn = true ∧ b.kind = 1 := fun hn => by
  obtain ⟨k1, b, hb, hb1, hb2⟩ := namedK_0.1 hn
  obtain ⟨k2, a, ha, ha1, ha2⟩ := namedK_0.1 k1
  rw [aF (by decide), aF (by decide)] at k2
  refine ⟨by simpa using k2.2, beyond_0.1 k2.1.2, a, b, ha, hb, ha1, ?_, hb1, ?_⟩
  ·rcases ha2 with h | h
   ·cases h
   ·exact h
  ·rcases hb2 with h | h
   ·cases h
   ·exact h
 cases ha : acctO M e.n0 with
 | none =>
  rw [ha] at hx
  have hx := ((aF (by decide)).1 hx).1
  obtain ⟨_, _, a, b, h1, _⟩ := key (l := 0) hx
  rw [ha] at h1
  cases h1
 | some a =>
  rw [ha] at hx
  cases hb : acctO M e.n1 with
  | none =>
   rw [hb] at hx
   have hx := ((aF (by decide)).1 hx).1
   obtain ⟨_, _, a, b, _, h1, _⟩ := key (l := 0) hx
   rw [hb] at h1
   cases h1
  | some b =>
   rw [hb] at hx
   obtain ⟨hx, hr⟩ := (aF (by decide)).1 hx
   obtain ⟨hx, hc⟩ := wth_0.1 hx
   obtain ⟨hx, hf⟩ := (aF (by decide)).1 hx
   obtain ⟨k1, k2, a', b', h1, h2, h3', h4, h5, h6⟩ := key (l := 0) hx
   rw [ha] at h1
   rw [hb] at h2
   cases h1
   cases h2
   refine ⟨h3, k1, k2, a, b, rfl, rfl, h3', h4, h5, h6, ?_, hc, hr⟩
   unfold fundsO at hf
   rw [decide_eq_false_iff_not] at hf
   omega
set_option maxRecDepth 100000 in
theorem sB (w : World) (B : Nat) (F : FB) (M : PM) (hM : MD w B F M) (e : EV) (he : e.ok) (tv : Value) (R : Tr w tv e.ts) (hno : ∀ n c, tv = .slice none n c → c = 0) (T : TBL w) (f : Bool) (hform : f = true ↔ e.e8.form) (hyes : refL M e f = 0) (h12 : e.op = 12) (hlen : e.ts.length ≤ 8796093022208) :
  Calls prog 19 #[.pointer (some ⟨F.pm, 0, none⟩), .agg (e.cells tv).toArray] w fun r w' => (∃ u, r = .returned (.tuple #[.agg ((EX M e).cells u).toArray, .int .i64 (gotM M e), .int .i64 0]) ∧ OwnT w' w.heap.size u e.ts) ∧ Below w.heap.size w w' := by
 have e12 : ((e.op : Int) == 12) = true := by rw [h12]; rfl
 have HLEN : Hid (e.ts.length ≤ 8796093022208) := hlen
 have H12 := hI_ h12
 obtain ⟨h3, hne, hn2, a, b, ha, hb, _, _, _, _, _, hc, hr⟩ := uk h12 hyes
 obtain ⟨i, xa, hia, hida, _⟩ := hM.acct ha
 obtain ⟨j, xb, hib, hidb, _⟩ := hM.acct hb
 have HIA := hI_ hia
 have HIB := hI_ hib
 have HIDA := hI_ hida
 have HIDB := hI_ hidb
 obtain ⟨g, hg⟩ : ∃ g, g = gotM M e := ⟨_, rfl⟩
 have hcv : (cvA M a.cur b.cur e.n2).1 = g := by rw [hg]; unfold gotM; rw [ha, hb]
 have HCV := hI_ hcv
 have HCU : Hid ((0 ≤ a.cur ∧ a.cur ≤ 3) ∧ (0 ≤ b.cur ∧ b.cur ≤ 3)) := ⟨(hM.awf hia).cur, (hM.awf hib).cur⟩
 unfold EX
 rw [← hg]
 have HMw := hI_ hM
 have HTw := hI_ T
 clear h12 hlen h3 hne hn2 ha hb hc hr hia hib hida hidb hg hcv
 have b0 := (Below.refl w.heap.size w).alloc (Nat.le_refl _) (.cells (e.cells tv).toArray 31)
 have b1 := b0.alloc (by simp) (.cells #[.int .u8 0, .int .u64 0, .int .i64 0, .int .i64 0, .int .i64 0, .int .i64 0, .int .i64 0, .int .i64 0, .int .i64 0, .int .i64 0, .slice none 0 0] 31)
 have V0 := (aa w (e.cells tv) 31).alloc (.cells #[.int .u8 0, .int .u64 0, .int .i64 0, .int .i64 0, .int .i64 0, .int .i64 0, .int .i64 0, .int .i64 0, .int .i64 0, .int .i64 0, .slice none 0 0] 31)
 have hv1 := aa (w.alloc (.cells (e.cells tv).toArray 31)) ([.int .u8 0, .int .u64 0, .int .i64 0, .int .i64 0, .int .i64 0, .int .i64 0, .int .i64 0, .int .i64 0, .int .i64 0, .int .i64 0, .slice none 0 0] : List Value) 31
 rw [World.size_alloc] at hv1
 have BB_0 := hI_ b1
 have HM_0 : Hid (MD _ B F M) := hM.step b1
 have HE_0 := hI_ V0
 have HV_0 := hI_ hv1
 have HTR_0 : Hid (Tr _ tv e.ts) := R.step b1
 have HT_0 : Hid (TBL _) := T.step b1
 have HQ : Hid (e.ok ∧ (∀ n c, tv = .slice none n c → c = 0) ∧ (f = true ↔ e.e8.form)) := ⟨he, hno, hform⟩
 clear b0 b1 V0 hv1 hM R T he hno hform
 go_enter func19, ntmps19
 go_upto_region 1 with fail
 generalize hW : (w.alloc (.cells (e.cells tv).toArray 31)).alloc (.cells #[.int .u8 0, .int .u64 0, .int .i64 0, .int .i64 0, .int .i64 0, .int .i64 0, .int .i64 0, .int .i64 0, .int .i64 0, .int .i64 0, .slice none 0 0] 31) = w0 at *
 clear hW
 have y0 := HE_0.out.cell 0 (v := .int .u8 (e.op : Int)) rfl
 have y1 := HE_0.out.cell 1 (v := .int .u64 (e.key : Int)) rfl
 have y2 := HE_0.out.cell 2 (v := .int .i64 e.n0) rfl
 have y3 := HE_0.out.cell 3 (v := .int .i64 e.n1) rfl
 have y4 := HE_0.out.cell 4 (v := .int .i64 e.n2) rfl
 have y5 := HE_0.out.cell 5 (v := .int .i64 e.n3) rfl
 have y6 := HE_0.out.cell 6 (v := .int .i64 e.n4) rfl
 have y7 := HE_0.out.cell 7 (v := .int .i64 e.n5) rfl
 have y8 := HE_0.out.cell 8 (v := .int .i64 e.n6) rfl
 have y9 := HE_0.out.cell 9 (v := .int .i64 e.n7) rfl
 have y10 := HE_0.out.cell 10 (v := tv) rfl
 go_wp2_with fail
 refine (eI w0 B F M HM_0.out e HQ.out.1 tv HTR_0.out HQ.out.2.1 HT_0.out f HQ.out.2.2).mono ?_
 rintro r w1 ⟨rfl, b1⟩
 have HM_1 : Hid (MD w1 B F M) := HM_0.out.step b1
 have HE_1 : Hid (VA w1 w.heap.size (e.cells tv) 31) := HE_0.out.step b1
 have HV_1 : Hid (VA w1 (w.heap.size + 1) ([.int .u8 0, .int .u64 0, .int .i64 0, .int .i64 0, .int .i64 0, .int .i64 0, .int .i64 0, .int .i64 0, .int .i64 0, .int .i64 0, .slice none 0 0] : List Value) 31) := HV_0.out.step b1
 have HTR_1 : Hid (Tr w1 tv e.ts) := HTR_0.out.step b1
 have HT_1 : Hid (TBL w1) := HT_0.out.step b1
 have BB_1 := hI_ (BB_0.out.trans (b1.mono BB_0.out.size))
 clear b1 HM_0 HE_0 HV_0 HTR_0 HT_0 BB_0
 clear y0 y1 y2 y3 y4 y5 y6 y7 y8 y9 y10
 rw [hyes]
 have c10 := HE_1.out.cell 10 (v := tv) rfl
 go_wp2_with fail
 refine (gr tv e.ts w1 HTR_1.out HQ.out.2.1 HLEN.out).mono ?_
 rintro r w2 ⟨⟨u, rfl, ou⟩, b2⟩
 obtain ⟨ua, un, uc, rfl⟩ := ou.form
 have OU_2 : Hid (OwnT w2 w.heap.size (.slice ua un uc) e.ts) := ou.lower BB_1.out.size
 clear ou c10
 have HM_2 : Hid (MD w2 B F M) := HM_1.out.step b2
 have HE_2 : Hid (VA w2 w.heap.size (e.cells tv) 31) := HE_1.out.step b2
 have HV_2 : Hid (VA w2 (w.heap.size + 1) ([.int .u8 0, .int .u64 0, .int .i64 0, .int .i64 0, .int .i64 0, .int .i64 0, .int .i64 0, .int .i64 0, .int .i64 0, .int .i64 0, .slice none 0 0] : List Value) 31) := HV_1.out.step b2
 have HTR_2 : Hid (Tr w2 tv e.ts) := HTR_1.out.step b2
 have HT_2 : Hid (TBL w2) := HT_1.out.step b2
 have BB_2 := hI_ (BB_1.out.trans (b2.mono BB_1.out.size))
 clear b2 HM_1 HE_1 HV_1 HTR_1 HT_1 BB_1
 have hUF : Hid (∃ a n c, Value.slice ua un uc = Value.slice a n c) := ⟨_, _, _, rfl⟩
 have f10 := HE_2.out.free 10
 have hbk := HE_2.out.blk
 have c10b := HE_2.out.cell 10 (v := tv) rfl
 have hset : VA (w2.setCell ⟨w.heap.size, 10, none⟩ (.slice ua un uc)) w.heap.size (e.cells (.slice ua un uc)) 31 := HE_2.out.set 10 (.slice ua un uc)
 have huq := av w2 w.heap.size 10 (.slice ua un uc)
 have HE_3 := hI_ hset
 have HV_3 : Hid (VA (w2.setCell ⟨w.heap.size, 10, none⟩ (.slice ua un uc)) (w.heap.size + 1) ([.int .u8 0, .int .u64 0, .int .i64 0, .int .i64 0, .int .i64 0, .int .i64 0, .int .i64 0, .int .i64 0, .int .i64 0, .int .i64 0, .slice none 0 0] : List Value) 31) := HV_2.out.upd huq (by omega)
 have BB_3 := hI_ (huq.bel BB_2.out (Nat.le_refl _))
 have OU_3 : Hid (OwnT (w2.setCell ⟨w.heap.size, 10, none⟩ (.slice ua un uc)) w.heap.size (.slice ua un uc) e.ts) := OwnT.updV OU_2.out HE_2.out (by decide) huq
 have HM_3 : Hid (MD (w2.setCell ⟨w.heap.size, 10, none⟩ (.slice ua un uc)) B F M) := HMw.out.step BB_3.out
 have HT_3 : Hid (TBL (w2.setCell ⟨w.heap.size, 10, none⟩ (.slice ua un uc))) := HTw.out.step BB_3.out
 have z0 := HE_3.out.cell 0 (v := .int .u8 (e.op : Int)) rfl
 clear hset huq
 go_upto_region 6 with fail
 generalize hW3 : w2.setCell ⟨w.heap.size, 10, none⟩ (.slice ua un uc) = w3 at *
 clear hW3 f10 hbk c10b z0 HM_2 HE_2 HV_2 HTR_2 HT_2 BB_2 OU_2
 refine wp_region_noPanic ?_
 refine wp_region_held_drew (S := fun V => V.cell? ⟨w.heap.size, 2, none⟩ = some (.int .i64 e.n0) ∧ V.cell? ⟨w.heap.size, 3, none⟩ = some (.int .i64 e.n1) ∧ V.cell? ⟨w.heap.size, 4, none⟩ = some (.int .i64 e.n2)) (by kernel_rfl) (⟨(VA.drew HE_3.out).cell 2 (v := .int .i64 e.n0) rfl, (VA.drew HE_3.out).cell 3 (v := .int .i64 e.n1) rfl, (VA.drew HE_3.out).cell 4 (v := .int .i64 e.n2) rfl⟩) ?_
 intro hh_
 have bz := (Below.refl w3.heap.size w3).drew
 have HE_z := hI_ (HE_3.out.step bz)
 have HV_z := hI_ (HV_3.out.step bz)
 have OU_z := hI_ (OU_3.out.step bz)
 have HM_z := hI_ (HM_3.out.step bz)
 have HT_z := hI_ (HT_3.out.step bz)
 have BB_z := hI_ (BB_3.out.trans (bz.mono BB_3.out.size))
 generalize w3.drew = wz at *
 clear bz
 refine tK 0 23 (.pointer (some ⟨F.pm, 0, none⟩)) (by exact rfl) (Or.inl ⟨by rfl, ?_⟩) ?_
 ·intro wq hS
  go_simp
 try simp only [nrm]
 refine tK 1 24 (.pointer (some ⟨F.pm, 0, none⟩)) (by exact rfl) (Or.inl ⟨by rfl, ?_⟩) ?_
 ·intro wq hS
  go_simp
 try simp only [nrm]
 refine tK 2 25 (.pointer (some ⟨w.heap.size, 2, none⟩)) (by exact rfl) (Or.inl ⟨by rfl, ?_⟩) ?_
 ·intro wq hS
  go_simp
 try simp only [nrm]
 refine tK 3 26 (.pointer (some ⟨w.heap.size, 2, none⟩)) (by exact rfl) (Or.inl ⟨by rfl, ?_⟩) ?_
 ·intro wq hS
  go_simp
 try simp only [nrm]
 refine tK 4 27 (.int .i64 e.n0) (by exact rfl) (Or.inl ⟨by rfl, ?_⟩) ?_
 ·intro wq hS
  have c := hS.1
  go_simp
 try simp only [nrm]
 refine tK 6 29 (.pointer (some ⟨F.pm, 0, none⟩)) (by exact rfl) (Or.inl ⟨by rfl, ?_⟩) ?_
 ·intro wq hS
  go_simp
 try simp only [nrm]
 refine tK 7 30 (.pointer (some ⟨w.heap.size, 2, none⟩)) (by exact rfl) (Or.inl ⟨by rfl, ?_⟩) ?_
 ·intro wq hS
  go_simp
 try simp only [nrm]
 refine tK 8 31 (.pointer (some ⟨w.heap.size, 3, none⟩)) (by exact rfl) (Or.inl ⟨by rfl, ?_⟩) ?_
 ·intro wq hS
  go_simp
 try simp only [nrm]
 refine tK 9 32 (.int .i64 e.n1) (by exact rfl) (Or.inl ⟨by rfl, ?_⟩) ?_
 ·intro wq hS
  have c := hS.2.1
  go_simp
 try simp only [nrm]
 refine tK 11 34 (.pointer (some ⟨w.heap.size, 2, none⟩)) (by exact rfl) (Or.inl ⟨by rfl, ?_⟩) ?_
 ·intro wq hS
  go_simp
 try simp only [nrm]
 refine tK 12 35 (.pointer (some ⟨w.heap.size, 4, none⟩)) (by exact rfl) (Or.inl ⟨by rfl, ?_⟩) ?_
 ·intro wq hS
  go_simp
 try simp only [nrm]
 refine tK 13 36 (.int .i64 e.n2) (by exact rfl) (Or.inl ⟨by rfl, ?_⟩) ?_
 ·intro wq hS
  have c := hS.2.2
  go_simp
 try simp only [nrm]
 refine tK 19 41 (.pointer (some ⟨w.heap.size, 2, none⟩)) (by exact rfl) (Or.inl ⟨by rfl, ?_⟩) ?_
 ·intro wq hS
  go_simp
 try simp only [nrm]
 clear hh_
 refine rdy 5 (fun K hK => ?_)
 go_simp
 refine Calls.mono (bE wz B F M HM_z.out HIA.out HIDA.out) ?_
 rintro e wq ⟨rfl, hwq⟩
 obtain rfl := hwq.symm
 clear hwq
 go_wp2_with fail
 refine hK.out _ _ (⟨HE_z.out.cell 2 (v := .int .i64 e.n0) rfl, HE_z.out.cell 3 (v := .int .i64 e.n1) rfl, HE_z.out.cell 4 (v := .int .i64 e.n2) rfl⟩) (fun hh_ => ?_)
 try simp only [nrm]
 clear hK K
 clear hh_
 refine rdy 10 (fun K hK => ?_)
 go_simp
 refine Calls.mono (bE wz B F M HM_z.out HIB.out HIDB.out) ?_
 rintro e wq ⟨rfl, hwq⟩
 obtain rfl := hwq.symm
 clear hwq
 go_wp2_with fail
 refine hK.out _ _ (⟨HE_z.out.cell 2 (v := .int .i64 e.n0) rfl, HE_z.out.cell 3 (v := .int .i64 e.n1) rfl, HE_z.out.cell 4 (v := .int .i64 e.n2) rfl⟩) (fun hh_ => ?_)
 try simp only [nrm]
 clear hK K
 clear hh_
 refine rdy 14 (fun K hK => ?_)
 go_simp
 refine Calls.mono (gu wz B F M HM_z.out HT_z.out.cu a b _ _ _ _ e.n2 (HM_z.out.aw HIA.out) (HM_z.out.aw HIB.out) HCU.out.1 HCU.out.2) ?_
 rintro e wc ⟨rfl, bc⟩
 have HE_c := hI_ (HE_z.out.step bc)
 have HV_c := hI_ (HV_z.out.step bc)
 have OU_c := hI_ (OU_z.out.step bc)
 have HM_c := hI_ (HM_z.out.step bc)
 have HT_c := hI_ (HT_z.out.step bc)
 have BB_c := hI_ (BB_z.out.trans (bc.mono BB_z.out.size))
 rw [HCV.out]
 clear bc
 go_wp2_with fail
 refine hK.out _ _ (⟨HE_c.out.cell 2 (v := .int .i64 e.n0) rfl, HE_c.out.cell 3 (v := .int .i64 e.n1) rfl, HE_c.out.cell 4 (v := .int .i64 e.n2) rfl⟩) (fun hh_ => ?_)
 try simp only [nrm]
 clear hK K
 refine tK 15 22 (.tuple #[.int .i64 g, .agg (cvA M a.cur b.cur e.n2).2.1.toArray, .int .i64 (cvA M a.cur b.cur e.n2).2.2]) (by exact rfl) (Or.inl ⟨by rfl, ?_⟩) ?_
 ·intro wq hS
  go_simp
 try simp only [nrm]
 refine tK 16 38 (.int .i64 g) (by exact rfl) (Or.inl ⟨by rfl, ?_⟩) ?_
 ·intro wq hS
  go_simp
 try simp only [nrm]
 refine tK 17 39 (.agg (cvA M a.cur b.cur e.n2).2.1.toArray) (by exact rfl) (Or.inl ⟨by rfl, ?_⟩) ?_
 ·intro wq hS
  go_simp
 try simp only [nrm]
 refine tK 18 40 (.int .i64 (cvA M a.cur b.cur e.n2).2.2) (by exact rfl) (Or.inl ⟨by rfl, ?_⟩) ?_
 ·intro wq hS
  go_simp
 try simp only [nrm]
 refine tK 20 42 (.pointer (some ⟨w.heap.size, 5, none⟩)) (by exact rfl) (Or.inl ⟨by rfl, ?_⟩) ?_
 ·intro wq hS
  go_simp
 try simp only [nrm]
 have c5 := HE_c.out.cell 5 (v := .int .i64 e.n3) rfl
 have f5 := HE_c.out.free 5
 have hbk := HE_c.out.blk
 have huq := av wc w.heap.size 5 (.int .i64 g)
 have HE_d : Hid (VA (wc.setCell ⟨w.heap.size, 5, none⟩ (.int .i64 g)) w.heap.size (({ e with n3 := g } : EV).cells (.slice ua un uc)) 31) := HE_c.out.set 5 (.int .i64 g)
 have HV_d : Hid (VA _ (w.heap.size + 1) ([.int .u8 0, .int .u64 0, .int .i64 0, .int .i64 0, .int .i64 0, .int .i64 0, .int .i64 0, .int .i64 0, .int .i64 0, .int .i64 0, .slice none 0 0] : List Value) 31) := HV_c.out.upd huq (by omega)
 have OU_d : Hid (OwnT _ w.heap.size (.slice ua un uc) e.ts) := OwnT.updV OU_c.out HE_c.out (by decide) huq
 have BB_d := hI_ (huq.bel BB_c.out (Nat.le_refl _))
 clear hh_ huq
 refine rdy 21 (fun K hK => ?_)
 go_simp
 refine hK.out _ _ ⟨HE_d.out.cell 2 (v := .int .i64 e.n0) rfl, HE_d.out.cell 3 (v := .int .i64 e.n1) rfl, HE_d.out.cell 4 (v := .int .i64 e.n2) rfl⟩ (fun hh_ => ?_)
 try simp only [nrm]
 clear hK K
 refine wpAnyH_done (by kernel_rfl) ?_ _
 refine NoPanic.normal ?_
 clear hh_ c5 f5 hbk HE_c HV_c OU_c BB_c HM_c HT_c
 generalize wc.setCell ⟨w.heap.size, 5, none⟩ (.int .i64 g) = wd at *
 go_upto_region 7 with fail
 refine wp_region_noPanic ?_
 refine wp_region_held_drew (S := fun V => VA V w.heap.size (({ e with n3 := g } : EV).cells (.slice ua un uc)) 31) (by kernel_rfl) (VA.drew HE_d.out) ?_
 intro hh_
 have bq := (Below.refl wd.heap.size wd).drew
 have HE_q := hI_ (HE_d.out.step bq)
 have HV_q := hI_ (HV_d.out.step bq)
 have OU_q := hI_ (OU_d.out.step bq)
 have BB_q := hI_ (BB_d.out.trans (bq.mono BB_d.out.size))
 generalize wd.drew = wq at *
 clear bq
 refine tK 0 43 (.agg (({ e with n3 := g } : EV).cells (.slice ua un uc)).toArray) (by exact rfl) (yieldsIf_load_mid (by rfl) _ _ rfl _ _ rfl _ _ (fun wq hS => (fun j v hj => by rw [Nat.zero_add]; exact VA.cell hS j hj)) underlying31 rfl ao) ?_
 try simp only [nrm]
 refine tK 1 44 (.agg (({ e with n3 := g } : EV).cells (.slice ua un uc)).toArray) (by exact rfl) (yieldsIf_load_mid (by rfl) _ _ rfl _ _ rfl _ _ (fun wq hS => (fun j v hj => by rw [Nat.zero_add]; exact VA.cell hS j hj)) underlying31 rfl ao) ?_
 try simp only [nrm]
 clear hh_
 refine rdy 2 (fun K hK => ?_)
 go_simp
 refine Calls.mono (jX ({ e with n3 := g } : EV) (.slice ua un uc) wq) ?_
 rintro e wm ⟨rfl, bm⟩
 have HE_m := hI_ (HE_q.out.step bm)
 have HV_m := hI_ (HV_q.out.step bm)
 have OU_m := hI_ (OU_q.out.step bm)
 have BB_m := hI_ (BB_q.out.trans (bm.mono BB_q.out.size))
 clear bm
 go_wp2_with fail
 refine hK.out _ _ (HE_m.out) (fun hh_ => ?_)
 try simp only [nrm]
 clear hK K
 refine rdy 3 (fun K hK => ?_)
 refine dM (by rfl) rfl 31 _ _ rfl (w.heap.size + 1) (by rfl) ([.int .u8 0, .int .u64 0, .int .i64 0, .int .i64 0, .int .i64 0, .int .i64 0, .int .i64 0, .int .i64 0, .int .i64 0, .int .i64 0, .slice none 0 0] : List Value) (({ e with n3 := g } : EV).cells (.slice ua un uc)) (by rfl) 31 HV_m.out ao rfl (EV.one _ hUF.out) ?_
 intro wf vf uf
 have BB_f := hI_ (uf.bel BB_m.out (by omega))
 have OU_f : Hid (OwnT wf w.heap.size (.slice ua un uc) e.ts) := OwnT.updV OU_m.out HV_m.out (by decide) uf
 refine hK.out _ _ (HE_m.out.upd uf (by omega)) (fun hh_2 => ?_)
 clear hK K hh_
 try simp only [nrm]
 refine tK 4 5 (.int .i64 ({ e with n3 := g } : EV).mv) (by exact rfl) (Or.inl ⟨by rfl, ?_⟩) ?_
 ·intro wq hS
  go_simp
 try simp only [nrm]
 refine tK 5 6 (.int .i64 0) (by exact rfl) (Or.inl ⟨by rfl, ?_⟩) ?_
 ·intro wq hS
  go_simp
 try simp only [nrm]
 refine wpAnyH_done (by kernel_rfl) ?_ _
 refine NoPanic.normal ?_
 clear hh_2
 go_wp2_with fail
 have hld := run_loadVar_row (P := prog) wf (w.heap.size + 1) 31 31 _ (0, 0) _ vf.blk underlying31 rfl ao
 have hmv : ({ e with n3 := g } : EV).mv = g := by unfold EV.mv; simp [H12.out]
 rw [hmv]
 exact bodyPost_ret (v := .tuple #[.agg (({ e with n3 := g } : EV).cells (.slice ua un uc)).toArray, .int .i64 g, .int .i64 0]) (by simp [results, results19, asAddr, Act.put, hld]) rfl ⟨⟨(.slice ua un uc), rfl, OU_f.out⟩, BB_f.out⟩
structure Good12 (M : PM) (e : EV) : Prop where
 ok : e.ok
 op : e.op = 12
 form : e.e8.form
 yes : refL M e true = 0
 len : e.ts.length ≤ 8
theorem mO {w : World} {B p : Nat} {M : PM} {e : EV} (h : BK w B p M) (g : Good12 M e) {tv : Value} (R : Tr w tv e.ts) (hno : ∀ n c, tv = .slice none n c → c = 0) :
  Calls prog 19 #[.pointer (some ⟨p, 0, none⟩), .agg (e.cells tv).toArray] w fun r w' => ∃ u, r = .returned (.tuple #[.agg ((EX M e).cells u).toArray, .int .i64 (gotM M e), .int .i64 0]) ∧ OwnT w' w.heap.size u e.ts ∧ BK w' B p M ∧ KT B w w' := by
 obtain ⟨F, hM, rfl⟩ := h.md
 refine (sB w B F M hM e g.ok tv R hno h.tb true (by simp [g.form]) g.yes g.op (by have := g.len; omega)).mono ?_
 rintro r w' ⟨⟨u, rfl, o⟩, b⟩
 exact ⟨u, rfl, o, h.step b, KT.of b h.low⟩
theorem wN (a r : Nat) : gt 1 (wor 0 a r) = a * r / 1000000000 := by
 unfold gt wor
 rw [show cdg 0 = 2 from rfl, show cdg 1 = 2 from rfl, show (10 : Nat) ^ (3 - 2) = 10 from rfl, show (10 : Nat) ^ (12 - 2) = 1000000000 * 10 from rfl, Nat.mul_div_mul_right _ _ (by decide)]
structure SR (M : PM) (A l s : Int) : Prop where
 s3 : S3 M 0 0 (pa1 A 0 []) (AO 2 0 2) (AO 3 1 1) s
 r1 : l = 0 ∧ rateO M 0 1 = none ∨ (1 ≤ l ∧ l ≤ 4294967296) ∧ rateO M 0 1 = some l
 r2 : rateO M 1 0 = none
theorem wO {M : PM} {A s : Int} (h : S3 M 0 0 (pa1 A 0 []) (AO 2 0 2) (AO 3 1 1) s) (hr : M.rates = []) : SR M A 0 s := by
 refine ⟨h, Or.inl ⟨rfl, ?_⟩, ?_⟩ <;> unfold rateO <;> rw [hr] <;> rfl
theorem sT {M : PM} {A l s v : Int} (h : SR M A l s) (h1 : 1 ≤ v ∧ v ≤ 4294967296) (hs : s < 1000) : SR (nxt M (mkE 11 [0, 1, v])) A v (s + 1) := by
 have e : (nxt M (mkE 11 [0, 1, v])).rates = ((0, 1), v) :: M.rates := rfl
 refine ⟨h.s3.next rfl (by show 11 ≠ 1; decide) hs (b1 := pa1 A 0 []) (b2 := AO 2 0 2) (b3 := AO 3 1 1) (by show M.al = _; exact h.s3.al) rfl rfl rfl, Or.inr ⟨h1, ?_⟩, ?_⟩
 ·unfold rateO
  rw [e, cL, if_pos rfl]
 ·have h2 := h.r2
  unfold rateO at h2 ⊢
  rw [e, cL, if_neg (show ¬ ((0 : Int), (1 : Int)) = (1, 0) by decide)]
  exact h2
theorem uo {M : PM} {A l s v : Int} (h : SR M A l s) (h1 : 1 ≤ v ∧ v ≤ 4294967296) : Good M (mkE 11 [0, 1, v]) :=
 j6 h.s3.keys h.s3.uw (by decide) (tA ⟨by decide, by decide⟩ ⟨by decide, by decide⟩ ⟨by omega, by omega⟩) (by show 3 ≤ ct.getD 11 0; decide) (by
  show rateL 0 0 1 v = 0
  unfold rateL
  rw [io (by omega) (by omega)]
  rfl)
theorem qa {M : PM} {ns : List Int} (h1 : M.keys = []) (h2 : M.uw = false) (h3 : ns.getD 3 0 = 0) : refL M (mkE 12 ns) true = askL M 0 (mkE 12 ns) :=
 jh rfl (fun h => h.2 h3) rfl (by unfold usedK; rw [h1]; rfl) h2
theorem om {M : PM} {A l s : Int} (h : SR M A l s) (hA : 1 ≤ A ∧ A ≤ 1000000) (g e : Int) (ds : List Value) (hc : cvA M 0 1 A = (g, ds, e)) (hg : 0 ≤ g ∧ g ≤ 100000000) : askL M 0 (mkE 12 [1, 3, A]) = wth 0 e := by
 show exchL M 0 1 3 A = _
 have ha : acctO M 1 = some (pa1 A 0 []) := h.s3.a1
 have hb : acctO M 3 = some (AO 3 1 1) := h.s3.a3
 unfold exchL
 rw [ha, hb]
 show whn (wth (whn (namedK M (namedK M (whn (whn 0 (beyond A 10000000000000) 1) ((1 : Int) == 3) 1) 1 1) 3 1) (fundsO M (some (pa1 A 0 [])) A) 13) (cvA M 0 1 A).2.2) (roomO (some (AO 3 1 1)) (cvA M 0 1 A).1) 4 = _
 rw [hc, io (by omega) (by omega), wl, show ((1 : Int) == 3) = false from rfl, wl, dt (k := 1) ha rfl rfl, dt (k := 1) hb rfl rfl, pe (by rw [h.s3.sp1 rfl]; show A ≤ A + 0 - 0; omega), wl, sN (by show (_ : Int) ≤ 0 + g; omega) (by show (0 : Int) + g ≤ _; omega), wl]
theorem wj {M : PM} {A s : Int} (h : SR M A 0 s) (hA : 1 ≤ A ∧ A ≤ 1000000) : refL M (mkE 12 [1, 3, A]) true = 7 := by
 have hc : cvA M 0 1 A = (0, zdl, 7) := by
  unfold cvA
  rcases h.r1 with ⟨_, e⟩ | ⟨e, _⟩
  ·rw [e]
  ·omega
 rw [qa h.s3.keys h.s3.uw rfl, om h hA 0 7 zdl hc (by decide)]
 rfl
theorem rL {M : PM} {A l s : Int} (h : SR M A l s) (hA : 1 ≤ A ∧ A ≤ 1000000) (hl : l ≠ 0) : Good12 M (mkE 12 [1, 3, A]) ∧ gotM M (mkE 12 [1, 3, A]) = ((A.toNat * l.toNat / 1000000000 : Nat) : Int) ∧ A.toNat * l.toNat ≤ 4294967296000000 := by
 obtain ⟨hb, hr⟩ : (1 ≤ l ∧ l ≤ 4294967296) ∧ rateO M 0 1 = some l := by
  rcases h.r1 with ⟨e, _⟩ | e
  ·exact absurd e hl
  ·exact e
 have hm : A.toNat * l.toNat ≤ 1000000 * 4294967296 := Nat.mul_le_mul (by omega) (by omega)
 have hg : gt (1 : Int).toNat (wor (0 : Int).toNat A.toNat l.toNat) = A.toNat * l.toNat / 1000000000 := wN _ _
 have hq : A.toNat * l.toNat / 1000000000 ≤ 4294967 := by omega
 have hc : cvA M 0 1 A = (((A.toNat * l.toNat / 1000000000 : Nat) : Int), dcs ((rsd (1 : Int).toNat (wor (0 : Int).toNat A.toNat l.toNat) : Nat) : Int) 12, 0) := by
  unfold cvA
  rw [hr]
  show cvR 0 1 A l = _
  unfold cvR
  rw [if_pos ⟨hA.1, by omega⟩, hg, if_pos (by omega), if_neg (by decide)]
 have g : Good12 M (mkE 12 [1, 3, A]) := ⟨gK (by decide) (tA ⟨by decide, by decide⟩ ⟨by decide, by decide⟩ ⟨by omega, by omega⟩), rfl, dK (by decide) (by decide) (by show 3 ≤ ct.getD 12 0; decide), by rw [qa h.s3.keys h.s3.uw rfl, om h hA _ 0 _ hc (by omega)]; rfl, by show 0 ≤ 8; decide⟩
 refine ⟨g, ?_, hm⟩
 unfold gotM
 rw [show acctO M (mkE 12 [1, 3, A]).n0 = some (pa1 A 0 []) from h.s3.a1, show acctO M (mkE 12 [1, 3, A]).n1 = some (AO 3 1 1) from h.s3.a3]
 show (cvA M 0 1 A).1 = _
 rw [hc]
theorem lS {w : World} {B p : Nat} {M : PM} (h : BK w B p M) {c u : Int} (hc : 0 ≤ c ∧ c ≤ 3) (hu : 0 ≤ u ∧ u ≤ 3) {x y : Int} (h1 : (rateO M c u).getD 0 = x) (h2 : rtE (rateO M c u) = y) :
  Calls prog 21 #[.pointer (some ⟨p, 0, none⟩), .int .i64 c, .int .i64 u] w fun e w' => e = .returned (.tuple #[.int .i64 x, .int .i64 y]) ∧ w' = w := by
 subst h1 h2
 obtain ⟨F, hM, rfl⟩ := h.md
 exact gM w B F M hM h.tb.cu c u hc hu
set_option maxRecDepth 100000 in
theorem rates_walk (w : World) (T : TBL w) (h6 : 6 ≤ w.heap.size) (va : Option Addr) (N vc : Nat) (us : List Nat) (hS : Sl K32 w (.slice va N vc) us) (hU : ∀ u ∈ us, u < 4294967296) (x : Int) : Calls prog 7 #[.slice va N vc, .int .i64 x] w fun r w' => r = .returned (.bool true) ∧ Below w.heap.size w w' := by
 have HTT := hI_ T
 have H6w := hI_ h6
 have hN : N = us.length := by
  obtain ⟨a, c, e, _⟩ := hS.form
  cases e
  rfl
 have HN : Hid (N = us.length) := hN
 have hb1 : N ≤ vc ∧ vc ≤ 9223372036854775807 := by
  obtain ⟨a, c, e, h1, h2, _⟩ := hS.form
  cases e
  exact ⟨h1, h2⟩
 have HSL := hI_ hS
 have HUS := hI_ hU
 clear T h6 hS hU hN
 go_enter func7, ntmps7
 have hbs1 := @rI1
 have hbs2 := @rI2
 have hbs3 := @rI3
 have hbs4 := @rI4
 go_wp2_with fail
 refine (nG w HTT.out H6w.out).mono ?_
 rintro r wA ⟨rfl, bA⟩
 have BA : Hid (Below w.heap.size w wA) := bA
 have H6 : Hid (6 ≤ wA.heap.size) := Nat.le_trans H6w.out bA.size
 have HTA : Hid (TBL wA) := HTT.out.step bA
 have HSA : Hid (Sl K32 wA (.slice va N vc) us) := HSL.out.step bA
 clear bA
 go_wp2_with fail
 refine (rT wA HTA.out H6.out 0 0 (by decide) (by decide)).mono ?_
 rintro r w0 ⟨p, rfl, h0, b0⟩
 have HK_0 : Hid (BK w0 wA.heap.size p (LB 0 0)) := h0
 have BB_0 := hI_ b0
 have HS_0 : Hid (S3 (LB 0 0) 0 0 (pa1 0 0 []) (AO 2 0 2) (AO 3 1 1) 6) := wo 0 0
 have HRT : Hid ((LB 0 0).rates = []) := rfl
 clear h0 b0
 generalize LB 0 0 = M0 at *
 have a1 := um x 1000000 (by decide) (by decide)
 go_upto_region 5 with fail
 generalize wrap64 ((IntKind.u64.wrap x).tmod 1000000) = A0 at *
 try rw [show wrap64 (1 + A0) = 1 + A0 by unfold wrap64; omega]
 obtain ⟨A, hA⟩ : ∃ A, A = 1 + A0 := ⟨_, rfl⟩
 rw [← hA]
 have g1 : 1 ≤ A := by omega
 have g2 : A ≤ 1000000 := by omega
 clear a1 hA
 go_wp2_with fail
 refine (bV 4 [1, A] _ _ (vI2 w0 (1) (A)) (by show 2 ≤ 8; decide)).mono ?_
 rintro r wa1 ⟨rfl, ba1⟩
 have ka1 := ((Below.refl w0.heap.size w0).alloc (Nat.le_refl _) (.cells #[.int .i64 (1), .int .i64 (A)] 2)).trans (ba1.mono (by simp))
 have HK_a1 : Hid (BK _ wA.heap.size p _) := HK_0.out.step ka1
 have BB_a1 := hI_ (BB_0.out.trans (ka1.mono BB_0.out.size))
 clear  BB_0 HK_0
 clear ba1 ka1
 go_wp2_with fail
 refine (gp HK_a1.out (vQ HS_0.out g1 (by omega) (by omega) (by omega)) (by rw [HS_0.out.seq]; decide) (fl _) fd).mono ?_
 rintro r wa2 ⟨rfl, ha2, ka2⟩
 have HK_a2 : Hid (BK _ wA.heap.size p _) := ha2
 have BB_a2 : Hid (Below wA.heap.size wA wa2) := BB_a1.out.trans ka2.bel
 clear  BB_a1 HK_a1
 clear ha2 ka2
 have HS_1 : Hid (SR (nxt M0 (mkE 4 [1, A])) A 0 7) := wO (uU HS_0.out (by decide) A (Int.zero_add A)) HRT.out
 clear HS_0 HRT
 generalize nxt M0 (mkE 4 [1, A]) = M1 at *
 go_wp2_with fail
 refine (bV 12 [1, 3, A] _ _ (vI3 wa2 (1) (3) (A)) (by show 3 ≤ 8; decide)).mono ?_
 rintro r wa3 ⟨rfl, ba3⟩
 have ka3 := ((Below.refl wa2.heap.size wa2).alloc (Nat.le_refl _) (.cells #[.int .i64 (1), .int .i64 (3), .int .i64 (A)] 2)).trans (ba3.mono (by simp))
 have HK_a3 : Hid (BK _ wA.heap.size p _) := HK_a2.out.step ka3
 have BB_a3 := hI_ (BB_a2.out.trans (ka3.mono BB_a2.out.size))
 clear  BB_a2 HK_a2
 clear ba3 ka3
 go_wp2_with fail
 refine (kP HK_a3.out (gK (by decide) (tA ⟨by decide, by decide⟩ ⟨by decide, by decide⟩ ⟨by omega, by omega⟩)) (fl _) fd (dK (by decide) (by decide) (by show 3 ≤ ct.getD 12 0; decide)) (wj HS_1.out ⟨g1, g2⟩) (by decide)).mono ?_
 rintro r wa4 ⟨rfl, ha4, ka4⟩
 have HK_a4 : Hid (BK _ wA.heap.size p _) := ha4
 have BB_a4 : Hid (Below wA.heap.size wA wa4) := BB_a3.out.trans ka4.bel
 clear  BB_a3 HK_a3
 clear ha4 ka4
 go_wp2_with fail
 go_loopw [7, 52] (fun lv i wr => ∃ (k : Nat) (last : Int), k ≤ N ∧ i = .int .i64 (k : Int) ∧ lv = .int .i64 last ∧ Hid (0 ≤ last ∧ last ≤ 4294967296) ∧ Hid (∃ M s, BK wr wA.heap.size p M ∧ SR M A last s ∧ s ≤ 7 + k ∧ (s ≤ 27)) ∧ Hid (Below wA.heap.size wA wr)) (fun _ i _ => N - (intOf i).toNat)
 case atStart => exact ⟨0, 0, by omega, rfl, rfl, ⟨by decide, by decide⟩, ⟨M1, 7, HK_a4.out, HS_1.out, by decide, by decide⟩, BB_a4.out⟩
 case round =>
  obtain ⟨k, last, hk, rfl, rfl, HL, HX, HB⟩ := hrel
  clear HK_a4 BB_a4 HS_1
  obtain ⟨M, s, hbk, hsr, hs1, hs2⟩ := HX.out
  have HK_r := hI_ hbk
  have HS := hI_ hsr
  have BB_r := hI_ HB.out
  have HSS : Hid (s ≤ 7 + k ∧ s ≤ 27) := ⟨hs1, hs2⟩
  clear hbk hsr hs1 hs2 HX HB
  by_cases hkn : k = N
  ·subst hkn
   by_cases hl0 : last = 0
   ·subst hl0
    go_wp2_with fail
    go_ret
    exact ⟨rfl, BA.out.trans (BB_r.out.mono BA.out.size)⟩
   have l1 : 1 ≤ last := by have := HL.out; omega
   have l2 : last ≤ 4294967296 := HL.out.2
   have e0 : (last == 0) = false := by simpa using hl0
   have e1 : (last = 0) = False := by simpa using hl0
   obtain ⟨hG, hg, hm⟩ := rL HS.out ⟨g1, g2⟩ hl0
   have HG := hI_ hG
   have HGT := hI_ hg
   have HMU := hI_ hm
   have HRA := (show Hid ((rateO M 0 1).getD 0 = last ∧ rtE (rateO M 0 1) = 0) from by
    have h := HS.out.r1
    rcases h with ⟨h, _⟩ | ⟨_, h⟩
    ·exact absurd h hl0
    ·rw [h]; exact ⟨rfl, rfl⟩)
   have HRB : Hid ((rateO M 1 0).getD 0 = 0 ∧ rtE (rateO M 1 0) = 7) := by rw [HS.out.r2]; exact ⟨rfl, rfl⟩
   clear hG hg hm hl0
   go_wp2_with fail
   refine (bV 12 [1, 3, A] _ _ (vI3 wr (1) (3) (A)) (by show 3 ≤ 8; decide)).mono ?_
   rintro r wa81 ⟨rfl, ba81⟩
   have ka81 := ((Below.refl wr.heap.size wr).alloc (Nat.le_refl _) (.cells #[.int .i64 (1), .int .i64 (3), .int .i64 (A)] 2)).trans (ba81.mono (by simp))
   have HK_a81 : Hid (BK _ wA.heap.size p _) := HK_r.out.step ka81
   have BB_a81 := hI_ (BB_r.out.trans (ka81.mono BB_r.out.size))
   clear  BB_r HK_r
   clear ba81 ka81
   go_wp2_with fail
   refine (mO HK_a81.out HG.out (fl _) fd).mono ?_
   rintro r wa82 ⟨u, rfl, oa82, ha82, ka82⟩
   have HK_a82 : Hid (BK _ wA.heap.size p _) := ha82
   have BB_a82 : Hid (Below wA.heap.size wA wa82) := BB_a81.out.trans ka82.bel
   clear  BB_a81 HK_a81
   have HUF : Hid (∃ a n c, u = Value.slice a n c) := oa82.tf
   clear ha82 ka82 oa82
   obtain ⟨g, hg⟩ : ∃ g, g = gotM M (mkE 12 [1, 3, A]) := ⟨_, rfl⟩
   rw [← hg]
   have HGG : Hid (g = ((A.toNat * last.toNat / 1000000000 : Nat) : Int)) := hg.trans HGT.out
   have hx : (EX M (mkE 12 [1, 3, A])).cells u = ({ mkE 12 [1, 3, A] with n3 := g } : EV).cells u := by unfold EX; rw [← hg]
   rw [hx]
   clear hg hx
   have bA := (Below.refl wa82.heap.size wa82).alloc (Nat.le_refl _) (.cells #[.int .u8 0, .int .u64 0, .int .i64 0, .int .i64 0, .int .i64 0, .int .i64 0, .int .i64 0, .int .i64 0, .int .i64 0, .int .i64 0, .slice none 0 0] 31)
   have HV := hI_ (aa wa82 mkZ 31)
   have HK_z : Hid (BK _ wA.heap.size p _) := HK_a82.out.step bA
   have BB_z := hI_ (BB_a82.out.trans (bA.mono BB_a82.out.size))
   have s1 := BB_a82.out.size
   clear  BB_a82 HK_a82
   clear bA
   go_upto_region 19 with (refine stA rfl 31 _ _ rfl wa82.heap.size (by rfl) mkZ ((({ mkE 12 [1, 3, A] with n3 := g } : EV).cells u)) (by rfl) 31 HV.out ao rfl ((({ mkE 12 [1, 3, A] with n3 := g } : EV).one HUF.out)) ?_; intro wa83 va83 ua83)
   have HK_a83 : Hid (BK _ wA.heap.size p _) := HK_z.out.upd HV.out (by decide) ua83 (by have := H6.out; omega)
   have BB_a83 := hI_ (ua83.bel BB_z.out s1)
   have V10_a83 := hI_ va83
   clear va83 ua83 HV s1 HK_z BB_z
   go_wp2_with fail
   refine (lS HK_a83.out (by decide) (by decide) HRA.out.1 HRA.out.2).mono ?_
   rintro r wq ⟨rfl, hq⟩
   obtain rfl := hq.symm
   clear hq
   go_wp2_with fail
   refine (lS HK_a83.out (by decide) (by decide) HRB.out.1 HRB.out.2).mono ?_
   rintro r wq ⟨rfl, hq⟩
   obtain rfl := hq.symm
   clear hq
   have hu1 : IntKind.u64.wrap A = A := by show A % 2 ^ 64 = A; omega
   have hu2 : IntKind.u64.wrap last = last := by show last % 2 ^ 64 = last; omega
   go_wp2_with fail
   refine (fq A wa83 (by omega) (by omega)).mono ?_
   rintro r wa84 ⟨⟨n1, rfl, y1⟩, ka84⟩
   have V10_a84 := hI_ (V10_a83.out.step ka84)
   have HK_a84 : Hid (BK _ wA.heap.size p _) := HK_a83.out.step ka84
   have BB_a84 := hI_ (BB_a83.out.trans (ka84.mono BB_a83.out.size))
   clear V10_a83 BB_a83 HK_a83
   have N1_a84 := hI_ y1
   clear ka84 y1
   go_wp2_with fail
   refine (fq last wa84 (by omega) (by omega)).mono ?_
   rintro r wa85 ⟨⟨n2, rfl, y2⟩, ka85⟩
   have V10_a85 := hI_ (V10_a84.out.step ka85)
   have N1_a85 := hI_ (N1_a84.out.step ka85)
   have HK_a85 : Hid (BK _ wA.heap.size p _) := HK_a84.out.step ka85
   have BB_a85 := hI_ (BB_a84.out.trans (ka85.mono BB_a84.out.size))
   clear V10_a84 N1_a84 BB_a84 HK_a84
   have N2_a85 := hI_ y2
   clear ka85 y2
   go_wp2_with fail
   refine (ku _ _ _ _ wa85 N1_a85.out N2_a85.out (gH (k := 20) (by omega) (by decide)) (gH (k := 33) (by omega) (by decide))).mono ?_
   rintro r wa86 ⟨⟨n3, rfl, y3⟩, ka86⟩
   have V10_a86 := hI_ (V10_a85.out.step ka86)
   have N1_a86 := hI_ (N1_a85.out.step ka86)
   have N2_a86 := hI_ (N2_a85.out.step ka86)
   have HK_a86 : Hid (BK _ wA.heap.size p _) := HK_a85.out.step ka86
   have BB_a86 := hI_ (BB_a85.out.trans (ka86.mono BB_a85.out.size))
   clear V10_a85 N1_a85 N2_a85 BB_a85 HK_a85
   have N3_a86 := hI_ y3
   clear ka86 y3
   go_wp2_with fail
   refine (uW 9 wa86 (by decide)).mono ?_
   rintro r wa87 ⟨⟨n4, rfl, y4⟩, ka87⟩
   have V10_a87 := hI_ (V10_a86.out.step ka87)
   have N1_a87 := hI_ (N1_a86.out.step ka87)
   have N2_a87 := hI_ (N2_a86.out.step ka87)
   have N3_a87 := hI_ (N3_a86.out.step ka87)
   have HK_a87 : Hid (BK _ wA.heap.size p _) := HK_a86.out.step ka87
   have BB_a87 := hI_ (BB_a86.out.trans (ka87.mono BB_a86.out.size))
   clear V10_a86 N1_a86 N2_a86 N3_a86 BB_a86 HK_a86
   have N4_a87 := hI_ y4
   clear ka87 y4
   go_wp2_with fail
   refine (s6 _ _ _ _ wa87 N3_a87.out N4_a87.out (gH (k := 52) (by have := HMU.out; omega) (by decide)) (qB 9 (by decide)) (by decide)).mono ?_
   rintro r wa88 ⟨⟨n5, n6, rfl, y5, y6⟩, ka88⟩
   have V10_a88 := hI_ (V10_a87.out.step ka88)
   have N1_a88 := hI_ (N1_a87.out.step ka88)
   have N2_a88 := hI_ (N2_a87.out.step ka88)
   have N3_a88 := hI_ (N3_a87.out.step ka88)
   have N4_a88 := hI_ (N4_a87.out.step ka88)
   have HK_a88 : Hid (BK _ wA.heap.size p _) := HK_a87.out.step ka88
   have BB_a88 := hI_ (BB_a87.out.trans (ka88.mono BB_a87.out.size))
   clear V10_a87 N1_a87 N2_a87 N3_a87 N4_a87 BB_a87 HK_a87
   have N5_a88 := hI_ y5
   clear ka88 y5
   go_wp2_with fail
   refine (pd _ _ wa88 N5_a88.out (by have := HMU.out; rw [show (10 : Nat) ^ 9 = 1000000000 from rfl]; omega)).mono ?_
   rintro r wq ⟨rfl, hq⟩
   obtain rfl := hq.symm
   clear hq
   have hgz : 0 ≤ g ∧ g ≤ 4294967 := by have h := HGG.out; have h2 := HMU.out; omega
   have hge : ((A.toNat * last.toNat / 10 ^ 9 : Nat) : Int) = g := by rw [HGG.out]
   rw [hge]
   have hgw : IntKind.i64.wrap g = g := by rw [IntKind.wrap_i64]; omega
   have c5 := V10_a88.out.cell 5 (v := .int .i64 g) rfl
   clear hu1 hu2
   go_wp2_with fail
   go_ret
   exact ⟨rfl, BA.out.trans (BB_a88.out.mono BA.out.size)⟩
  have hk' : k < N := by omega
  obtain ⟨z, hz⟩ : ∃ z, us[k]? = some z := ⟨_, List.getElem?_eq_getElem (by have := HN.out; omega)⟩
  have hzb := HUS.out z (List.mem_of_getElem? hz)
  have z1 : (0 : Int) ≤ (z : Int) := by omega
  have z2 : (z : Int) ≤ 4294967295 := by omega
  have d1 : (0 : Int) ≤ (k : Int) := by omega
  have d2 : (k : Int) < (N : Int) := by omega
  have hsl := HSA.out.step BB_r.out
  have hsl2 : ∃ b off, va = some ⟨b, off, none⟩ ∧ wr.cell? ⟨b, off + k, none⟩ = some (.int .u32 (z : Int)) := by
   rw [HN.out] at hsl
   obtain ⟨b, off, e, _, hc⟩ := hsl.at k z hz
   refine ⟨b, off, e, ?_⟩
   have := hc 0 _ rfl
   simpa [K32] using this
  obtain ⟨b, off, rfl, cz⟩ := hsl2
  clear hsl hz hzb
  by_cases h20 : k < 20
  ·have d3 : ((k : Int) < 20) = True := by simp; omega
   go_wp2_with fail
   refine (bV 11 [0, 1, 1 + (z : Int)] _ _ (vI3 wr (0) (1) (1 + (z : Int))) (by show 3 ≤ 8; decide)).mono ?_
   rintro r wa61 ⟨rfl, ba61⟩
   have ka61 := ((Below.refl wr.heap.size wr).alloc (Nat.le_refl _) (.cells #[.int .i64 (0), .int .i64 (1), .int .i64 (1 + (z : Int))] 2)).trans (ba61.mono (by simp))
   have HK_a61 : Hid (BK _ wA.heap.size p _) := HK_r.out.step ka61
   have BB_a61 := hI_ (BB_r.out.trans (ka61.mono BB_r.out.size))
   clear  BB_r HK_r
   clear ba61 ka61
   go_wp2_with fail
   refine (gp HK_a61.out (uo HS.out ⟨by omega, by omega⟩) (by rw [HS.out.s3.seq]; have := HSS.out; omega) (fl _) fd).mono ?_
   rintro r wa62 ⟨rfl, ha62, ka62⟩
   have HK_a62 : Hid (BK _ wA.heap.size p _) := ha62
   have BB_a62 : Hid (Below wA.heap.size wA wa62) := BB_a61.out.trans ka62.bel
   clear  BB_a61 HK_a61
   clear ha62 ka62
   go_wp2_with fail
   exact ⟨⟨k + 1, 1 + (z : Int), by omega, by go_num, rfl, ⟨by omega, by omega⟩, ⟨_, s + 1, HK_a62.out, sT HS.out ⟨by omega, by omega⟩ (by have := HSS.out; omega), by have := HSS.out; omega, by have := HSS.out; omega⟩, BB_a62.out⟩, by simp [intOf]; omega⟩
  ·have d3 : ((k : Int) < 20) = False := by simp; omega
   go_wp2_with fail
   exact ⟨⟨k + 1, last, by omega, by go_num, rfl, HL.out, ⟨M, s, HK_r.out, HS.out, by have := HSS.out; omega, HSS.out.2⟩, BB_r.out⟩, by simp [intOf]; omega⟩
end Go.Proofs.YtjkiplndbcmmbaaGreatDoor