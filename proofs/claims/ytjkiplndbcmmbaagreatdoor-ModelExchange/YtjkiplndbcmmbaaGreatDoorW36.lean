/- texts of the model: Mrn -/
import Derived.Test.YtjkiplndbcmmbaaGreatDoorW35
set_option linter.unusedVariables false
set_option linter.unusedSimpArgs false
set_option maxHeartbeats 16000000
set_option maxRecDepth 100000
namespace Go.Proofs.YtjkiplndbcmmbaaGreatDoor
open Tryz
open Go.RowKit Go.Maps
theorem exchange_walk (w : World) (T : TBL w) (h6 : 6 ≤ w.heap.size) (rt am fr tt : Int) (f1 : 0 ≤ fr ∧ fr ≤ 255) (f2 : 0 ≤ tt ∧ tt ≤ 255) : Calls prog 8 #[.int .i64 rt, .int .i64 am, .int .u8 fr, .int .u8 tt] w fun r w' => r = .returned (.bool true) ∧ Below w.heap.size w w' := by
 have HTT := hI_ T
 have H6w := hI_ h6
 clear T h6
 go_enter func8, ntmps8
 go_wp2_with fail
 refine (oH w HTT.out H6w.out).mono ?_
 rintro r wA ⟨rfl, bA⟩
 have BA : Hid (Below w.heap.size w wA) := bA
 have H6 : Hid (6 ≤ wA.heap.size) := Nat.le_trans H6w.out bA.size
 have HTA : Hid (TBL wA) := HTT.out.step bA
 clear bA HTT H6w
 have a1 := um rt 1000000000000 (by decide) (by decide)
 have a2 := um am 10000000000000 (by decide) (by decide)
 go_upto_region 6 with fail
 generalize wrap64 ((IntKind.u64.wrap rt).tmod 1000000000000) = R0 at *
 generalize wrap64 ((IntKind.u64.wrap am).tmod 10000000000000) = A0 at *
 try rw [show wrap64 (1 + R0) = 1 + R0 by unfold wrap64; omega]
 try rw [show wrap64 (1 + A0) = 1 + A0 by unfold wrap64; omega]
 obtain ⟨R, hR⟩ : ∃ R, R = 1 + R0 := ⟨_, rfl⟩
 obtain ⟨A, hA⟩ : ∃ A, A = 1 + A0 := ⟨_, rfl⟩
 rw [← hR, ← hA]
 have r1 : 1 ≤ R := by omega
 have r2 : R ≤ 1000000000000 := by omega
 have g1 : 1 ≤ A := by omega
 have g2 : A ≤ 10000000000000 := by omega
 clear a1 a2 hR hA
 have c1 : 0 ≤ fr % 4 := by omega
 have c2 : fr % 4 ≤ 3 := by omega
 have d1 : 0 ≤ tt % 4 := by omega
 have d2 : tt % 4 ≤ 3 := by omega
 clear f1 f2
 generalize fr % 4 = c at *
 generalize tt % 4 = o at *
 go_wp2_with fail
 refine (pF wA HTA.out H6.out 100 (by decide) (by decide)).mono ?_
 rintro e w0 ⟨p, rfl, h1, b0⟩
 have HK_0 : Hid (BK w0 wA.heap.size p (bank0 100)) := h1
 have BB_0 : Hid (Below wA.heap.size wA w0) := b0
 clear h1 b0
 by_cases hco : c = o
 ·subst hco
  go_wp2_with fail
  go_ret
  exact ⟨rfl, BA.out.trans (BB_0.out.mono BA.out.size)⟩
 have HG := hI_ (uA ⟨c1, c2⟩ ⟨d1, d2⟩ hco ⟨g1, g2⟩ ⟨r1, r2⟩)
 have e1 : (c == o) = false := by simpa using hco
 go_wp2_with fail
 refine (fg _).mono ?_
 rintro e w1 ⟨⟨u1, rfl, o1⟩, b1⟩
 have HK_1 := hI_ (HK_0.out.step b1)
 have BB_1 := hI_ (BB_0.out.trans (b1.mono BB_0.out.size))
 have O1_1 : Hid (OwnT w1 wA.heap.size u1 [(0, 36500000)]) := o1.lower BB_0.out.size
 clear b1 o1 HK_0 BB_0
 go_wp2_with fail
 refine (fg _).mono ?_
 rintro e w2 ⟨⟨u2, rfl, o2⟩, b2⟩
 have HK_2 := hI_ (HK_1.out.step b2)
 have O1_2 := hI_ (O1_1.out.step b2)
 have BB_2 := hI_ (BB_1.out.trans (b2.mono BB_1.out.size))
 have O2_2 : Hid (OwnT w2 wA.heap.size u2 [(0, 36500000)]) := o2.lower BB_1.out.size
 clear b2 o2 HK_1 O1_1 BB_1
 have bA := ((Below.refl w2.heap.size w2).alloc (Nat.le_refl _) (.cells #[.int .u8 0, .int .u64 0, .int .i64 0, .int .i64 0, .int .i64 0, .int .i64 0, .int .i64 0, .int .i64 0, .int .i64 0, .int .i64 0, .slice none 0 0] 31)).alloc (by simp) (.cells #[.int .u8 0, .int .u64 0, .int .i64 0, .int .i64 0, .int .i64 0, .int .i64 0, .int .i64 0, .int .i64 0, .int .i64 0, .int .i64 0, .slice none 0 0] 31)
 have q8 := (aa w2 mkZ 31).alloc (.cells #[.int .u8 0, .int .u64 0, .int .i64 0, .int .i64 0, .int .i64 0, .int .i64 0, .int .i64 0, .int .i64 0, .int .i64 0, .int .i64 0, .slice none 0 0] 31)
 have q9 := aa (w2.alloc (.cells #[.int .u8 0, .int .u64 0, .int .i64 0, .int .i64 0, .int .i64 0, .int .i64 0, .int .i64 0, .int .i64 0, .int .i64 0, .int .i64 0, .slice none 0 0] 31)) mkZ 31
 simp only [World.size_alloc] at q9
 have V8_A := hI_ q8
 have V9_A := hI_ q9
 have HK_A := hI_ (HK_2.out.step bA)
 have O1_A := hI_ (O1_2.out.step bA)
 have O2_A := hI_ (O2_2.out.step bA)
 have BB_A := hI_ (BB_2.out.trans (bA.mono BB_2.out.size))
 have s3 := BB_2.out.size
 clear bA q8 q9 HK_2 O1_2 O2_2 BB_2
 go_upto_region 10 with (first | (refine stA rfl 31 _ _ rfl (w2.heap.size) (by rfl) mkZ ((PE.cells u1)) (by rfl) 31 V8_A.out aj rfl (PE.one O1_A.out.tf) ?_; intro w4 v4 u4; have V9_4 := hI_ (V9_A.out.upd u4 (by omega))) | (refine stA rfl 31 _ _ rfl (w2.heap.size + 1) (by rfl) mkZ ((PE.cells u2)) (by rfl) 31 V9_4.out aj rfl (PE.one O2_A.out.tf) ?_; intro w5 v5 u5))
 have V8_6 : Hid (VA w5 w2.heap.size (PE.cells u1) 31) := v4.upd u5 (by omega)
 have V9_6 : Hid (VA w5 (w2.heap.size + 1) (PE.cells u2) 31) := v5
 have BB_6 : Hid (Below wA.heap.size wA w5) := u5.bel (u4.bel BB_A.out (by omega)) (by omega)
 have HK_6 : Hid (BK w5 wA.heap.size p (bank0 100)) := (HK_A.out.upd V8_A.out (by decide) u4 (by have := H6.out; omega)).upd V9_4.out (by decide) u5 (by have := H6.out; omega)
 have O1_6 : Hid (OwnT w5 wA.heap.size u1 _) := (OwnT.updV O1_A.out V8_A.out (by decide) u4).updV V9_4.out (by decide) u5
 have O2_6 : Hid (OwnT w5 wA.heap.size u2 _) := (OwnT.updV O2_A.out V8_A.out (by decide) u4).updV V9_4.out (by decide) u5
 clear v4 v5 u4 u5 V8_A V9_A V9_4 HK_A O1_A O2_A BB_A
 have c0 := VA.cell V8_6.out 4 (v := .int .i64 0) rfl
 have f0 := VA.free V8_6.out 4
 have X0 : VA (w5.setCell ⟨w2.heap.size, 4, none⟩ (.int .i64 c)) (w2.heap.size) [.int .u8 1, .int .u64 0, .int .i64 1, .int .i64 1, .int .i64 c, .int .i64 1, .int .i64 1, .int .i64 0, .int .i64 0, .int .i64 500, u1] 31 := VA.set V8_6.out 4 (.int .i64 c)
 have U0 : Upd (w2.heap.size) w5 (w5.setCell ⟨w2.heap.size, 4, none⟩ (.int .i64 c)) := au _ _ _ _
 have hbk := V8_6.out.blk
 go_upto_region 11 with fail
 have V8_7 := hI_ X0
 have V9_7 := hI_ (V9_6.out.upd U0 (by omega))
 have HK_7 := hI_ (HK_6.out.upd V8_6.out (by decide) U0 (by have := H6.out; omega))
 have O1_7 := hI_ (OwnT.updV O1_6.out V8_6.out (by decide) U0)
 have O2_7 := hI_ (OwnT.updV O2_6.out V8_6.out (by decide) U0)
 have BB_7 := hI_ (U0.bel BB_6.out (by omega))
 clear c0 f0 X0 U0 hbk HK_6 O1_6 O2_6 V8_6 V9_6 BB_6
 generalize (w5.setCell ⟨w2.heap.size, 4, none⟩ (.int .i64 c)) = w7 at *
 have c0 := VA.cell V9_7.out 2 (v := .int .i64 1) rfl
 have f0 := VA.free V9_7.out 2
 have X0 : VA (w7.setCell ⟨w2.heap.size + 1, 2, none⟩ (.int .i64 2)) (w2.heap.size + 1) [.int .u8 1, .int .u64 0, .int .i64 2, .int .i64 1, .int .i64 0, .int .i64 1, .int .i64 1, .int .i64 0, .int .i64 0, .int .i64 500, u2] 31 := VA.set V9_7.out 2 (.int .i64 2)
 have U0 : Upd (w2.heap.size + 1) w7 (w7.setCell ⟨w2.heap.size + 1, 2, none⟩ (.int .i64 2)) := au _ _ _ _
 have c1 := VA.cell X0 4 (v := .int .i64 0) rfl
 have f1 := VA.free X0 4
 have X1 : VA ((w7.setCell ⟨w2.heap.size + 1, 2, none⟩ (.int .i64 2)).setCell ⟨w2.heap.size + 1, 4, none⟩ (.int .i64 o)) (w2.heap.size + 1) [.int .u8 1, .int .u64 0, .int .i64 2, .int .i64 1, .int .i64 o, .int .i64 1, .int .i64 1, .int .i64 0, .int .i64 0, .int .i64 500, u2] 31 := VA.set X0 4 (.int .i64 o)
 have U1 : Upd (w2.heap.size + 1) w7 ((w7.setCell ⟨w2.heap.size + 1, 2, none⟩ (.int .i64 2)).setCell ⟨w2.heap.size + 1, 4, none⟩ (.int .i64 o)) := U0.trans (au _ _ _ _)
 have hbk := V9_7.out.blk
 go_upto_region 12 with fail
 have V9_8 := hI_ X1
 have V8_8 := hI_ (V8_7.out.upd U1 (by omega))
 have HK_8 := hI_ (HK_7.out.upd V9_7.out (by decide) U1 (by have := H6.out; omega))
 have O1_8 := hI_ (OwnT.updV O1_7.out V9_7.out (by decide) U1)
 have O2_8 := hI_ (OwnT.updV O2_7.out V9_7.out (by decide) U1)
 have BB_8 := hI_ (U1.bel BB_7.out (by omega))
 clear c0 f0 X0 U0 c1 f1 X1 U1 hbk HK_7 O1_7 O2_7 V8_7 V9_7 BB_7
 generalize ((w7.setCell ⟨w2.heap.size + 1, 2, none⟩ (.int .i64 2)).setCell ⟨w2.heap.size + 1, 4, none⟩ (.int .i64 o)) = w8 at *
 have V8_8 : Hid (VA w8 (w2.heap.size) ((PL 1 1 c 500).cells u1) 31) := V8_8.out
 have V9_8 : Hid (VA w8 (w2.heap.size + 1) ((PL 2 1 o 500).cells u2) 31) := V9_8.out
 have HF_8 : Hid (EF wA p w2.heap.size u1 u2 c o w8) := ⟨HK_8.out, O1_8.out, O2_8.out, V8_8.out, V9_8.out, BB_8.out⟩
 clear HK_8 O1_8 O2_8 V8_8 V9_8 BB_8
 generalize hfr : Act.mk _ _ = fr
 have hsz : fr.tmps.size = 210 := by rw [← hfr]; rfl
 have h0 : fr.eval (.tmp 0) = .int .i64 R := by rw [← hfr]; rfl
 have h1 : fr.eval (.tmp 1) = .int .i64 A := by rw [← hfr]; rfl
 have h9 : fr.eval (.tmp 9) = .int .i64 c := by rw [← hfr]; rfl
 have h10 : fr.eval (.tmp 10) = .int .i64 o := by rw [← hfr]; rfl
 have h13 : fr.eval (.tmp 13) = .pointer (some ⟨w2.heap.size, 0, none⟩) := by rw [← hfr]; rfl
 have h14 : fr.eval (.tmp 14) = .pointer (some ⟨w2.heap.size + 1, 0, none⟩) := by rw [← hfr]; rfl
 refine vH DX (EF wA p w2.heap.size u1 u2 c o) (XP c o A R u1 u2) (by kernel_rfl) (by rfl) wO (by kernel_rfl) (by kernel_rfl) (HF_8.out.step (Below.refl w8.heap.size w8).drew) ?_ ?_
 ·clear HF_8 hfr
  intro i ob ho s wx F hd K hK
  have hi : i < 17 := (Array.getElem?_eq_some_iff.1 ho).1
  have hc : i = 0 ∨ i = 1 ∨ i = 2 ∨ i = 3 ∨ i = 4 ∨ i = 5 ∨ i = 6 ∨ i = 7 ∨ i = 8 ∨ i = 9 ∨ i = 10 ∨ i = 11 ∨ i = 12 ∨ i = 13 ∨ i = 14 ∨ i = 15 ∨ i = 16 := by omega
  rcases hc with rfl | rfl | rfl | rfl | rfl | rfl | rfl | rfl | rfl | rfl | rfl | rfl | rfl | rfl | rfl | rfl | rfl
  ·simp only [List.getElem?_toArray, List.getElem?_cons_zero, List.getElem?_cons_succ, Option.some.injEq] at ho
   have h_ := (congrArg Oper.op ho).symm
   clear ho hd
   exact wX _ h_ _ (oL h13) ((PL 1 1 c 500).cells u1) rfl F.v8 (hK _ _ _ rfl F (fun _ _ h => h) rfl)
  ·simp only [List.getElem?_toArray, List.getElem?_cons_zero, List.getElem?_cons_succ, Option.some.injEq] at ho
   have h_ := (congrArg Oper.op ho).symm
   clear ho hd
   exact wX _ h_ _ (oL h14) ((PL 2 1 o 500).cells u2) rfl F.v9 (hK _ _ _ rfl F (fun _ _ h => h) rfl)
  ·simp only [List.getElem?_toArray, List.getElem?_cons_zero, List.getElem?_cons_succ, Option.some.injEq] at ho
   have h_ := (congrArg Oper.op ho).symm
   clear ho hd
   have b := (Below.refl wx.heap.size wx).alloc (Nat.le_refl _) (.cells #[.int .i64 1, .int .i64 1] 2)
   exact bI2 _ _ h_ 1 1 rfl (rfl) (hK _ _ _ rfl (F.step b) (XP.step b) ⟨_, rfl, vI2 wx 1 1⟩)
  ·simp only [List.getElem?_toArray, List.getElem?_cons_zero, List.getElem?_cons_succ, Option.some.injEq] at ho
   have h_ := (congrArg Oper.op ho).symm
   have e2 := hd 2 (by rw [← ho]; kernel_rfl)
   clear ho hd
   obtain ⟨r, e2, V⟩ := e2
   refine ss _ _ h_ (.int .u8 2) (.slice (some ⟨r, 0, none⟩) 2 2) rfl ((inX hsz 2 77).trans e2) (v := .agg ((mkE 2 [1, 1]).cells nilT).toArray) (R := fun w' => Below wx.heap.size wx w') (bT 2 [1, 1] wx r V (by show 2 ≤ 8; decide)) ?_
   intro w' b
   exact hK _ _ _ rfl (F.step b) (XP.step b) rfl
  ·simp only [List.getElem?_toArray, List.getElem?_cons_zero, List.getElem?_cons_succ, Option.some.injEq] at ho
   have h_ := (congrArg Oper.op ho).symm
   clear ho hd
   have b := (Below.refl wx.heap.size wx).alloc (Nat.le_refl _) (.cells #[.int .i64 2, .int .i64 2] 2)
   exact bI2 _ _ h_ 2 2 rfl (rfl) (hK _ _ _ rfl (F.step b) (XP.step b) ⟨_, rfl, vI2 wx 2 2⟩)
  ·simp only [List.getElem?_toArray, List.getElem?_cons_zero, List.getElem?_cons_succ, Option.some.injEq] at ho
   have h_ := (congrArg Oper.op ho).symm
   have e4 := hd 4 (by rw [← ho]; kernel_rfl)
   clear ho hd
   obtain ⟨r, e2, V⟩ := e4
   refine ss _ _ h_ (.int .u8 2) (.slice (some ⟨r, 0, none⟩) 2 2) rfl ((inX hsz 4 79).trans e2) (v := .agg ((mkE 2 [2, 2]).cells nilT).toArray) (R := fun w' => Below wx.heap.size wx w') (bT 2 [2, 2] wx r V (by show 2 ≤ 8; decide)) ?_
   intro w' b
   exact hK _ _ _ rfl (F.step b) (XP.step b) rfl
  ·simp only [List.getElem?_toArray, List.getElem?_cons_zero, List.getElem?_cons_succ, Option.some.injEq] at ho
   have h_ := (congrArg Oper.op ho).symm
   clear ho hd
   exact pp _ h_ (.int .i64 A) (oL h1) (hK _ _ _ rfl F (fun _ _ h => h) rfl)
  ·simp only [List.getElem?_toArray, List.getElem?_cons_zero, List.getElem?_cons_succ, Option.some.injEq] at ho
   have h_ := (congrArg Oper.op ho).symm
   have e6 := hd 6 (by rw [← ho]; kernel_rfl)
   clear ho hd
   have b := (Below.refl wx.heap.size wx).alloc (Nat.le_refl _) (.cells #[.int .i64 1, .int .i64 A] 2)
   exact bI2 _ _ h_ 1 A rfl ((inX hsz 6 81).trans e6) (hK _ _ _ rfl (F.step b) (XP.step b) ⟨_, rfl, vI2 wx 1 A⟩)
  ·simp only [List.getElem?_toArray, List.getElem?_cons_zero, List.getElem?_cons_succ, Option.some.injEq] at ho
   have h_ := (congrArg Oper.op ho).symm
   have e7 := hd 7 (by rw [← ho]; kernel_rfl)
   clear ho hd
   obtain ⟨r, e2, V⟩ := e7
   refine ss _ _ h_ (.int .u8 4) (.slice (some ⟨r, 0, none⟩) 2 2) rfl ((inX hsz 7 82).trans e2) (v := .agg ((mkE 4 [1, A]).cells nilT).toArray) (R := fun w' => Below wx.heap.size wx w') (bT 4 [1, A] wx r V (by show 2 ≤ 8; decide)) ?_
   intro w' b
   exact hK _ _ _ rfl (F.step b) (XP.step b) rfl
  ·simp only [List.getElem?_toArray, List.getElem?_cons_zero, List.getElem?_cons_succ, Option.some.injEq] at ho
   have h_ := (congrArg Oper.op ho).symm
   clear ho hd
   exact pp _ h_ (.int .i64 c) (oL h9) (hK _ _ _ rfl F (fun _ _ h => h) rfl)
  ·simp only [List.getElem?_toArray, List.getElem?_cons_zero, List.getElem?_cons_succ, Option.some.injEq] at ho
   have h_ := (congrArg Oper.op ho).symm
   clear ho hd
   exact pp _ h_ (.int .i64 o) (oL h10) (hK _ _ _ rfl F (fun _ _ h => h) rfl)
  ·simp only [List.getElem?_toArray, List.getElem?_cons_zero, List.getElem?_cons_succ, Option.some.injEq] at ho
   have h_ := (congrArg Oper.op ho).symm
   clear ho hd
   exact pp _ h_ (.int .i64 R) (oL h0) (hK _ _ _ rfl F (fun _ _ h => h) rfl)
  ·simp only [List.getElem?_toArray, List.getElem?_cons_zero, List.getElem?_cons_succ, Option.some.injEq] at ho
   have h_ := (congrArg Oper.op ho).symm
   have e9 := hd 9 (by rw [← ho]; kernel_rfl)
   have e10 := hd 10 (by rw [← ho]; kernel_rfl)
   have e11 := hd 11 (by rw [← ho]; kernel_rfl)
   clear ho hd
   have b := (Below.refl wx.heap.size wx).alloc (Nat.le_refl _) (.cells #[.int .i64 c, .int .i64 o, .int .i64 R] 2)
   exact bI3 _ _ _ h_ c o R ((inX hsz 9 84).trans e9) ((inX hsz 10 85).trans e10) ((inX hsz 11 86).trans e11) (hK _ _ _ rfl (F.step b) (XP.step b) ⟨_, rfl, vI3 wx c o R⟩)
  ·simp only [List.getElem?_toArray, List.getElem?_cons_zero, List.getElem?_cons_succ, Option.some.injEq] at ho
   have h_ := (congrArg Oper.op ho).symm
   have e12 := hd 12 (by rw [← ho]; kernel_rfl)
   clear ho hd
   obtain ⟨r, e2, V⟩ := e12
   refine ss _ _ h_ (.int .u8 11) (.slice (some ⟨r, 0, none⟩) 3 3) rfl ((inX hsz 12 87).trans e2) (v := .agg ((mkE 11 [c, o, R]).cells nilT).toArray) (R := fun w' => Below wx.heap.size wx w') (bT 11 [c, o, R] wx r V (by show 3 ≤ 8; decide)) ?_
   intro w' b
   exact hK _ _ _ rfl (F.step b) (XP.step b) rfl
  ·simp only [List.getElem?_toArray, List.getElem?_cons_zero, List.getElem?_cons_succ, Option.some.injEq] at ho
   have h_ := (congrArg Oper.op ho).symm
   have e0 := hd 0 (by rw [← ho]; kernel_rfl)
   have e1 := hd 1 (by rw [← ho]; kernel_rfl)
   have e3 := hd 3 (by rw [← ho]; kernel_rfl)
   have e5 := hd 5 (by rw [← ho]; kernel_rfl)
   have e8 := hd 8 (by rw [← ho]; kernel_rfl)
   have e13 := hd 13 (by rw [← ho]; kernel_rfl)
   clear ho hd
   have b := (Below.refl wx.heap.size wx).alloc (Nat.le_refl _) (.cells (ECS (XX c o A R u1 u2)).toArray 31)
   exact bE6 _ _ _ _ _ _ h_ (PL 1 1 c 500) u1 (PL 2 1 o 500) u2 (mkE 2 [1, 1]) nilT (mkE 2 [2, 2]) nilT (mkE 4 [1, A]) nilT (mkE 11 [c, o, R]) nilT ((inX hsz 0 75).trans e0) ((inX hsz 1 76).trans e1) ((inX hsz 3 78).trans e3) ((inX hsz 5 80).trans e5) ((inX hsz 8 83).trans e8) ((inX hsz 13 88).trans e13) (hK _ _ _ rfl (F.step b) (XP.step b) ⟨_, rfl, aa wx (ECS (XX c o A R u1 u2)) 31⟩)
  ·simp only [List.getElem?_toArray, List.getElem?_cons_zero, List.getElem?_cons_succ, Option.some.injEq] at ho
   have h_ := (congrArg Oper.op ho).symm
   have e14 := hd 14 (by rw [← ho]; kernel_rfl)
   clear ho hd
   obtain ⟨r, e2, V⟩ := e14
   exact yl _ h_ _ 6 6 ((inX hsz 14 89).trans e2) (hK _ _ _ rfl F (fun _ _ h => h) rfl)
  ·simp only [List.getElem?_toArray, List.getElem?_cons_zero, List.getElem?_cons_succ, Option.some.injEq] at ho
   have h_ := (congrArg Oper.op ho).symm
   clear ho hd
   exact pp _ h_ (.int .i64 0) (rfl) (hK _ _ _ rfl F (fun _ _ h => h) rfl)
 ·intro s wx F hs
  obtain ⟨qx, s14, XV⟩ := hs 14 (by decide)
  have s15 : s 15 = .int .i64 6 := hs 15 (by decide)
  have s16 : s 16 = .int .i64 0 := hs 16 (by decide)
  have HKf := hI_ F.k
  have P1f : Hid (OwnT wx wA.heap.size u1 [(0, 36500000)]) := F.o1
  have P2f : Hid (OwnT wx wA.heap.size u2 [(0, 36500000)]) := F.o2
  have XVf : Hid (VA wx qx (ECS (XX c o A R u1 u2)) 31) := XV
  have BBf : Hid (Below wA.heap.size wA wx) := F.b
  clear HF_8 hs F XV hsz h0 h1 h9 h10 h13 h14
  subst hfr
  unfold DX
  simp only [puts, Act.put, Nat.zero_add, Nat.reduceAdd, List.setIfInBounds_toArray, List.set_cons_zero, List.set_cons_succ]
  rw [s14, s15, s16]
  clear s14 s15 s16
  generalize s 0 = z0, s 1 = z1, s 2 = z2, s 3 = z3, s 4 = z4, s 5 = z5, s 6 = z6, s 7 = z7, s 8 = z8, s 9 = z9, s 10 = z10, s 11 = z11, s 12 = z12, s 13 = z13
  clear s
  go_wp2_with fail
  go_loopw [91] (fun i wr => ∃ k : Nat, k ≤ 6 ∧ i = .int .i64 (k : Int) ∧ Hid (BK wr wA.heap.size p (runM (bank0 100) ((XC c o A R).take k))) ∧ Hid (OwnT wr wA.heap.size u1 [(0, 36500000)]) ∧ Hid (OwnT wr wA.heap.size u2 [(0, 36500000)]) ∧ Hid (VA wr qx (ECS (XX c o A R u1 u2)) 31) ∧ Hid (Below wA.heap.size wA wr)) (fun i _ => 6 - (intOf i).toNat)
  case atStart => exact ⟨0, by omega, rfl, HKf.out, P1f.out, P2f.out, XVf.out, BBf.out⟩
  case round =>
   clear HKf P1f P2f XVf BBf
   obtain ⟨k, hk, rfl, HK, P1, P2, XV, BB⟩ := hrel
   by_cases hk6 : k = 6
   ·subst hk6
    have HKx : Hid (BK wr wA.heap.size p (X6 c o A R)) := HK.out
    clear HK P1 P2 XV HG
    have hbs3 := @rI3
    go_wp2_with fail
    refine (bT 12 [1, 2, A] _ _ (vI3 wr (1) (2) (A)) (by show 3 ≤ 8; decide)).mono ?_
    rintro r wa1 ⟨rfl, ba1⟩
    have ka1 := ((Below.refl wr.heap.size wr).alloc (Nat.le_refl _) (.cells #[.int .i64 (1), .int .i64 (2), .int .i64 (A)] 2)).trans (ba1.mono (by simp))
    have HK_a1 : Hid (BK _ wA.heap.size p _) := HKx.out.step ka1
    have BB_a1 := hI_ (BB.out.trans (ka1.mono BB.out.size))
    clear BB HKx ba1 ka1
    go_wp2_with fail
    have hX : Good12 (X6 c o A R) (xe A) ∨ refL (X6 c o A R) (xe A) true = 4 := wJ hco ⟨g1, g2⟩
    rcases hX with G | hno
    rotate_left
    ·have HNO := hI_ hno
     clear hno
     refine (gI (e := xe A) HK_a1.out (uO ⟨g1, g2⟩) (jR _) jC (f := true) ⟨fun _ => nE A, fun _ => rfl⟩ HNO.out (by decide)).mono ?_
     rintro r wb ⟨rfl, hb1, kb⟩
     have BB_b : Hid (Below wA.heap.size wA wb) := BB_a1.out.trans kb.bel
     clear hb1 kb BB_a1 HK_a1
     have bA := (Below.refl wb.heap.size wb).alloc (Nat.le_refl _) (.cells #[.int .u8 0, .int .u64 0, .int .i64 0, .int .i64 0, .int .i64 0, .int .i64 0, .int .i64 0, .int .i64 0, .int .i64 0, .int .i64 0, .slice none 0 0] 31)
     have HV := hI_ (aa wb mkZ 31)
     have BB_c := hI_ (BB_b.out.trans (bA.mono BB_b.out.size))
     have s1 := BB_b.out.size
     clear bA
     go_upto_region 20 with (refine stA rfl 31 _ _ rfl wb.heap.size (by rfl) mkZ mkZ (by rfl) 31 HV.out aj rfl (by decide) ?_; intro wc vc uc)
     have BB_d := hI_ (uc.bel BB_c.out s1)
     clear vc uc HV BB_c s1
     go_wp2_with fail
     go_ret
     exact ⟨rfl, BA.out.trans (BB_d.out.mono BA.out.size)⟩
    have HGG : Hid (Good12 (X6 c o A R) (xe A)) := G
    clear G
    refine (nO HK_a1.out HGG.out (jR _) jC).mono ?_
    rintro r wa2 ⟨u, rfl, oa2, ha2, ka2⟩
    have HK_a2 : Hid (BK _ wA.heap.size p _) := ha2
    have BB_a2 : Hid (Below wA.heap.size wA wa2) := BB_a1.out.trans ka2.bel
    have OU_2 : Hid (OwnT wa2 wa1.heap.size u (xe A).ts) := oa2
    clear BB_a1 HK_a1 ha2 ka2 oa2
    obtain ⟨g, rr, eg, hg, hr, hxe⟩ := x7 ⟨c1, c2⟩ ⟨d1, d2⟩ hco ⟨g1, g2⟩ HGG.out
    rw [eg]
    have HXE := hI_ hxe
    have HGB : Hid ((0 ≤ g ∧ g ≤ 10000000000000) ∧ (0 ≤ rr ∧ rr ≤ 1000000000000)) := ⟨hg, hr⟩
    clear hxe hg hr eg
    obtain ⟨ev, hev⟩ : ∃ ev, ev = EX (X6 c o A R) (xe A) := ⟨_, rfl⟩
    rw [← hev]
    have HEV : Hid (ev = EX (X6 c o A R) (xe A)) := hev
    clear hev
    have bA := (Below.refl wa2.heap.size wa2).alloc (Nat.le_refl _) (.cells #[.int .u8 0, .int .u64 0, .int .i64 0, .int .i64 0, .int .i64 0, .int .i64 0, .int .i64 0, .int .i64 0, .int .i64 0, .int .i64 0, .slice none 0 0] 31)
    have HV := hI_ (aa wa2 mkZ 31)
    have HK_z : Hid (BK _ wA.heap.size p _) := HK_a2.out.step bA
    have OU_z := hI_ (OU_2.out.step bA)
    have BB_z := hI_ (BB_a2.out.trans (bA.mono BB_a2.out.size))
    have s1 := BB_a2.out.size
    clear bA
    go_upto_region 20 with (refine stA rfl 31 _ _ rfl wa2.heap.size (by rfl) mkZ (ev.cells u) (by rfl) 31 HV.out aj rfl (ev.one OU_2.out.tf) ?_; intro wa3 va3 ua3)
    have HK_a3 : Hid (BK _ wA.heap.size p _) := HK_z.out.upd HV.out (by decide) ua3 (by have := H6.out; omega)
    have OU_3 := hI_ (OwnT.updV OU_z.out HV.out (by decide) ua3)
    have BB_a3 := hI_ (ua3.bel BB_z.out s1)
    have V_a3 := hI_ va3
    clear va3 ua3 HV s1 HK_z OU_z BB_z HK_a2 BB_a2 OU_2
    go_wp2_with (refine ldA rfl 31 _ rfl wa2.heap.size (by rfl) _ _ V_a3.out _ underlying31 rfl aj ?_)
    rw [HEV.out]
    refine (lN HK_a3.out HGG.out (by show (6 : Int) < _; decide) OU_3.out.tr OU_3.out.hno).mono ?_
    rintro r wa4 ⟨rfl, ha4, ka4⟩
    have HK_a4 : Hid (BK _ wA.heap.size p _) := ha4
    have BB_a4 : Hid (Below wA.heap.size wA wa4) := BB_a3.out.trans ka4.bel
    clear ha4 ka4 HK_a3 BB_a3 OU_3 V_a3 HEV HGG
    generalize nxtX (X6 c o A R) (xe A) = M7 at *
    obtain ⟨⟨a7, ea7, eb7⟩, ⟨b7, fa7, fb7⟩, p1, p2, p3⟩ := HXE.out
    have HA : Hid (acctO M7 1 = some a7 ∧ a7.bal = 0) := ⟨ea7, eb7⟩
    have HB : Hid (acctO M7 2 = some b7 ∧ b7.bal = g) := ⟨fa7, fb7⟩
    have HP : Hid (M7.b 7 c = -A * 1000000000000 ∧ M7.b 7 o = g * 1000000000000 + rr ∧ M7.b 8 o = -rr) := ⟨p1, p2, p3⟩
    clear ea7 eb7 fa7 fb7 p1 p2 p3 HXE
    go_wp2_with fail
    refine (eZ HK_a4.out HA.out.1).mono ?_
    rintro r wa5 ⟨rfl, ha5, ka5⟩
    have HK_a5 : Hid (BK _ wA.heap.size p _) := ha5
    have BB_a5 : Hid (Below wA.heap.size wA wa5) := BB_a4.out.trans ka5.bel
    clear ha5 ka5 HK_a4 BB_a4
    have bA := (Below.refl wa5.heap.size wa5).alloc (Nat.le_refl _) (.cells #[.int .i64 0, .int .i64 0, .int .i64 0, .int .i64 0, .bool false, .int .i64 0, .int .i64 0, .int .i64 0] 36)
    have HV := hI_ (aa wa5 ZA 36)
    have HK_y : Hid (BK _ wA.heap.size p _) := HK_a5.out.step bA
    have BB_y := hI_ (BB_a5.out.trans (bA.mono BB_a5.out.size))
    have s1 := BB_a5.out.size
    clear bA
    go_upto_region 25 with (refine stA rfl 36 _ _ rfl wa5.heap.size (by rfl) ZA (a7.told) (by rfl) 36 HV.out cw rfl (a7.told_one) ?_; intro wa6 va6 ua6)
    have HK_a6 : Hid (BK _ wA.heap.size p _) := HK_y.out.upd HV.out (by decide) ua6 (by have := H6.out; omega)
    have BB_a6 := hI_ (ua6.bel BB_y.out s1)
    have V1_6 : Hid (VA wa6 wa5.heap.size a7.told 36) := va6
    clear va6 ua6 HV s1 HK_y BB_y HK_a5 BB_a5
    go_wp2_with fail
    refine (eZ HK_a6.out HB.out.1).mono ?_
    rintro r wa7 ⟨rfl, ha7, ka7⟩
    have HK_a7 : Hid (BK _ wA.heap.size p _) := ha7
    have V1_7 := hI_ (ka7.va V1_6.out (by decide))
    have BB_a7 : Hid (Below wA.heap.size wA wa7) := BB_a6.out.trans ka7.bel
    clear ha7 ka7 HK_a6 BB_a6 V1_6
    have bA := (Below.refl wa7.heap.size wa7).alloc (Nat.le_refl _) (.cells #[.int .i64 0, .int .i64 0, .int .i64 0, .int .i64 0, .bool false, .int .i64 0, .int .i64 0, .int .i64 0] 36)
    have HV := hI_ (aa wa7 ZA 36)
    have HK_y : Hid (BK _ wA.heap.size p _) := HK_a7.out.step bA
    have BB_y := hI_ (BB_a7.out.trans (bA.mono BB_a7.out.size))
    have s1 := BB_a7.out.size
    have V1_y := hI_ (V1_7.out.step bA)
    have l1 := V1_7.out.lt
    clear bA
    go_upto_region 26 with (refine stA rfl 36 _ _ rfl wa7.heap.size (by rfl) ZA (b7.told) (by rfl) 36 HV.out cw rfl (b7.told_one) ?_; intro wa8 va8 ua8)
    have HK_a8 : Hid (BK _ wA.heap.size p _) := HK_y.out.upd HV.out (by decide) ua8 (by have := H6.out; omega)
    have BB_a8 := hI_ (ua8.bel BB_y.out s1)
    have V2_8 : Hid (VA wa8 wa7.heap.size b7.told 36) := va8
    have V1_8 := hI_ (V1_y.out.upd ua8 (Nat.ne_of_lt l1))
    clear va8 ua8 HV s1 HK_y BB_y HK_a7 BB_a7 V1_y V1_7 l1
    go_wp2_with fail
    refine (pG HK_a8.out).mono ?_
    rintro r wa9 ⟨⟨t, rfl, ot⟩, ha9, ka9⟩
    have V1_9 := hI_ (ka9.va V1_8.out (by decide))
    have V2_9 := hI_ (ka9.va V2_8.out (by decide))
    have BB_a9 : Hid (Below wA.heap.size wA wa9) := BB_a8.out.trans ka9.bel
    have HS_9 := hI_ ot.sl
    clear ha9 ka9 ot HK_a8 BB_a8 V1_8 V2_8
    go_wp2_with fail
    refine (cP t _ wa9 HS_9.out 7 c).mono ?_
    rintro r wa10 ⟨rfl, k10⟩
    rw [fl _ (show Va 7 c from ⟨by decide, by decide, by omega, by omega⟩), HP.out.1]
    have V1_10 := hI_ (V1_9.out.step k10)
    have V2_10 := hI_ (V2_9.out.step k10)
    have HS_10 := hI_ (HS_9.out.step k10)
    have BB_a10 := hI_ (BB_a9.out.trans (k10.mono BB_a9.out.size))
    clear V1_9 V2_9 HS_9 BB_a9 k10
    go_wp2_with fail
    refine (mV (-A) wa10 (by omega) (by omega)).mono ?_
    rintro r wa11 ⟨rfl, k11⟩
    have V1_11 := hI_ (V1_10.out.step k11)
    have V2_11 := hI_ (V2_10.out.step k11)
    have HS_11 := hI_ (HS_10.out.step k11)
    have BB_a11 := hI_ (BB_a10.out.trans (k11.mono BB_a10.out.size))
    clear V1_10 V2_10 HS_10 BB_a10 k11
    go_wp2_with fail
    refine (cP t _ wa11 HS_11.out 7 o).mono ?_
    rintro r wa12 ⟨rfl, k12⟩
    rw [fl _ (show Va 7 o from ⟨by decide, by decide, by omega, by omega⟩), HP.out.2.1]
    have V1_12 := hI_ (V1_11.out.step k12)
    have V2_12 := hI_ (V2_11.out.step k12)
    have HS_12 := hI_ (HS_11.out.step k12)
    have BB_a12 := hI_ (BB_a11.out.trans (k12.mono BB_a11.out.size))
    clear V1_11 V2_11 HS_11 BB_a11 k12
    go_wp2_with fail
    refine (cP t _ wa12 HS_12.out 8 o).mono ?_
    rintro r wa13 ⟨rfl, k13⟩
    rw [fl _ (show Va 8 o from ⟨by decide, by decide, by omega, by omega⟩), HP.out.2.2]
    have V1_13 := hI_ (V1_12.out.step k13)
    have V2_13 := hI_ (V2_12.out.step k13)
    have HS_13 := hI_ (HS_12.out.step k13)
    have BB_a13 := hI_ (BB_a12.out.trans (k13.mono BB_a12.out.size))
    clear V1_12 V2_12 HS_12 BB_a12 k13
    have hgb := HGB.out
    go_wp2_with fail
    refine (t9 (g * 1000000000000 + rr) (-rr) wa13 (by omega) (by omega)).mono ?_
    rintro r wa14 ⟨rfl, k14⟩
    have V1_14 := hI_ (V1_13.out.step k14)
    have V2_14 := hI_ (V2_13.out.step k14)
    have HS_14 := hI_ (HS_13.out.step k14)
    have BB_a14 := hI_ (BB_a13.out.trans (k14.mono BB_a13.out.size))
    clear V1_13 V2_13 HS_13 BB_a13 k14
    rw [show g * 1000000000000 + rr + -rr = g * 1000000000000 by omega]
    clear hgb
    have bA := (Below.refl wa14.heap.size wa14).alloc (Nat.le_refl _) (.cells #[.int .i64 0, .int .u64 0, .int .i64 0] 44)
    have HV := hI_ (aa wa14 zdl 44)
    have HBA : Hid (Below wa14.heap.size wa14 (wa14.alloc (.cells #[.int .i64 0, .int .u64 0, .int .i64 0] 44))) := bA
    clear bA
    go_upto_region 29 with (refine stA rfl 44 _ _ rfl wa14.heap.size (by rfl) zdl (dcs (g * 1000000000000) 12) (by rfl) 44 HV.out aU rfl (by intro v hv; simp [dcs] at hv; rcases hv with rfl | rfl | rfl <;> rfl) ?_; intro wa15 va15 ua15)
    have k15 : Below wa14.heap.size wa14 wa15 := ua15.bel HBA.out (Nat.le_refl _)
    have VD_15 : Hid (VA wa15 wa14.heap.size (dcs (g * 1000000000000) 12) 44) := va15
    clear va15 ua15 HV HBA
    have V1_15 := hI_ (V1_14.out.step k15)
    have V2_15 := hI_ (V2_14.out.step k15)
    have HS_15 := hI_ (HS_14.out.step k15)
    have BB_a15 := hI_ (BB_a14.out.trans (k15.mono BB_a14.out.size))
    clear V1_14 V2_14 HS_14 BB_a14 k15
    go_wp2_with (refine ldA rfl 44 _ rfl wa14.heap.size (by rfl) _ _ VD_15.out _ underlying44 rfl aU ?_)
    have hgb := HGB.out
    refine (mV g wa15 (by omega) (by omega)).mono ?_
    rintro r wa16 ⟨rfl, k16⟩
    clear VD_15 hgb
    have V1_16 := hI_ (V1_15.out.step k16)
    have V2_16 := hI_ (V2_15.out.step k16)
    have HS_16 := hI_ (HS_15.out.step k16)
    have BB_a16 := hI_ (BB_a15.out.trans (k16.mono BB_a15.out.size))
    clear V1_15 V2_15 HS_15 BB_a15 k16
    have c5 := V1_16.out.cell 5 (v := .int .i64 a7.bal) rfl
    have c6 := V2_16.out.cell 5 (v := .int .i64 b7.bal) rfl
    rw [HA.out.2] at c5
    rw [HB.out.2] at c6
    go_wp2_with fail
    refine (cP t _ wa16 HS_16.out 8 o).mono ?_
    rintro r wa17 ⟨rfl, k17⟩
    rw [fl _ (show Va 8 o from ⟨by decide, by decide, by omega, by omega⟩), HP.out.2.2]
    have V1_17 := hI_ (V1_16.out.step k17)
    have V2_17 := hI_ (V2_16.out.step k17)
    have HS_17 := hI_ (HS_16.out.step k17)
    have BB_a17 := hI_ (BB_a16.out.trans (k17.mono BB_a16.out.size))
    clear V1_16 V2_16 HS_16 BB_a16 k17
    have hgb := HGB.out
    go_wp2_with fail
    refine (qr (-rr) wa17 (by omega)).mono ?_
    rintro r wa18 ⟨⟨n1, rfl, y1⟩, k18⟩
    have V1_18 := hI_ (V1_17.out.step k18)
    have V2_18 := hI_ (V2_17.out.step k18)
    have HS_18 := hI_ (HS_17.out.step k18)
    have BB_a18 := hI_ (BB_a17.out.trans (k18.mono BB_a17.out.size))
    clear V1_17 V2_17 HS_17 BB_a17 k18
    go_wp2_with fail
    refine (uk n1 (-rr) wa18 y1).mono ?_
    rintro r wa19 ⟨rfl, k19⟩
    have hq : sgn (-rr) ≤ 0 := wt (by omega)
    clear y1 hgb
    generalize sgn (-rr) = q at *
    have V1_19 := hI_ (V1_18.out.step k19)
    have V2_19 := hI_ (V2_18.out.step k19)
    have HS_19 := hI_ (HS_18.out.step k19)
    have BB_a19 := hI_ (BB_a18.out.trans (k19.mono BB_a18.out.size))
    clear V1_18 V2_18 HS_18 BB_a18 k19
    go_wp2_with fail
    go_ret
    exact ⟨rfl, BA.out.trans (BB_a19.out.mono BA.out.size)⟩
   have hk' : k < 6 := by omega
   obtain ⟨x, hx, hy, ho⟩ := wR (c := c) (o := o) (A := A) (R := R) P1.out P2.out hk'
   have HX := hI_ hx
   have HY := hI_ hy
   have HO := hI_ ho
   have HGk := hI_ (HG.out k x.1 hy)
   have d1' : (0 : Int) ≤ (k : Int) := by omega
   have d2' : (k : Int) < 6 := by omega
   have bA := (Below.refl wr.heap.size wr).alloc (Nat.le_refl _) (.cells #[.int .u8 0, .int .u64 0, .int .i64 0, .int .i64 0, .int .i64 0, .int .i64 0, .int .i64 0, .int .i64 0, .int .i64 0, .int .i64 0, .slice none 0 0] 31)
   have HV := hI_ (aa wr mkZ 31)
   have HK_1 := hI_ (HK.out.step bA)
   have P1_1 := hI_ (P1.out.step bA)
   have P2_1 := hI_ (P2.out.step bA)
   have HO_1 := hI_ (HO.out.step bA)
   have XV_1 := hI_ (XV.out.step bA)
   have BB_1 := hI_ (BB.out.trans (bA.mono BB.out.size))
   have s1 := BB.out.size
   clear hx hy ho bA
   go_upto_region 15 with (first | (refine wpList_load_mid rfl 31 _ rfl qx (k * 11) (by rfl) (x.1.cells x.2) _ (fun j u hj => XV.out.cell (k * 11 + j) (je _ k x HX.out j u hj)) underlying31 rfl aj ?_) | (refine stA rfl 31 _ _ rfl wr.heap.size (by rfl) mkZ (x.1.cells x.2) (by rfl) 31 HV.out aj rfl (x.1.one HO.out.tf) ?_; intro w2 v2 u2))
   have HK_2 := hI_ (HK_1.out.upd HV.out (by decide) u2 (by have := H6.out; omega))
   have P1_2 := hI_ (OwnT.updV P1_1.out HV.out (by decide) u2)
   have P2_2 := hI_ (OwnT.updV P2_1.out HV.out (by decide) u2)
   have HO_2 := hI_ (OwnT.updV HO_1.out HV.out (by decide) u2)
   have XV_2 := hI_ (XV_1.out.upd u2 (Nat.ne_of_lt XV.out.lt))
   have BB_2 := hI_ (u2.bel BB_1.out s1)
   have HV_2 := hI_ v2
   clear v2 u2 HV HK_1 P1_1 P2_1 HO_1 XV_1 BB_1 XV P1 P2 HO BB HK
   go_wp2_with (refine ldA rfl 31 _ rfl wr.heap.size (by rfl) _ _ HV_2.out _ underlying31 rfl aj ?_)
   refine (mG HK_2.out HGk.out HO_2.out.tr HO_2.out.hno).mono ?_
   rintro r w3 ⟨v, rfl, ov, h1, k3⟩
   have HK_3 : Hid (BK w3 wA.heap.size p (runM (bank0 100) ((XC c o A R).take k))) := h1
   have P1_3 := hI_ (k3.ot P1_2.out)
   have P2_3 := hI_ (k3.ot P2_2.out)
   have XV_3 := hI_ (k3.va XV_2.out (by decide))
   have BB_3 : Hid (Below wA.heap.size wA w3) := BB_2.out.trans k3.bel
   have OV_3 : Hid (OwnT w3 w2.heap.size v x.1.ts) := ov
   clear h1 k3 ov HK_2 P1_2 P2_2 HO_2 XV_2 HV_2
   have bB := (Below.refl w3.heap.size w3).alloc (Nat.le_refl _) (.cells #[.int .u8 0, .int .u64 0, .int .i64 0, .int .i64 0, .int .i64 0, .int .i64 0, .int .i64 0, .int .i64 0, .int .i64 0, .int .i64 0, .slice none 0 0] 31)
   have HV := hI_ (aa w3 mkZ 31)
   have HK_4 := hI_ (HK_3.out.step bB)
   have P1_4 := hI_ (P1_3.out.step bB)
   have P2_4 := hI_ (P2_3.out.step bB)
   have OV_4 := hI_ (OV_3.out.step bB)
   have XV_4 := hI_ (XV_3.out.step bB)
   have BB_4 := hI_ (BB_3.out.trans (bB.mono BB_3.out.size))
   have s3' := BB_3.out.size
   have x3 := XV_3.out.lt
   clear bB
   go_upto_region 16 with (refine stA rfl 31 _ _ rfl w3.heap.size (by rfl) mkZ (x.1.cells v) (by rfl) 31 HV.out aj rfl (x.1.one OV_3.out.tf) ?_; intro w5 v5 u5)
   have HK_5 := hI_ (HK_4.out.upd HV.out (by decide) u5 (by have := H6.out; omega))
   have P1_5 := hI_ (OwnT.updV P1_4.out HV.out (by decide) u5)
   have P2_5 := hI_ (OwnT.updV P2_4.out HV.out (by decide) u5)
   have OV_5 := hI_ (OwnT.updV OV_4.out HV.out (by decide) u5)
   have XV_5 := hI_ (XV_4.out.upd u5 (Nat.ne_of_lt x3))
   have BB_5 := hI_ (u5.bel BB_4.out s3')
   have HV_5 := hI_ v5
   clear v5 u5 HV HK_4 P1_4 P2_4 OV_4 XV_4 BB_4 HK_3 P1_3 P2_3 OV_3 XV_3 BB_3 x3 BB_2
   go_wp2_with (refine yq (by rfl) 31 _ rfl w3.heap.size (by rfl) _ _ HV_5.out _ underlying31 rfl aj ?_)
   refine (ke HK_5.out HGk.out (by rw [kX, List.length_take]; show (0 : Int) + _ < _; omega) OV_5.out.tr OV_5.out.hno).mono ?_
   rintro r w6 ⟨rfl, h1, k6⟩
   have HK_6 : Hid (BK w6 wA.heap.size p (runM (bank0 100) ((XC c o A R).take (k + 1)))) := by rw [j6 _ _ HY.out]; exact h1
   have P1_6 := hI_ (k6.ot P1_5.out)
   have P2_6 := hI_ (k6.ot P2_5.out)
   have XV_6 := hI_ (k6.va XV_5.out (by decide))
   have BB_6 : Hid (Below wA.heap.size wA w6) := BB_5.out.trans k6.bel
   clear h1 k6
   go_wp2_with fail
   exact ⟨⟨k + 1, by omega, by go_num, HK_6.out, P1_6.out, P2_6.out, XV_6.out, BB_6.out⟩, by simp [intOf]; omega⟩
end Go.Proofs.YtjkiplndbcmmbaaGreatDoor