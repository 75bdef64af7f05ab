/- texts of the model: Mra Mrb -/
import Derived.Test.YtjkiplndbcmmbaaGreatDoorX43
import Derived.Test.YtjkiplndbcmmbaaGreatDoorX42
set_option linter.unusedVariables false
set_option linter.unusedSimpArgs false
set_option maxHeartbeats 16000000
namespace Go.Proofs.YtjkiplndbcmmbaaGreatDoor
open Go.RowKit Go.Maps
def pa1 (b g : Int) (hs : List (Int × Int)) : PA := ⟨1, 1, 0, 1, true, b, g, 0, hs⟩
theorem uT {M : PM} {l m b g s : Int} {hs : List (Int × Int)} {a2 a3 : PA} (h : S3 M l m (pa1 b g hs) a2 a3 s) (h0 : s < 1000) (n : Int) {c : Int} (hc : b + n = c) : S3 (nxt M (mkE 4 [1, n])) l m (pa1 c g hs) a2 a3 (s + 1) := by
 subst hc
 exact h.next rfl (by show 4 ≠ 1; decide) h0 (by show onA M.al 1 (addB n) = _; rw [h.chg1]; rfl) rfl h.i2 h.i3
theorem ql {M : PM} {l m b g s : Int} {hs : List (Int × Int)} {a2 a3 : PA} (h : S3 M l m (pa1 b g hs) a2 a3 s) (h0 : s < 1000) (n : Int) {c : Int} (hc : b - n = c) : S3 (nxt M (mkE 5 [1, n])) l m (pa1 c g hs) a2 a3 (s + 1) := by
 subst hc
 exact h.next rfl (by show 5 ≠ 1; decide) h0 (by show onA M.al 1 (addB (-n)) = _; rw [h.chg1]; rfl) rfl h.i2 h.i3
theorem sG {M : PM} {l m b g s : Int} {hs : List (Int × Int)} {a2 a3 : PA} (h : S3 M l m (pa1 b g hs) a2 a3 s) (h0 : s < 1000) (k n : Int) {c : Int} (hc : g + n = c) : S3 (nxt M (mkE 7 [1, k, n])) l m (pa1 b c ((k, n) :: hs)) a2 a3 (s + 1) := by
 subst hc
 exact h.next rfl (by show 7 ≠ 1; decide) h0 (by show onA M.al 1 (fun a => heldA a k n) = _; rw [h.chg1]; rfl) rfl h.i2 h.i3
theorem mC {M : PM} {l m b g s : Int} {hs : List (Int × Int)} {a2 a3 : PA} (h : S3 M l m (pa1 b g hs) a2 a3 s) (h0 : s < 1000) (k z : Int) (hz : (lkA hs k).getD 0 = z) {c : Int} (hc : g - z = c) {hs' : List (Int × Int)} (hh : (hs.filter fun p => decide (p.1 ≠ k)) = hs') : S3 (nxt M (mkE 8 [1, k])) l m (pa1 b c hs') a2 a3 (s + 1) := by
 subst hc hh hz
 exact h.next rfl (by show 8 ≠ 1; decide) h0 (by show onA M.al 1 (fun a => freedA a k ((lkA a.hs k).getD 0)) = _; rw [h.chg1]; rfl) rfl h.i2 h.i3
theorem vR {M : PM} {l m b g s : Int} {hs : List (Int × Int)} {a2 a3 : PA} (h : S3 M l m (pa1 b g hs) a2 a3 s) {n : Int} (h1 : 1 ≤ n) (h2 : n ≤ 10000000000000) (h3 : -10000000000000 ≤ b + n) (h4 : b + n ≤ 10000000000000) : Good M (mkE 4 [1, n]) :=
 ck h.keys h.uw (by decide) (fY di ⟨by omega, by omega⟩) (by show 2 ≤ ct.getD 4 0; decide) (by rw [iY h.a1 rfl rfl h1 h2, fl h3 h4]; rfl)
theorem uh {M : PM} {l m b g s : Int} {hs : List (Int × Int)} {a2 a3 : PA} (h : S3 M l m (pa1 b g hs) a2 a3 s) {n : Int} (h1 : 1 ≤ n) (h2 : n ≤ 10000000000000) (h3 : n ≤ b + l - g) : Good M (mkE 5 [1, n]) :=
 ck h.keys h.uw (by decide) (fY di ⟨by omega, by omega⟩) (by show 2 ≤ ct.getD 5 0; decide) (by rw [gu h.a1 rfl rfl h1 h2, gB (by rw [h.sp1 rfl]; exact h3)]; rfl)
theorem oY {b g : Int} {hs : List (Int × Int)} {k : Int} (h : lkA hs k = none) : hasO (some (pa1 b g hs)) k = false := by show ((lkA hs k).getD 0 != 0) = false; rw [h]; rfl
theorem rD {b g : Int} {hs : List (Int × Int)} {k z : Int} (h : lkA hs k = some z) (hz : z ≠ 0) : hasO (some (pa1 b g hs)) k = true := by show ((lkA hs k).getD 0 != 0) = true; rw [h]; simpa using hz
theorem j9 {b g : Int} {hs : List (Int × Int)} (h : hs.length < 64) : fullO (some (pa1 b g hs)) = false := by show decide ((64 : Int) ≤ (hs.length : Int)) = false; rw [decide_eq_false_iff_not]; omega
theorem ub {M : PM} {l m b g s : Int} {hs : List (Int × Int)} {a2 a3 : PA} (h : S3 M l m (pa1 b g hs) a2 a3 s) {k n : Int} (k1 : 1 ≤ k) (k2 : k ≤ 1000000000) (h1 : 1 ≤ n) (h2 : n ≤ 10000000000000) (h3 : n ≤ b + l - g) (h4 : lkA hs k = none) (h5 : hs.length < 64) : Good M (mkE 7 [1, k, n]) :=
 ck h.keys h.uw (by decide) (qO di ⟨by omega, by omega⟩ ⟨by omega, by omega⟩) (by show 3 ≤ ct.getD 7 0; decide) (by rw [kO h.a1 rfl rfl k1 k2 h1 h2, gB (by rw [h.sp1 rfl]; exact h3), oY h4, j9 h5]; rfl)
theorem oX {M : PM} {l m b g s : Int} {hs : List (Int × Int)} {a2 a3 : PA} (h : S3 M l m (pa1 b g hs) a2 a3 s) {k z : Int} (k1 : 1 ≤ k) (k2 : k ≤ 1000000000) (hz : (lkA hs k).getD 0 = z) (h0 : z ≠ 0) : Good M (mkE 8 [1, k]) :=
 ck h.keys h.uw (by decide) (fY di ⟨by omega, by omega⟩) (by show 2 ≤ ct.getD 8 0; decide) (by rw [o8 h.a1 rfl rfl k1 k2, show noO (some (pa1 b g hs)) k = false from by show ((lkA hs k).getD 0 == 0) = false; rw [hz]; simpa using h0]; rfl)
theorem pK {M : PM} {l m b g s : Int} {hs : List (Int × Int)} {a2 a3 : PA} (h : S3 M l m (pa1 b g hs) a2 a3 s) {k n : Int} (k1 : 1 ≤ k) (k2 : k ≤ 1000000000) (h1 : 1 ≤ n) (h2 : n ≤ 10000000000000) (h3 : b + l - g < n) (h4 : lkA hs k = none) (h5 : hs.length < 64) : refL M (mkE 7 [1, k, n]) true = 13 := by
 rw [bP h.keys h.uw (by decide), kO h.a1 rfl rfl k1 k2 h1 h2, cJ (by rw [h.sp1 rfl]; exact h3), oY h4, j9 h5]
 rfl
theorem sy {M : PM} {l m b g s : Int} {hs : List (Int × Int)} {a2 a3 : PA} (h : S3 M l m (pa1 b g hs) a2 a3 s) {k n z : Int} (k1 : 1 ≤ k) (k2 : k ≤ 1000000000) (h1 : 1 ≤ n) (h2 : n ≤ 10000000000000) (h4 : lkA hs k = some z) (hz : z ≠ 0) (h5 : hs.length < 64) : refL M (mkE 7 [1, k, n]) true = 8 := by
 rw [bP h.keys h.uw (by decide), kO h.a1 rfl rfl k1 k2 h1 h2, rD h4 hz, j9 h5]
 cases fundsO M (some (pa1 b g hs)) n <;> rfl
theorem lE {M : PM} {l m b g s : Int} {hs : List (Int × Int)} {a2 a3 : PA} (h : S3 M l m (pa1 b g hs) a2 a3 s) {n : Int} (h1 : 1 ≤ n) (h2 : n ≤ 10000000000000) (h3 : b + l - g < n) : refL M (mkE 5 [1, n]) true = 13 := by
 rw [bP h.keys h.uw (by decide), gu h.a1 rfl rfl h1 h2, cJ (by rw [h.sp1 rfl]; exact h3)]
 rfl
theorem mw {M : PM} {l m b g s : Int} {hs : List (Int × Int)} {a2 a3 : PA} (h : S3 M l m (pa1 b g hs) a2 a3 s) {k : Int} (k1 : 1 ≤ k) (k2 : k ≤ 1000000000) (h4 : lkA hs k = none) : refL M (mkE 8 [1, k]) true = 7 := by
 rw [bP h.keys h.uw (by decide), o8 h.a1 rfl rfl k1 k2, show noO (some (pa1 b g hs)) k = true from by show ((lkA hs k).getD 0 == 0) = true; rw [h4]; rfl]
 rfl
theorem ok2 (op : Nat) (ho : op ≤ 255) {a b : Int} (h1 : I64 a) (h2 : I64 b) : (mkE op [a, b]).ok := dQ ho (fY h1 h2)
theorem ok3 (op : Nat) (ho : op ≤ 255) {a b c : Int} (h1 : I64 a) (h2 : I64 b) (h3 : I64 c) : (mkE op [a, b, c]).ok := dQ ho (qO h1 h2 h3)
set_option maxRecDepth 100000 in
theorem spends_walk (w : World) (T : TBL w) (h6 : 6 ≤ w.heap.size) (x y z : Int) : Calls Tryz.prog 3 #[.int .i64 x, .int .i64 y, .int .i64 z] w fun r w' => r = .returned (.bool true) ∧ Below w.heap.size w w' := by
 have HTT := hI_ T
 have H6w := hI_ h6
 clear T h6
 go_enter Tryz.func3, Tryz.ntmps3
 have hbs1 := @rI1
 have hbs2 := @rI2
 have hbs3 := @rI3
 have hbs4 := @rI4
 go_wp2_with fail
 refine (dZ w HTT.out H6w.out).mono ?_
 rintro r wA ⟨rfl, bA⟩
 have BA : Hid (Below w.heap.size w wA) := bA
 have H6 : Hid (6 ≤ wA.heap.size) := Nat.le_trans H6w.out bA.size
 have HTA : Hid (TBL wA) := HTT.out.step bA
 clear bA
 have a1 := um x 1000000 (by decide) (by decide)
 have a2 := um y 1000000 (by decide) (by decide)
 go_wp2_with fail
 generalize wrap64 ((IntKind.u64.wrap x).tmod 1000000) = l at *
 generalize wrap64 ((IntKind.u64.wrap y).tmod 1000000) = A0 at *
 try rw [show wrap64 (1 + A0) = 1 + A0 by unfold wrap64; omega]
 obtain ⟨A, hA⟩ : ∃ A, A = 1 + A0 := ⟨_, rfl⟩
 rw [← hA]
 have g1 : 0 ≤ l := a1.1
 have g2 : l ≤ 999999 := by omega
 have g3 : 1 ≤ A := by omega
 have g4 : A ≤ 1000000 := by omega
 clear a1 a2 hA
 refine (gc wA HTA.out H6.out l 0 ⟨g1, by omega⟩ (by decide)).mono ?_
 rintro r w0 ⟨p, rfl, h0, b0⟩
 have HS := mx l 0
 have HK_0 : Hid (BK w0 wA.heap.size p (LB l 0)) := h0
 have BB_0 := hI_ b0
 have HS_0 : Hid (S3 (LB l 0) l 0 (pa1 0 0 []) (AO 2 0 2) (AO 3 1 1) 6) := HS
 clear h0 b0 HS
 generalize LB l 0 = M0 at *
 go_wp2_with fail
 refine (ap 4 [1, A] _ _ (vI2 w0 (1) (A)) (by show 2 ≤ 8; decide)).mono ?_
 rintro r wa1 ⟨rfl, ba1⟩
 have ka1 := ((Below.refl w0.heap.size w0).alloc (Nat.le_refl _) (.cells #[.int .i64 (1), .int .i64 (A)] 2)).trans (ba1.mono (by simp))
 have HK_a1 : Hid (BK _ wA.heap.size p _) := HK_0.out.step ka1
 have BB_a1 := hI_ (BB_0.out.trans (ka1.mono BB_0.out.size))
 clear  BB_0 HK_0
 clear ba1 ka1
 go_wp2_with fail
 refine (bj HK_a1.out (vR HS_0.out g3 (by omega) (by omega) (by omega)) (by rw [HS_0.out.seq]; decide) (az _) ay).mono ?_
 rintro r wa2 ⟨rfl, ha2, ka2⟩
 have HK_a2 : Hid (BK _ wA.heap.size p _) := ha2
 have BB_a2 : Hid (Below wA.heap.size wA wa2) := BB_a1.out.trans ka2.bel
 clear  BB_a1 HK_a1
 clear ha2 ka2
 have HS_1 := hI_ (uT HS_0.out (by decide) A (Int.zero_add A))
 generalize nxt M0 (mkE 4 [1, A]) = M1 at *
 clear HS_0
 go_upto_region 9 with fail
 obtain ⟨N, hN⟩ : ∃ N, N = A + l := ⟨_, rfl⟩
 rw [← hN]
 have g5 : 1 ≤ N := by omega
 have g6 : N ≤ 1999999 := by omega
 have HNE : Hid (N = A + l) := hN
 clear hN
 have a3 := um z N (by omega) (by omega)
 go_upto_region 10 with fail
 try rw [show IntKind.u64.wrap N = N by show N % 2 ^ 64 = N; omega]
 generalize wrap64 ((IntKind.u64.wrap z).tmod N) = H0 at *
 try rw [show wrap64 (1 + H0) = 1 + H0 by unfold wrap64; omega]
 obtain ⟨G, hG⟩ : ∃ G, G = 1 + H0 := ⟨_, rfl⟩
 rw [← hG]
 have g7 : 1 ≤ G := by omega
 have g8 : G ≤ N := by omega
 clear a3 hG
 go_wp2_with fail
 refine (ap 7 [1, 7, N + 1] _ _ (vI3 wa2 (1) (7) (N + 1)) (by show 3 ≤ 8; decide)).mono ?_
 rintro r wa3 ⟨rfl, ba3⟩
 have ka3 := ((Below.refl wa2.heap.size wa2).alloc (Nat.le_refl _) (.cells #[.int .i64 (1), .int .i64 (7), .int .i64 (N + 1)] 2)).trans (ba3.mono (by simp))
 have HK_a3 : Hid (BK _ wA.heap.size p _) := HK_a2.out.step ka3
 have BB_a3 := hI_ (BB_a2.out.trans (ka3.mono BB_a2.out.size))
 clear  BB_a2 HK_a2
 clear ba3 ka3
 go_wp2_with fail
 refine (aD HK_a3.out (ok3 7 (by decide) ⟨by omega, by omega⟩ ⟨by omega, by omega⟩ ⟨by omega, by omega⟩) (az _) ay (aM (by decide) (by decide) (by show 3 ≤ ct.getD 7 0; decide)) (pK HS_1.out (by decide) (by decide) (by omega) (by omega) (by have := HNE.out; omega) rfl (by decide)) (by decide)).mono ?_
 rintro r wa4 ⟨rfl, ha4, ka4⟩
 have HK_a4 : Hid (BK _ wA.heap.size p _) := ha4
 have BB_a4 : Hid (Below wA.heap.size wA wa4) := BB_a3.out.trans ka4.bel
 clear  BB_a3 HK_a3
 clear ha4 ka4
 go_wp2_with fail
 refine (ap 7 [1, 7, G] _ _ (vI3 wa4 (1) (7) (G)) (by show 3 ≤ 8; decide)).mono ?_
 rintro r wa5 ⟨rfl, ba5⟩
 have ka5 := ((Below.refl wa4.heap.size wa4).alloc (Nat.le_refl _) (.cells #[.int .i64 (1), .int .i64 (7), .int .i64 (G)] 2)).trans (ba5.mono (by simp))
 have HK_a5 : Hid (BK _ wA.heap.size p _) := HK_a4.out.step ka5
 have BB_a5 := hI_ (BB_a4.out.trans (ka5.mono BB_a4.out.size))
 clear  BB_a4 HK_a4
 clear ba5 ka5
 go_wp2_with fail
 refine (bj HK_a5.out (ub HS_1.out (by decide) (by decide) g7 (by omega) (by have := HNE.out; omega) rfl (by decide)) (by rw [HS_1.out.seq]; decide) (az _) ay).mono ?_
 rintro r wa6 ⟨rfl, ha6, ka6⟩
 have HK_a6 : Hid (BK _ wA.heap.size p _) := ha6
 have BB_a6 : Hid (Below wA.heap.size wA wa6) := BB_a5.out.trans ka6.bel
 clear  BB_a5 HK_a5
 clear ha6 ka6
 have HS_2 := hI_ (sG HS_1.out (by decide) 7 G (Int.zero_add G))
 generalize nxt M1 (mkE 7 [1, 7, G]) = M2 at *
 clear HS_1
 go_wp2_with fail
 refine (ap 7 [1, 7, 1] _ _ (vI3 wa6 (1) (7) (1)) (by show 3 ≤ 8; decide)).mono ?_
 rintro r wa7 ⟨rfl, ba7⟩
 have ka7 := ((Below.refl wa6.heap.size wa6).alloc (Nat.le_refl _) (.cells #[.int .i64 (1), .int .i64 (7), .int .i64 (1)] 2)).trans (ba7.mono (by simp))
 have HK_a7 : Hid (BK _ wA.heap.size p _) := HK_a6.out.step ka7
 have BB_a7 := hI_ (BB_a6.out.trans (ka7.mono BB_a6.out.size))
 clear  BB_a6 HK_a6
 clear ba7 ka7
 go_wp2_with fail
 refine (aD HK_a7.out (ok3 7 (by decide) ⟨by omega, by omega⟩ ⟨by omega, by omega⟩ ⟨by omega, by omega⟩) (az _) ay (aM (by decide) (by decide) (by show 3 ≤ ct.getD 7 0; decide)) (sy HS_2.out (z := G) (by decide) (by decide) (by decide) (by decide) rfl (by omega) (by show 1 < 64; decide)) (by decide)).mono ?_
 rintro r wa8 ⟨rfl, ha8, ka8⟩
 have HK_a8 : Hid (BK _ wA.heap.size p _) := ha8
 have BB_a8 : Hid (Below wA.heap.size wA wa8) := BB_a7.out.trans ka8.bel
 clear  BB_a7 HK_a7
 clear ha8 ka8
 go_wp2_with fail
 refine (ap 5 [1, N - G + 1] _ _ (vI2 wa8 (1) (N - G + 1)) (by show 2 ≤ 8; decide)).mono ?_
 rintro r wa9 ⟨rfl, ba9⟩
 have ka9 := ((Below.refl wa8.heap.size wa8).alloc (Nat.le_refl _) (.cells #[.int .i64 (1), .int .i64 (N - G + 1)] 2)).trans (ba9.mono (by simp))
 have HK_a9 : Hid (BK _ wA.heap.size p _) := HK_a8.out.step ka9
 have BB_a9 := hI_ (BB_a8.out.trans (ka9.mono BB_a8.out.size))
 clear  BB_a8 HK_a8
 clear ba9 ka9
 go_wp2_with fail
 refine (aD HK_a9.out (ok2 5 (by decide) ⟨by omega, by omega⟩ ⟨by omega, by omega⟩) (az _) ay (aM (by decide) (by decide) (by show 2 ≤ ct.getD 5 0; decide)) (lE HS_2.out (by omega) (by omega) (by have := HNE.out; omega)) (by decide)).mono ?_
 rintro r wa10 ⟨rfl, ha10, ka10⟩
 have HK_a10 : Hid (BK _ wA.heap.size p _) := ha10
 have BB_a10 : Hid (Below wA.heap.size wA wa10) := BB_a9.out.trans ka10.bel
 clear  BB_a9 HK_a9
 clear ha10 ka10
 by_cases hGN : G < N
 ·go_wp2_with fail
  refine (ap 5 [1, N - G] _ _ (vI2 wa10 (1) (N - G)) (by show 2 ≤ 8; decide)).mono ?_
  rintro r wa11 ⟨rfl, ba11⟩
  have ka11 := ((Below.refl wa10.heap.size wa10).alloc (Nat.le_refl _) (.cells #[.int .i64 (1), .int .i64 (N - G)] 2)).trans (ba11.mono (by simp))
  have HK_a11 : Hid (BK _ wA.heap.size p _) := HK_a10.out.step ka11
  have BB_a11 := hI_ (BB_a10.out.trans (ka11.mono BB_a10.out.size))
  clear  BB_a10 HK_a10
  clear ba11 ka11
  go_wp2_with fail
  refine (bj HK_a11.out (uh HS_2.out (by omega) (by omega) (by have := HNE.out; omega)) (by rw [HS_2.out.seq]; decide) (az _) ay).mono ?_
  rintro r wa12 ⟨rfl, ha12, ka12⟩
  have HK_a12 : Hid (BK _ wA.heap.size p _) := ha12
  have BB_a12 : Hid (Below wA.heap.size wA wa12) := BB_a11.out.trans ka12.bel
  clear  BB_a11 HK_a11
  clear ha12 ka12
  have HS_3 := hI_ (ql HS_2.out (by decide) (N - G) (c := G - l) (by have := HNE.out; omega))
  generalize nxt M2 (mkE 5 [1, N - G]) = M3 at *
  clear HS_2
  go_wp2_with fail
  refine (ap 5 [1, 1] _ _ (vI2 wa12 (1) (1)) (by show 2 ≤ 8; decide)).mono ?_
  rintro r wa13 ⟨rfl, ba13⟩
  have ka13 := ((Below.refl wa12.heap.size wa12).alloc (Nat.le_refl _) (.cells #[.int .i64 (1), .int .i64 (1)] 2)).trans (ba13.mono (by simp))
  have HK_a13 : Hid (BK _ wA.heap.size p _) := HK_a12.out.step ka13
  have BB_a13 := hI_ (BB_a12.out.trans (ka13.mono BB_a12.out.size))
  clear  BB_a12 HK_a12
  clear ba13 ka13
  go_wp2_with fail
  refine (aD HK_a13.out (ok2 5 (by decide) ⟨by omega, by omega⟩ ⟨by omega, by omega⟩) (az _) ay (aM (by decide) (by decide) (by show 2 ≤ ct.getD 5 0; decide)) (lE HS_3.out (by decide) (by decide) (by have := HNE.out; omega)) (by decide)).mono ?_
  rintro r wa14 ⟨rfl, ha14, ka14⟩
  have HK_a14 : Hid (BK _ wA.heap.size p _) := ha14
  have BB_a14 : Hid (Below wA.heap.size wA wa14) := BB_a13.out.trans ka14.bel
  clear  BB_a13 HK_a13
  clear ha14 ka14
  go_wp2_with fail
  refine (ap 8 [1, 8] _ _ (vI2 wa14 (1) (8)) (by show 2 ≤ 8; decide)).mono ?_
  rintro r wa15 ⟨rfl, ba15⟩
  have ka15 := ((Below.refl wa14.heap.size wa14).alloc (Nat.le_refl _) (.cells #[.int .i64 (1), .int .i64 (8)] 2)).trans (ba15.mono (by simp))
  have HK_a15 : Hid (BK _ wA.heap.size p _) := HK_a14.out.step ka15
  have BB_a15 := hI_ (BB_a14.out.trans (ka15.mono BB_a14.out.size))
  clear  BB_a14 HK_a14
  clear ba15 ka15
  go_wp2_with fail
  refine (aD HK_a15.out (ok2 8 (by decide) ⟨by omega, by omega⟩ ⟨by omega, by omega⟩) (az _) ay (aM (by decide) (by decide) (by show 2 ≤ ct.getD 8 0; decide)) (mw HS_3.out (by decide) (by decide) rfl) (by decide)).mono ?_
  rintro r wa16 ⟨rfl, ha16, ka16⟩
  have HK_a16 : Hid (BK _ wA.heap.size p _) := ha16
  have BB_a16 : Hid (Below wA.heap.size wA wa16) := BB_a15.out.trans ka16.bel
  clear  BB_a15 HK_a15
  clear ha16 ka16
  go_wp2_with fail
  refine (ap 8 [1, 7] _ _ (vI2 wa16 (1) (7)) (by show 2 ≤ 8; decide)).mono ?_
  rintro r wa17 ⟨rfl, ba17⟩
  have ka17 := ((Below.refl wa16.heap.size wa16).alloc (Nat.le_refl _) (.cells #[.int .i64 (1), .int .i64 (7)] 2)).trans (ba17.mono (by simp))
  have HK_a17 : Hid (BK _ wA.heap.size p _) := HK_a16.out.step ka17
  have BB_a17 := hI_ (BB_a16.out.trans (ka17.mono BB_a16.out.size))
  clear  BB_a16 HK_a16
  clear ba17 ka17
  go_wp2_with fail
  refine (bj HK_a17.out (oX HS_3.out (z := G) (by decide) (by decide) rfl (by omega)) (by rw [HS_3.out.seq]; decide) (az _) ay).mono ?_
  rintro r wa18 ⟨rfl, ha18, ka18⟩
  have HK_a18 : Hid (BK _ wA.heap.size p _) := ha18
  have BB_a18 : Hid (Below wA.heap.size wA wa18) := BB_a17.out.trans ka18.bel
  clear  BB_a17 HK_a17
  clear ha18 ka18
  have HS_4 := hI_ (mC HS_3.out (by decide) 7 G rfl (Int.sub_self G) (hs' := []) rfl)
  generalize nxt M3 (mkE 8 [1, 7]) = M4 at *
  clear HS_3
  go_wp2_with fail
  refine (ap 5 [1, G] _ _ (vI2 wa18 (1) (G)) (by show 2 ≤ 8; decide)).mono ?_
  rintro r wa19 ⟨rfl, ba19⟩
  have ka19 := ((Below.refl wa18.heap.size wa18).alloc (Nat.le_refl _) (.cells #[.int .i64 (1), .int .i64 (G)] 2)).trans (ba19.mono (by simp))
  have HK_a19 : Hid (BK _ wA.heap.size p _) := HK_a18.out.step ka19
  have BB_a19 := hI_ (BB_a18.out.trans (ka19.mono BB_a18.out.size))
  clear  BB_a18 HK_a18
  clear ba19 ka19
  go_wp2_with fail
  refine (bj HK_a19.out (uh HS_4.out g7 (by omega) (by have := HNE.out; omega)) (by rw [HS_4.out.seq]; decide) (az _) ay).mono ?_
  rintro r wa20 ⟨rfl, ha20, ka20⟩
  have HK_a20 : Hid (BK _ wA.heap.size p _) := ha20
  have BB_a20 : Hid (Below wA.heap.size wA wa20) := BB_a19.out.trans ka20.bel
  clear  BB_a19 HK_a19
  clear ha20 ka20
  have HS_5 := hI_ (ql HS_4.out (by decide) G (c := -l) (by have := HNE.out; omega))
  generalize nxt M4 (mkE 5 [1, G]) = M5 at *
  clear HS_4
  go_wp2_with fail
  refine (dw HK_a20.out HS_5.out.a1).mono ?_
  rintro r wa21 ⟨rfl, ha21, ka21⟩
  have HK_a21 : Hid (BK _ wA.heap.size p _) := ha21
  have BB_a21 : Hid (Below wA.heap.size wA wa21) := BB_a20.out.trans ka21.bel
  clear  BB_a20 HK_a20
  clear ha21 ka21
  have bA := (Below.refl wa21.heap.size wa21).alloc (Nat.le_refl _) (.cells #[.int .i64 0, .int .i64 0, .int .i64 0, .int .i64 0, .bool false, .int .i64 0, .int .i64 0, .int .i64 0] 36)
  have HV := hI_ (aa wa21 ZA 36)
  have HK_z : Hid (BK _ wA.heap.size p _) := HK_a21.out.step bA
  have BB_z := hI_ (BB_a21.out.trans (bA.mono BB_a21.out.size))
  have s1 := BB_a21.out.size
  clear  BB_a21 HK_a21
  clear bA
  go_upto_region 17 with (refine stA rfl 36 _ _ rfl wa21.heap.size (by rfl) ZA ((pa1 (-l) 0 []).told) (by rfl) 36 HV.out cm rfl ((pa1 (-l) 0 []).told_one) ?_; intro wa22 va22 ua22)
  have HK_a22 : Hid (BK _ wA.heap.size p _) := HK_z.out.upd HV.out (by decide) ua22 (by have := H6.out; omega)
  have BB_a22 := hI_ (ua22.bel BB_z.out s1)
  have V_a22 := hI_ va22
  clear va22 ua22 HV s1 HK_z BB_z
  have c5 := V_a22.out.cell 5 (v := .int .i64 (-l)) rfl
  have c6 := V_a22.out.cell 6 (v := .int .i64 0) rfl
  go_wp2_with fail
  go_ret
  exact ⟨rfl, BA.out.trans (BB_a22.out.mono BA.out.size)⟩
 ·have hE : G = N := by omega
  obtain rfl : N = G := by omega
  have HS_b : Hid (S3 M2 l 0 (pa1 (N - l) N [(7, N)]) (AO 2 0 2) (AO 3 1 1) 8) := by have h := HS_2.out; have e := HNE.out; rw [show A = N - l by omega] at h; exact h
  clear HS_2
  have HS_2 := hI_ HS_b.out
  clear HS_b
  go_wp2_with fail
  refine (ap 5 [1, 1] _ _ (vI2 wa10 (1) (1)) (by show 2 ≤ 8; decide)).mono ?_
  rintro r wa61 ⟨rfl, ba61⟩
  have ka61 := ((Below.refl wa10.heap.size wa10).alloc (Nat.le_refl _) (.cells #[.int .i64 (1), .int .i64 (1)] 2)).trans (ba61.mono (by simp))
  have HK_a61 : Hid (BK _ wA.heap.size p _) := HK_a10.out.step ka61
  have BB_a61 := hI_ (BB_a10.out.trans (ka61.mono BB_a10.out.size))
  clear  BB_a10 HK_a10
  clear ba61 ka61
  go_wp2_with fail
  refine (aD HK_a61.out (ok2 5 (by decide) ⟨by omega, by omega⟩ ⟨by omega, by omega⟩) (az _) ay (aM (by decide) (by decide) (by show 2 ≤ ct.getD 5 0; decide)) (lE HS_2.out (by decide) (by decide) (by have := HNE.out; omega)) (by decide)).mono ?_
  rintro r wa62 ⟨rfl, ha62, ka62⟩
  have HK_a62 : Hid (BK _ wA.heap.size p _) := ha62
  have BB_a62 : Hid (Below wA.heap.size wA wa62) := BB_a61.out.trans ka62.bel
  clear  BB_a61 HK_a61
  clear ha62 ka62
  go_wp2_with fail
  refine (ap 8 [1, 8] _ _ (vI2 wa62 (1) (8)) (by show 2 ≤ 8; decide)).mono ?_
  rintro r wa63 ⟨rfl, ba63⟩
  have ka63 := ((Below.refl wa62.heap.size wa62).alloc (Nat.le_refl _) (.cells #[.int .i64 (1), .int .i64 (8)] 2)).trans (ba63.mono (by simp))
  have HK_a63 : Hid (BK _ wA.heap.size p _) := HK_a62.out.step ka63
  have BB_a63 := hI_ (BB_a62.out.trans (ka63.mono BB_a62.out.size))
  clear  BB_a62 HK_a62
  clear ba63 ka63
  go_wp2_with fail
  refine (aD HK_a63.out (ok2 8 (by decide) ⟨by omega, by omega⟩ ⟨by omega, by omega⟩) (az _) ay (aM (by decide) (by decide) (by show 2 ≤ ct.getD 8 0; decide)) (mw HS_2.out (by decide) (by decide) rfl) (by decide)).mono ?_
  rintro r wa64 ⟨rfl, ha64, ka64⟩
  have HK_a64 : Hid (BK _ wA.heap.size p _) := ha64
  have BB_a64 : Hid (Below wA.heap.size wA wa64) := BB_a63.out.trans ka64.bel
  clear  BB_a63 HK_a63
  clear ha64 ka64
  go_wp2_with fail
  refine (ap 8 [1, 7] _ _ (vI2 wa64 (1) (7)) (by show 2 ≤ 8; decide)).mono ?_
  rintro r wa65 ⟨rfl, ba65⟩
  have ka65 := ((Below.refl wa64.heap.size wa64).alloc (Nat.le_refl _) (.cells #[.int .i64 (1), .int .i64 (7)] 2)).trans (ba65.mono (by simp))
  have HK_a65 : Hid (BK _ wA.heap.size p _) := HK_a64.out.step ka65
  have BB_a65 := hI_ (BB_a64.out.trans (ka65.mono BB_a64.out.size))
  clear  BB_a64 HK_a64
  clear ba65 ka65
  go_wp2_with fail
  refine (bj HK_a65.out (oX HS_2.out (z := N) (by decide) (by decide) rfl (by omega)) (by rw [HS_2.out.seq]; decide) (az _) ay).mono ?_
  rintro r wa66 ⟨rfl, ha66, ka66⟩
  have HK_a66 : Hid (BK _ wA.heap.size p _) := ha66
  have BB_a66 : Hid (Below wA.heap.size wA wa66) := BB_a65.out.trans ka66.bel
  clear  BB_a65 HK_a65
  clear ha66 ka66
  have HS_3 := hI_ (mC HS_2.out (by decide) 7 N rfl (Int.sub_self N) (hs' := []) rfl)
  generalize nxt M2 (mkE 8 [1, 7]) = M3 at *
  clear HS_2
  go_wp2_with fail
  refine (ap 5 [1, N] _ _ (vI2 wa66 (1) (N)) (by show 2 ≤ 8; decide)).mono ?_
  rintro r wa67 ⟨rfl, ba67⟩
  have ka67 := ((Below.refl wa66.heap.size wa66).alloc (Nat.le_refl _) (.cells #[.int .i64 (1), .int .i64 (N)] 2)).trans (ba67.mono (by simp))
  have HK_a67 : Hid (BK _ wA.heap.size p _) := HK_a66.out.step ka67
  have BB_a67 := hI_ (BB_a66.out.trans (ka67.mono BB_a66.out.size))
  clear  BB_a66 HK_a66
  clear ba67 ka67
  go_wp2_with fail
  refine (bj HK_a67.out (uh HS_3.out g5 (by omega) (by have := HNE.out; omega)) (by rw [HS_3.out.seq]; decide) (az _) ay).mono ?_
  rintro r wa68 ⟨rfl, ha68, ka68⟩
  have HK_a68 : Hid (BK _ wA.heap.size p _) := ha68
  have BB_a68 : Hid (Below wA.heap.size wA wa68) := BB_a67.out.trans ka68.bel
  clear  BB_a67 HK_a67
  clear ha68 ka68
  have HS_4 := hI_ (ql HS_3.out (by decide) N (c := -l) (by have := HNE.out; omega))
  generalize nxt M3 (mkE 5 [1, N]) = M4 at *
  clear HS_3
  go_wp2_with fail
  refine (dw HK_a68.out HS_4.out.a1).mono ?_
  rintro r wa69 ⟨rfl, ha69, ka69⟩
  have HK_a69 : Hid (BK _ wA.heap.size p _) := ha69
  have BB_a69 : Hid (Below wA.heap.size wA wa69) := BB_a68.out.trans ka69.bel
  clear  BB_a68 HK_a68
  clear ha69 ka69
  have bA := (Below.refl wa69.heap.size wa69).alloc (Nat.le_refl _) (.cells #[.int .i64 0, .int .i64 0, .int .i64 0, .int .i64 0, .bool false, .int .i64 0, .int .i64 0, .int .i64 0] 36)
  have HV := hI_ (aa wa69 ZA 36)
  have HK_z : Hid (BK _ wA.heap.size p _) := HK_a69.out.step bA
  have BB_z := hI_ (BB_a69.out.trans (bA.mono BB_a69.out.size))
  have s1 := BB_a69.out.size
  clear  BB_a69 HK_a69
  clear bA
  go_upto_region 17 with (refine stA rfl 36 _ _ rfl wa69.heap.size (by rfl) ZA ((pa1 (-l) 0 []).told) (by rfl) 36 HV.out cm rfl ((pa1 (-l) 0 []).told_one) ?_; intro wa70 va70 ua70)
  have HK_a70 : Hid (BK _ wA.heap.size p _) := HK_z.out.upd HV.out (by decide) ua70 (by have := H6.out; omega)
  have BB_a70 := hI_ (ua70.bel BB_z.out s1)
  have V_a70 := hI_ va70
  clear va70 ua70 HV s1 HK_z BB_z
  have c5 := V_a70.out.cell 5 (v := .int .i64 (-l)) rfl
  have c6 := V_a70.out.cell 6 (v := .int .i64 0) rfl
  go_wp2_with fail
  go_ret
  exact ⟨rfl, BA.out.trans (BB_a70.out.mono BA.out.size)⟩
theorem S3.chg2 {M : PM} {l m : Int} {a1 a2 a3 : PA} {s : Int} (h : S3 M l m a1 a2 a3 s) (f : PA → PA) : onA M.al 2 f = [a1, f a2, a3] := by
 unfold onA
 rw [h.al]
 simp [h.i1, h.i2, h.i3]
theorem S3.chg3 {M : PM} {l m : Int} {a1 a2 a3 : PA} {s : Int} (h : S3 M l m a1 a2 a3 s) (f : PA → PA) : onA M.al 3 f = [a1, a2, f a3] := by
 unfold onA
 rw [h.al]
 simp [h.i1, h.i2, h.i3]
theorem kV {M : PM} {e : EV} {f : Bool} {a : PA} (ha : acctO M e.n0 = some a) (ho : a.opn = false) (h1 : 2 ≤ e.op) (h2 : e.op ≤ 12) (h3 : e.op ≠ 11) : refL M e f ≠ 0 := by
 intro h
 have h := (pP h).2.2.2.2.2
 have no : ∀ {l k}, namedK M l e.n0 k = 0 → False := fun hn => by
  obtain ⟨_, b, hb, ho', _⟩ := namedK_0.1 hn
  rw [ha] at hb
  cases hb
  rw [ho] at ho'
  cases ho'
 have w : ∀ {l c : Int} {b : Bool}, c ≠ 0 → whn l b c = 0 → l = 0 := fun he h => ((aO he).1 h).1
 have v : ∀ {l c : Int}, wth l c = 0 → l = 0 := fun h => (wth_0.1 h).1
 have u : ∀ {l i k : Int}, namedK M l i k = 0 → l = 0 := fun h => (namedK_0.1 h).1
 unfold askL at h
 have hc : e.op = 2 ∨ e.op = 3 ∨ e.op = 4 ∨ e.op = 5 ∨ e.op = 6 ∨ e.op = 7 ∨ e.op = 8 ∨ e.op = 9 ∨ e.op = 10 ∨ e.op = 12 := by omega
 rcases hc with k | k | k | k | k | k | k | k | k | k
 ·simp only [k, reduceIte, Nat.reduceEqDiff] at h
  unfold openL at h
  have h := ((aO (by decide)).1 (w (by decide) h)).2
  rw [ha] at h
  cases h
 ·simp only [k, reduceIte, Nat.reduceEqDiff] at h
  exact no (w (by decide) h)
 ·simp only [k, reduceIte, Nat.reduceEqDiff] at h
  exact no (w (by decide) h)
 ·simp only [k, reduceIte, Nat.reduceEqDiff] at h
  exact no (w (by decide) h)
 ·simp only [k, reduceIte, Nat.reduceEqDiff] at h
  unfold transferL at h
  exact no (u (w (by decide) (w (by decide) (w (by decide) h))))
 ·simp only [k, reduceIte, Nat.reduceEqDiff] at h
  unfold holdL at h
  exact no (w (by decide) (w (by decide) (w (by decide) h)))
 ·simp only [k, reduceIte, Nat.reduceEqDiff] at h
  unfold freeL at h
  exact no (w (by decide) h)
 ·simp only [k, reduceIte, Nat.reduceEqDiff] at h
  unfold lendL at h
  exact no (u (w (by decide) (w (by decide) (w (by decide) (w (by decide) h)))))
 ·simp only [k, reduceIte, Nat.reduceEqDiff] at h
  unfold repayL at h
  exact no (u (w (by decide) (w (by decide) (w (by decide) h))))
 ·simp only [k, reduceIte, Nat.reduceEqDiff] at h
  unfold exchL at h
  rw [ha] at h
  cases hb : acctO M e.n1 with
  | none =>
   rw [hb] at h
   exact no (u (w (by decide) h))
  | some b =>
   rw [hb] at h
   exact no (u (w (by decide) (v (w (by decide) h))))
def kE (k op : Nat) (ns : List Int) : EV := { mkE op ns with key := k }
theorem jM {k op : Nat} {ns : List Int} (hk : k < 18446744073709551616) (ho : op ≤ 255) (h : ∀ n ∈ ns, I64 n) : (kE k op ns).ok := ⟨ho, by show k ≤ 18446744073709551615; omega, aZ h 0, aZ h 1, aZ h 2, aZ h 3, aZ h 4, aZ h 5, aZ h 6, aZ h 7⟩
theorem fg {k op : Nat} {ns : List Int} (h1 : 1 ≤ op) (h2 : op ≤ 15) (hl : ns.length ≤ ct.getD op 0) : (kE k op ns).e8.form := ⟨h1, h2, Nat.zero_le _, (aM h1 h2 hl).zero⟩
theorem lF {M : PM} {k op : Nat} {ns : List Int} (h1 : M.keys = []) (h2 : M.uw = false) (ho : 1 ≤ op ∧ op ≤ 11) : refL M (kE k op ns) true = askL M 0 (mkE op ns) :=
 jj rfl (fun h => by have h : op = 12 := h.1; omega) (by show decide (op = 13 ∨ op = 14 ∨ op = 15) = false; rw [decide_eq_false_iff_not]; omega) (by unfold usedK; rw [h1]; rfl) h2
theorem rB {M : PM} {k op : Nat} {ns : List Int} (hk : k < 18446744073709551616) (h1 : M.keys = []) (h2 : M.uw = false) (ho : 3 ≤ op ∧ op ≤ 11) (hn : ∀ n ∈ ns, I64 n) (hl : ns.length ≤ ct.getD op 0) (h : askL M 0 (mkE op ns) = 0) : Good M (kE k op ns) :=
 ⟨jM hk (by omega) hn, ⟨by show 1 ≤ op; omega, by show op ≤ 11; omega⟩, fg (by omega) (by omega) hl, (lF h1 h2 ⟨by omega, by omega⟩).trans h, by show 0 ≤ 8; decide, fun k => by have k : op = 2 := k; omega⟩
def Used (M : PM) (k : Nat) : Prop := M.keys = [(k, ())]
theorem qC {M : PM} {k : Nat} {e : EV} (h1 : M.keys = []) (h2 : e.key = k) (h3 : k ≠ 0) : Used (nxt M e) k := by
 show useL (chg M e).keys e.key = _
 rw [dN, h1, h2]
 unfold useL
 rw [if_neg h3]
theorem Used.yes {M : PM} {k : Nat} (h : Used M k) : usedK M k = true := by
 unfold usedK
 rw [h, dp, if_pos rfl]
 rfl
theorem ki {M : PM} {k op : Nat} {ns : List Int} (h : Used M k) (ho : 1 ≤ op ∧ op ≤ 11) : refL M (kE k op ns) true = 16 := by
  unfold refL
  rw [if_neg (by rintro (h | h); · cases h
                 · have h : op = 12 := h.1
                   omega), if_neg (by show ¬ decide (op = 13 ∨ op = 14 ∨ op = 15) = true; rw [decide_eq_true_iff]; omega), show usedK M (kE k op ns).key = true from h.yes, if_pos rfl]
theorem pQ {M : PM} {e : EV} {f : Bool} (h : Used M e.key) : refL M e f = 16 ∨ refL M e f = 3 ∨ refL M e f = 1 ∧ 13 ≤ e.op := by
 unfold refL
 split
 ·exact Or.inr (Or.inl rfl)
 ·split
  ·rename_i h2
   unfold ofDay at h2
   rw [decide_eq_true_iff] at h2
   exact Or.inr (Or.inr ⟨rfl, by omega⟩)
  ·rw [if_pos h.yes]
   exact Or.inl rfl
end Go.Proofs.YtjkiplndbcmmbaaGreatDoor