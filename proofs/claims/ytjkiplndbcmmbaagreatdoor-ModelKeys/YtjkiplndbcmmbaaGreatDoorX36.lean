/- texts of the model: Moi Moj Mot Mou Mov -/
import Derived.Test.YtjkiplndbcmmbaaGreatDoorX35
import Derived.Test.YtjkiplndbcmmbaaGreatDoorX29
import Derived.Test.YtjkiplndbcmmbaaGreatDoorX22
import Derived.Great.BuildSlice
set_option linter.unusedVariables false
set_option linter.unusedSimpArgs false
set_option maxHeartbeats 16000000
namespace Go.Proofs.YtjkiplndbcmmbaaGreatDoor
open Go.RowKit Go.Maps
def transferL (M : PM) (l a b n : Int) : Int := whn (whn (whn (namedK M (namedK M (whn (whn l (beyond n 10000000000000) 1) (a == b) 1) a 1) b 1) (fundsO M (acctO M a) n) 13) (roomO (acctO M b) n) 4) (curO (acctO M a) (acctO M b)) 10
def hasO (o : Option PA) (k : Int) : Bool := match o with
 | none => false
 | some a => (lkA a.hs k).getD 0 != 0
def noO (o : Option PA) (k : Int) : Bool := match o with
 | none => false
 | some a => (lkA a.hs k).getD 0 == 0
def fullO (o : Option PA) : Bool := match o with
 | none => false
 | some a => decide ((64 : Int) ≤ (a.hs.length : Int))
def holdL (M : PM) (l id k n : Int) : Int := whn (whn (whn (namedK M (whn (whn l (beyond n 10000000000000) 1) (beyond k 1000000000) 1) id 1) (fundsO M (acctO M id) n) 13) (hasO (acctO M id) k) 8) (fullO (acctO M id)) 17
def freeL (M : PM) (l id k : Int) : Int := whn (namedK M (whn l (beyond k 1000000000) 1) id 1) (noO (acctO M id) k) 7
def lessO (o : Option PA) (n : Int) : Bool := match o with
 | none => false
 | some a => decide (a.bal < n)
def repayL (M : PM) (l a b n : Int) : Int := whn (whn (whn (namedK M (namedK M (whn l (beyond n 10000000000000) 1) a 2) b 1) (curO (acctO M a) (acctO M b)) 10) (lessO (acctO M a) n) 12) (fundsO M (acctO M b) n) 13
theorem vS (o : Option Int) : (o.map encI).getD (.int .i64 0) = .int .i64 (o.getD 0) := by cases o <;> rfl
theorem je {w : World} {hb : Nat} {hs : List (Int × Int)} (h : AM KI encI w hb hs) {k : Int} (hk : I64 k) : (Instr.lookup 83 (.map (some hb)) (.int .i64 k) false).run Tryz.prog w = .ok (.int .i64 ((lkA hs k).getD 0)) w := by
 have := h.look (t := 83) (e := 2) Tryz.underlying83 (z := .int .i64 0) (Tryz.zeroValue2 w) (a := k) hk
 rw [vS] at this
 exact this
theorem uB {w : World} {hb : Nat} {hs : List (Int × Int)} (h : AM KI encI w hb hs) (hp : hs.Pairwise fun p q => p.1 ≠ q.1) : (Builtin.len_ #[83] 3 #[.map (some hb)]).run Tryz.prog w = .ok (.int .i64 hs.length) w := h.len Tryz.underlying83 hp _
set_option maxRecDepth 100000 in
theorem jn (w : World) (B : Nat) (F : FB) (M : PM) (hM : MD w B F M) (rp : Nat) (l a b n : Int) (h : RO w rp F.pm l) :
  Calls Tryz.prog 117 #[.pointer (some ⟨rp, 0, none⟩), .int .i64 a, .int .i64 b, .int .i64 n] w fun r w' => r = .returned (.tuple #[]) ∧ RO w' rp F.pm (transferL M l a b n) ∧ But (fun i => i = rp) w w' := by
 have HR_0 : Hid (RO w rp F.pm l) := h
 have HM_0 : Hid (MD w B F M) := hM
 have HB_0 : Hid (But (fun i => i = rp) w w) := But.refl _ _
 clear h hM
 go_enter Tryz.func117, Tryz.ntmps117
 go_wp2_with fail
 refine Calls.mono (bO w rp F.pm _ n HR_0.out) ?_
 rintro r w1 ⟨rfl, h1, h2⟩
 have HR_1 : Hid (RO _ _ _ _) := h1
 have HB_1 : Hid (But (fun i => i = rp) w w1) := HB_0.out.trans h2 (fun i _ hx => hx)
 have HM_1 : Hid (MD w1 B F M) := HM_0.out.ro HR_0.out h2
 clear h1 h2 HR_0 HB_0 HM_0
 go_wp2_with fail
 refine Calls.mono (ar w1 rp F.pm _ 1 _ HR_1.out) ?_
 rintro r w2 ⟨rfl, h1, h2⟩
 have HR_2 : Hid (RO _ _ _ _) := h1
 have HB_2 : Hid (But (fun i => i = rp) w w2) := HB_1.out.trans h2 (fun i _ hx => hx)
 have HM_2 : Hid (MD w2 B F M) := HM_1.out.ro HR_1.out h2
 clear h1 h2 HR_1 HB_1 HM_1
 go_wp2_with fail
 refine Calls.mono (bD w2 B F M HM_2.out rp _ a 1 HR_2.out) ?_
 rintro r w3 ⟨R1, rfl, eR1, fR1, h1, h2⟩
 have HR_3 : Hid (RO _ _ _ _) := h1
 have HB_3 : Hid (But (fun i => i = rp) w w3) := HB_2.out.trans h2 (fun i _ hx => hx)
 have HM_3 : Hid (MD w3 B F M) := HM_2.out.ro HR_2.out h2
 have FR1_3 : Hid (RF w3 R1) := fR1
 have ER1 : Hid (_ = _) := eR1
 clear eR1 fR1
 clear h1 h2 HR_2 HB_2 HM_2
 go_wp2_with fail
 refine Calls.mono (bD w3 B F M HM_3.out rp _ b 1 HR_3.out) ?_
 rintro r w4 ⟨R2, rfl, eR2, fR2, h1, h2⟩
 have HR_4 : Hid (RO _ _ _ _) := h1
 have HB_4 : Hid (But (fun i => i = rp) w w4) := HB_3.out.trans h2 (fun i _ hx => hx)
 have HM_4 : Hid (MD w4 B F M) := HM_3.out.ro HR_3.out h2
 have FR1_4 : Hid (RF w4 _) := FR1_3.out.ro HR_3.out h2
 have FR2_4 : Hid (RF w4 R2) := fR2
 have ER2 : Hid (_ = _) := eR2
 clear eR2 fR2
 clear h1 h2 HR_3 HB_3 HM_3 FR1_3
 go_wp2_with fail
 refine Calls.mono (dh w4 B F M HM_4.out rp _ n R1 HR_4.out FR1_4.out) ?_
 rintro r w5 ⟨rfl, h1, h2⟩
 have HR_5 : Hid (RO _ _ _ _) := h1
 have HB_5 : Hid (But (fun i => i = rp) w w5) := HB_4.out.trans h2 (fun i _ hx => hx)
 have HM_5 : Hid (MD w5 B F M) := HM_4.out.ro HR_4.out h2
 have FR1_5 : Hid (RF w5 _) := FR1_4.out.ro HR_4.out h2
 have FR2_5 : Hid (RF w5 _) := FR2_4.out.ro HR_4.out h2
 clear h1 h2 HR_4 HB_4 HM_4 FR1_4 FR2_4
 go_wp2_with fail
 refine Calls.mono (gk w5 rp F.pm _ n R2 HR_5.out FR2_5.out) ?_
 rintro r w6 ⟨rfl, h1, h2⟩
 have HR_6 : Hid (RO _ _ _ _) := h1
 have HB_6 : Hid (But (fun i => i = rp) w w6) := HB_5.out.trans h2 (fun i _ hx => hx)
 have HM_6 : Hid (MD w6 B F M) := HM_5.out.ro HR_5.out h2
 have FR1_6 : Hid (RF w6 _) := FR1_5.out.ro HR_5.out h2
 have FR2_6 : Hid (RF w6 _) := FR2_5.out.ro HR_5.out h2
 clear h1 h2 HR_5 HB_5 HM_5 FR1_5 FR2_5
 go_wp2_with fail
 refine Calls.mono (fC w6 rp F.pm _ R1 R2 HR_6.out FR1_6.out FR2_6.out) ?_
 rintro r w7 ⟨rfl, h1, h2⟩
 have HR_7 : Hid (RO _ _ _ _) := h1
 have HB_7 : Hid (But (fun i => i = rp) w w7) := HB_6.out.trans h2 (fun i _ hx => hx)
 have HM_7 : Hid (MD w7 B F M) := HM_6.out.ro HR_6.out h2
 have FR1_7 : Hid (RF w7 _) := FR1_6.out.ro HR_6.out h2
 have FR2_7 : Hid (RF w7 _) := FR2_6.out.ro HR_6.out h2
 clear h1 h2 HR_6 HB_6 HM_6 FR1_6 FR2_6
 go_wp2_with fail
 refine bodyPost_end (v := .tuple #[]) (by simp [results, Tryz.results117, go_sem]) rfl ?_
 refine ⟨rfl, ?_, HB_7.out⟩
 have H := HR_7.out
 rw [cd, fk, ER1.out, ER2.out] at H
 exact H
set_option maxRecDepth 100000 in
theorem pT (w : World) (B : Nat) (F : FB) (M : PM) (hM : MD w B F M) (rp : Nat) (l id k n : Int) (h : RO w rp F.pm l) (hk : I64 k) :
  Calls Tryz.prog 118 #[.pointer (some ⟨rp, 0, none⟩), .int .i64 id, .int .i64 k, .int .i64 n] w fun r w' => r = .returned (.tuple #[]) ∧ RO w' rp F.pm (holdL M l id k n) ∧ But (fun i => i = rp) w w' := by
 have HR_0 : Hid (RO w rp F.pm l) := h
 have HM_0 : Hid (MD w B F M) := hM
 have HB_0 : Hid (But (fun i => i = rp) w w) := But.refl _ _
 clear h hM
 go_enter Tryz.func118, Tryz.ntmps118
 go_wp2_with fail
 refine Calls.mono (bO w rp F.pm _ n HR_0.out) ?_
 rintro r w1 ⟨rfl, h1, h2⟩
 have HR_1 : Hid (RO _ _ _ _) := h1
 have HB_1 : Hid (But (fun i => i = rp) w w1) := HB_0.out.trans h2 (fun i _ hx => hx)
 have HM_1 : Hid (MD w1 B F M) := HM_0.out.ro HR_0.out h2
 clear h1 h2 HR_0 HB_0 HM_0
 go_wp2_with fail
 refine Calls.mono (bQ w1 rp F.pm _ k 1000000000 HR_1.out) ?_
 rintro r w2 ⟨rfl, h1, h2⟩
 have HR_2 : Hid (RO _ _ _ _) := h1
 have HB_2 : Hid (But (fun i => i = rp) w w2) := HB_1.out.trans h2 (fun i _ hx => hx)
 have HM_2 : Hid (MD w2 B F M) := HM_1.out.ro HR_1.out h2
 clear h1 h2 HR_1 HB_1 HM_1
 go_wp2_with fail
 refine Calls.mono (bD w2 B F M HM_2.out rp _ id 1 HR_2.out) ?_
 rintro r w3 ⟨R1, rfl, eR1, fR1, h1, h2⟩
 have HR_3 : Hid (RO _ _ _ _) := h1
 have HB_3 : Hid (But (fun i => i = rp) w w3) := HB_2.out.trans h2 (fun i _ hx => hx)
 have HM_3 : Hid (MD w3 B F M) := HM_2.out.ro HR_2.out h2
 have FR1_3 : Hid (RF w3 R1) := fR1
 have ER1 : Hid (_ = _) := eR1
 clear eR1 fR1
 clear h1 h2 HR_2 HB_2 HM_2
 go_wp2_with fail
 refine Calls.mono (dh w3 B F M HM_3.out rp _ n R1 HR_3.out FR1_3.out) ?_
 rintro r w4 ⟨rfl, h1, h2⟩
 have HR_4 : Hid (RO _ _ _ _) := h1
 have HB_4 : Hid (But (fun i => i = rp) w w4) := HB_3.out.trans h2 (fun i _ hx => hx)
 have HM_4 : Hid (MD w4 B F M) := HM_3.out.ro HR_3.out h2
 have FR1_4 : Hid (RF w4 _) := FR1_3.out.ro HR_3.out h2
 clear h1 h2 HR_3 HB_3 HM_3 FR1_3
 cases R1 with
 | none =>
  rw [show pvR (none : AR) = .pointer none from rfl]
  go_wp2_with fail
  refine Calls.mono (ar w4 rp F.pm _ 8 _ HR_4.out) ?_
  rintro r w5 ⟨rfl, h1, h2⟩
  have HR_5 : Hid (RO _ _ _ _) := h1
  have HB_5 : Hid (But (fun i => i = rp) w w5) := HB_4.out.trans h2 (fun i _ hx => hx)
  have HM_5 : Hid (MD w5 B F M) := HM_4.out.ro HR_4.out h2
  have FR1_5 : Hid (RF w5 _) := FR1_4.out.ro HR_4.out h2
  clear h1 h2 HR_4 HB_4 HM_4 FR1_4
  go_wp2_with fail
  refine Calls.mono (ar w5 rp F.pm _ 17 _ HR_5.out) ?_
  rintro r w6 ⟨rfl, h1, h2⟩
  have HR_6 : Hid (RO _ _ _ _) := h1
  have HB_6 : Hid (But (fun i => i = rp) w w6) := HB_5.out.trans h2 (fun i _ hx => hx)
  have HM_6 : Hid (MD w6 B F M) := HM_5.out.ro HR_5.out h2
  have FR1_6 : Hid (RF w6 _) := FR1_5.out.ro HR_5.out h2
  clear h1 h2 HR_5 HB_5 HM_5 FR1_5
  go_wp2_with fail
  refine bodyPost_end (v := .tuple #[]) (by simp [results, Tryz.results118, go_sem]) rfl ?_
  refine ⟨rfl, ?_, HB_6.out⟩
  have H := HR_6.out
  rw [cd, ER1.out] at H
  have e := ER1.out
  unfold holdL
  rw [← e] at H ⊢
  exact H
 | some x =>
  obtain ⟨a, aq, ah⟩ := x
  rw [show pvR (some (a, aq, ah) : AR) = .pointer (some ⟨aq, 0, none⟩) from rfl]
  have c8_4 := FR1_4.out.1.cell 8 (v := .map (some ah)) rfl
  have k1 := je FR1_4.out.2.1 hk
  go_wp2_with fail
  refine Calls.mono (ar w4 rp F.pm _ 8 _ HR_4.out) ?_
  rintro r w5 ⟨rfl, h1, h2⟩
  have HR_5 : Hid (RO _ _ _ _) := h1
  have HB_5 : Hid (But (fun i => i = rp) w w5) := HB_4.out.trans h2 (fun i _ hx => hx)
  have HM_5 : Hid (MD w5 B F M) := HM_4.out.ro HR_4.out h2
  have FR1_5 : Hid (RF w5 _) := FR1_4.out.ro HR_4.out h2
  clear h1 h2 HR_4 HB_4 HM_4 FR1_4
  clear k1 c8_4
  have c8_5 := FR1_5.out.1.cell 8 (v := .map (some ah)) rfl
  have k2 := uB FR1_5.out.2.1 FR1_5.out.2.2.hs
  go_wp2_with fail
  refine Calls.mono (ar w5 rp F.pm _ 17 _ HR_5.out) ?_
  rintro r w6 ⟨rfl, h1, h2⟩
  have HR_6 : Hid (RO _ _ _ _) := h1
  have HB_6 : Hid (But (fun i => i = rp) w w6) := HB_5.out.trans h2 (fun i _ hx => hx)
  have HM_6 : Hid (MD w6 B F M) := HM_5.out.ro HR_5.out h2
  have FR1_6 : Hid (RF w6 _) := FR1_5.out.ro HR_5.out h2
  clear h1 h2 HR_5 HB_5 HM_5 FR1_5
  clear k2 c8_5
  go_wp2_with fail
  refine bodyPost_end (v := .tuple #[]) (by simp [results, Tryz.results118, go_sem]) rfl ?_
  refine ⟨rfl, ?_, HB_6.out⟩
  have H := HR_6.out
  rw [cd] at H
  unfold holdL
  rw [← ER1.out]
  exact H
set_option maxRecDepth 100000 in
theorem pS (w : World) (B : Nat) (F : FB) (M : PM) (hM : MD w B F M) (rp : Nat) (l id k : Int) (h : RO w rp F.pm l) (hk : I64 k) :
  Calls Tryz.prog 119 #[.pointer (some ⟨rp, 0, none⟩), .int .i64 id, .int .i64 k] w fun r w' => r = .returned (.tuple #[]) ∧ RO w' rp F.pm (freeL M l id k) ∧ But (fun i => i = rp) w w' := by
 have HR_0 : Hid (RO w rp F.pm l) := h
 have HM_0 : Hid (MD w B F M) := hM
 have HB_0 : Hid (But (fun i => i = rp) w w) := But.refl _ _
 clear h hM
 go_enter Tryz.func119, Tryz.ntmps119
 go_wp2_with fail
 refine Calls.mono (bQ w rp F.pm _ k 1000000000 HR_0.out) ?_
 rintro r w1 ⟨rfl, h1, h2⟩
 have HR_1 : Hid (RO _ _ _ _) := h1
 have HB_1 : Hid (But (fun i => i = rp) w w1) := HB_0.out.trans h2 (fun i _ hx => hx)
 have HM_1 : Hid (MD w1 B F M) := HM_0.out.ro HR_0.out h2
 clear h1 h2 HR_0 HB_0 HM_0
 go_wp2_with fail
 refine Calls.mono (bD w1 B F M HM_1.out rp _ id 1 HR_1.out) ?_
 rintro r w2 ⟨R1, rfl, eR1, fR1, h1, h2⟩
 have HR_2 : Hid (RO _ _ _ _) := h1
 have HB_2 : Hid (But (fun i => i = rp) w w2) := HB_1.out.trans h2 (fun i _ hx => hx)
 have HM_2 : Hid (MD w2 B F M) := HM_1.out.ro HR_1.out h2
 have FR1_2 : Hid (RF w2 R1) := fR1
 have ER1 : Hid (_ = _) := eR1
 clear eR1 fR1
 clear h1 h2 HR_1 HB_1 HM_1
 cases R1 with
 | none =>
  rw [show pvR (none : AR) = .pointer none from rfl]
  go_wp2_with fail
  refine Calls.mono (ar w2 rp F.pm _ 7 _ HR_2.out) ?_
  rintro r w3 ⟨rfl, h1, h2⟩
  have HR_3 : Hid (RO _ _ _ _) := h1
  have HB_3 : Hid (But (fun i => i = rp) w w3) := HB_2.out.trans h2 (fun i _ hx => hx)
  have HM_3 : Hid (MD w3 B F M) := HM_2.out.ro HR_2.out h2
  have FR1_3 : Hid (RF w3 _) := FR1_2.out.ro HR_2.out h2
  clear h1 h2 HR_2 HB_2 HM_2 FR1_2
  go_wp2_with fail
  refine bodyPost_end (v := .tuple #[]) (by simp [results, Tryz.results119, go_sem]) rfl ?_
  refine ⟨rfl, ?_, HB_3.out⟩
  have H := HR_3.out
  unfold freeL
  rw [← ER1.out]
  exact H
 | some x =>
  obtain ⟨a, aq, ah⟩ := x
  rw [show pvR (some (a, aq, ah) : AR) = .pointer (some ⟨aq, 0, none⟩) from rfl]
  have c8_2 := FR1_2.out.1.cell 8 (v := .map (some ah)) rfl
  have k1 := je FR1_2.out.2.1 hk
  go_wp2_with fail
  refine Calls.mono (ar w2 rp F.pm _ 7 _ HR_2.out) ?_
  rintro r w3 ⟨rfl, h1, h2⟩
  have HR_3 : Hid (RO _ _ _ _) := h1
  have HB_3 : Hid (But (fun i => i = rp) w w3) := HB_2.out.trans h2 (fun i _ hx => hx)
  have HM_3 : Hid (MD w3 B F M) := HM_2.out.ro HR_2.out h2
  have FR1_3 : Hid (RF w3 _) := FR1_2.out.ro HR_2.out h2
  clear h1 h2 HR_2 HB_2 HM_2 FR1_2
  clear k1 c8_2
  go_wp2_with fail
  refine bodyPost_end (v := .tuple #[]) (by simp [results, Tryz.results119, go_sem]) rfl ?_
  refine ⟨rfl, ?_, HB_3.out⟩
  have H := HR_3.out
  unfold freeL
  rw [← ER1.out]
  exact H
set_option maxRecDepth 100000 in
theorem nI (w : World) (B : Nat) (F : FB) (M : PM) (hM : MD w B F M) (rp : Nat) (l a b n : Int) (h : RO w rp F.pm l) :
  Calls Tryz.prog 121 #[.pointer (some ⟨rp, 0, none⟩), .int .i64 a, .int .i64 b, .int .i64 n] w fun r w' => r = .returned (.tuple #[]) ∧ RO w' rp F.pm (repayL M l a b n) ∧ But (fun i => i = rp) w w' := by
 have HR_0 : Hid (RO w rp F.pm l) := h
 have HM_0 : Hid (MD w B F M) := hM
 have HB_0 : Hid (But (fun i => i = rp) w w) := But.refl _ _
 clear h hM
 go_enter Tryz.func121, Tryz.ntmps121
 go_wp2_with fail
 refine Calls.mono (bO w rp F.pm _ n HR_0.out) ?_
 rintro r w1 ⟨rfl, h1, h2⟩
 have HR_1 : Hid (RO _ _ _ _) := h1
 have HB_1 : Hid (But (fun i => i = rp) w w1) := HB_0.out.trans h2 (fun i _ hx => hx)
 have HM_1 : Hid (MD w1 B F M) := HM_0.out.ro HR_0.out h2
 clear h1 h2 HR_0 HB_0 HM_0
 go_wp2_with fail
 refine Calls.mono (bD w1 B F M HM_1.out rp _ a 2 HR_1.out) ?_
 rintro r w2 ⟨R1, rfl, eR1, fR1, h1, h2⟩
 have HR_2 : Hid (RO _ _ _ _) := h1
 have HB_2 : Hid (But (fun i => i = rp) w w2) := HB_1.out.trans h2 (fun i _ hx => hx)
 have HM_2 : Hid (MD w2 B F M) := HM_1.out.ro HR_1.out h2
 have FR1_2 : Hid (RF w2 R1) := fR1
 have ER1 : Hid (_ = _) := eR1
 clear eR1 fR1
 clear h1 h2 HR_1 HB_1 HM_1
 go_wp2_with fail
 refine Calls.mono (bD w2 B F M HM_2.out rp _ b 1 HR_2.out) ?_
 rintro r w3 ⟨R2, rfl, eR2, fR2, h1, h2⟩
 have HR_3 : Hid (RO _ _ _ _) := h1
 have HB_3 : Hid (But (fun i => i = rp) w w3) := HB_2.out.trans h2 (fun i _ hx => hx)
 have HM_3 : Hid (MD w3 B F M) := HM_2.out.ro HR_2.out h2
 have FR1_3 : Hid (RF w3 _) := FR1_2.out.ro HR_2.out h2
 have FR2_3 : Hid (RF w3 R2) := fR2
 have ER2 : Hid (_ = _) := eR2
 clear eR2 fR2
 clear h1 h2 HR_2 HB_2 HM_2 FR1_2
 go_wp2_with fail
 refine Calls.mono (fC w3 rp F.pm _ R1 R2 HR_3.out FR1_3.out FR2_3.out) ?_
 rintro r w4 ⟨rfl, h1, h2⟩
 have HR_4 : Hid (RO _ _ _ _) := h1
 have HB_4 : Hid (But (fun i => i = rp) w w4) := HB_3.out.trans h2 (fun i _ hx => hx)
 have HM_4 : Hid (MD w4 B F M) := HM_3.out.ro HR_3.out h2
 have FR1_4 : Hid (RF w4 _) := FR1_3.out.ro HR_3.out h2
 have FR2_4 : Hid (RF w4 _) := FR2_3.out.ro HR_3.out h2
 clear h1 h2 HR_3 HB_3 HM_3 FR1_3 FR2_3
 cases R1 with
 | none =>
  rw [show pvR (none : AR) = .pointer none from rfl]
  go_wp2_with fail
  refine Calls.mono (ar w4 rp F.pm _ 12 _ HR_4.out) ?_
  rintro r w5 ⟨rfl, h1, h2⟩
  have HR_5 : Hid (RO _ _ _ _) := h1
  have HB_5 : Hid (But (fun i => i = rp) w w5) := HB_4.out.trans h2 (fun i _ hx => hx)
  have HM_5 : Hid (MD w5 B F M) := HM_4.out.ro HR_4.out h2
  have FR1_5 : Hid (RF w5 _) := FR1_4.out.ro HR_4.out h2
  have FR2_5 : Hid (RF w5 _) := FR2_4.out.ro HR_4.out h2
  clear h1 h2 HR_4 HB_4 HM_4 FR1_4 FR2_4
  go_wp2_with fail
  refine Calls.mono (dh w5 B F M HM_5.out rp _ n R2 HR_5.out FR2_5.out) ?_
  rintro r w6 ⟨rfl, h1, h2⟩
  have HR_6 : Hid (RO _ _ _ _) := h1
  have HB_6 : Hid (But (fun i => i = rp) w w6) := HB_5.out.trans h2 (fun i _ hx => hx)
  have HM_6 : Hid (MD w6 B F M) := HM_5.out.ro HR_5.out h2
  have FR1_6 : Hid (RF w6 _) := FR1_5.out.ro HR_5.out h2
  have FR2_6 : Hid (RF w6 _) := FR2_5.out.ro HR_5.out h2
  clear h1 h2 HR_5 HB_5 HM_5 FR1_5 FR2_5
  go_wp2_with fail
  refine bodyPost_end (v := .tuple #[]) (by simp [results, Tryz.results121, go_sem]) rfl ?_
  refine ⟨rfl, ?_, HB_6.out⟩
  have H := HR_6.out
  rw [cd, ER2.out] at H
  unfold repayL
  rw [← ER1.out]
  exact H
 | some x =>
  obtain ⟨c, aq, ah⟩ := x
  rw [show pvR (some (c, aq, ah) : AR) = .pointer (some ⟨aq, 0, none⟩) from rfl]
  have c5 := FR1_4.out.1.cell 5 (v := .int .i64 c.bal) rfl
  go_wp2_with fail
  refine Calls.mono (ar w4 rp F.pm _ 12 _ HR_4.out) ?_
  rintro r w5 ⟨rfl, h1, h2⟩
  have HR_5 : Hid (RO _ _ _ _) := h1
  have HB_5 : Hid (But (fun i => i = rp) w w5) := HB_4.out.trans h2 (fun i _ hx => hx)
  have HM_5 : Hid (MD w5 B F M) := HM_4.out.ro HR_4.out h2
  have FR1_5 : Hid (RF w5 _) := FR1_4.out.ro HR_4.out h2
  have FR2_5 : Hid (RF w5 _) := FR2_4.out.ro HR_4.out h2
  clear h1 h2 HR_4 HB_4 HM_4 FR1_4 FR2_4
  clear c5
  go_wp2_with fail
  refine Calls.mono (dh w5 B F M HM_5.out rp _ n R2 HR_5.out FR2_5.out) ?_
  rintro r w6 ⟨rfl, h1, h2⟩
  have HR_6 : Hid (RO _ _ _ _) := h1
  have HB_6 : Hid (But (fun i => i = rp) w w6) := HB_5.out.trans h2 (fun i _ hx => hx)
  have HM_6 : Hid (MD w6 B F M) := HM_5.out.ro HR_5.out h2
  have FR1_6 : Hid (RF w6 _) := FR1_5.out.ro HR_5.out h2
  have FR2_6 : Hid (RF w6 _) := FR2_5.out.ro HR_5.out h2
  clear h1 h2 HR_5 HB_5 HM_5 FR1_5 FR2_5
  go_wp2_with fail
  refine bodyPost_end (v := .tuple #[]) (by simp [results, Tryz.results121, go_sem]) rfl ?_
  refine ⟨rfl, ?_, HB_6.out⟩
  have H := HR_6.out
  rw [cd, ER2.out] at H
  unfold repayL
  rw [← ER1.out]
  exact H
structure TBL (w : World) : Prop where
 cu : Cu w
 lim : Lim w
 tc : Tc w
theorem TBL.lt {w : World} (h : TBL w) : 5 < w.heap.size := by
 have h1 := h.lim.bal.lt
 have h2 := h.lim.amt.lt
 omega
theorem TBL.blk {w w' : World} (h : TBL w) (s : w.heap.size ≤ w'.heap.size) (k : ∀ b, b ≤ 5 → w'.heap[b]? = w.heap[b]?) : TBL w' :=
 ⟨⟨fun i hi => (World.cell?_of_block (w := w) (w' := w') (a := ⟨0, i * 2 + 1, none⟩) (k 0 (by omega))).trans (h.cu.row i hi)⟩, h.lim.blk s (fun b hb => k b (by omega)), ⟨fun i hi => (World.cell?_of_block (w := w) (w' := w') (a := ⟨1, i, none⟩) (k 1 (by omega))).trans (h.tc.row i hi)⟩⟩
theorem TBL.step {w w' : World} (h : TBL w) (k : Below w.heap.size w w') : TBL w' := h.blk k.size (fun b hb => k.block b (by have := h.lt; omega))
theorem TBL.but {X : Nat → Prop} {w w' : World} (h : TBL w) (k : But X w w') (hX : ∀ i, X i → 6 ≤ i) : TBL w' := h.blk k.size (fun b hb => k.block b (by have := h.lt; omega) (fun e => by have := hX b e; omega))
theorem cP (w : World) (T : Cu w) (c : Int) : Calls Tryz.prog 42 #[.int .i64 c] w fun e w' => e = .returned (.bool (wi c 0 3)) ∧ w' = w := by
 by_cases h : 0 ≤ c ∧ c ≤ 3
 ·rw [bF h.1 h.2]
  obtain ⟨i, rfl⟩ : ∃ i : Nat, c = (i : Int) := ⟨c.toNat, by omega⟩
  have HD := hI_ (fun (_ : Unit) => gz i w T (by omega))
  clear h T
  go_enter Tryz.func42, Tryz.ntmps42
  go_wp2_with fail
  refine Calls.mono (HD.out ()) ?_
  rintro e w1 ⟨rfl, hw⟩
  obtain rfl := hw.symm
  go_wp2_with fail
  go_ret
  exact ⟨rfl, rfl⟩
 ·rw [iT h]
  have HD := hI_ (fun (_ : Unit) => n8 c w h)
  clear h T
  go_enter Tryz.func42, Tryz.ntmps42
  go_wp2_with fail
  refine Calls.mono (HD.out ()) ?_
  rintro e w1 ⟨rfl, hw⟩
  obtain rfl := hw.symm
  go_wp2_with fail
  go_ret
  exact ⟨rfl, rfl⟩
def rateL (l c u n : Int) : Int := whn (whn (whn l (!(wi c 0 3) || !(wi u 0 3)) 1) (beyond n 1000000000000) 1) (c == u) 10
def limO (M : PM) (o : Option PA) (n : Int) : Bool := match o with
 | none => false
 | some a => decide ((ver M a.prod).lim < n)
def owesO (o : Option PA) : Bool := match o with
 | none => false
 | some a => a.bal != 0
def lendL (M : PM) (l a b n m : Int) : Int := whn (whn (whn (whn (namedK M (namedK M (whn (whn l (beyond n 10000000000000) 1) (beyond m 480) 1) a 2) b 1) (roomO (acctO M b) n) 4) (curO (acctO M a) (acctO M b)) 10) (limO M (acctO M a) n) 12) (owesO (acctO M a)) 14
def openL (M : PM) (l id p : Int) : Int := whn (whn (wth (whn l (beyond id 1000000000) 1) (if (verO M p).isSome then 0 else 7)) (acctO M id).isSome 8) (decide ((256 : Int) ≤ (M.al.length : Int))) 17
set_option maxRecDepth 100000 in
theorem pX (w : World) (B : Nat) (F : FB) (M : PM) (hM : MD w B F M) (rp : Nat) (l c u n : Int) (h : RO w rp F.pm l) (T : Cu w) :
  Calls Tryz.prog 122 #[.pointer (some ⟨rp, 0, none⟩), .int .i64 c, .int .i64 u, .int .i64 n] w fun r w' => r = .returned (.tuple #[]) ∧ RO w' rp F.pm (rateL l c u n) ∧ But (fun i => i = rp) w w' := by
 have HR_0 : Hid (RO w rp F.pm l) := h
 have HM_0 : Hid (MD w B F M) := hM
 have HB_0 : Hid (But (fun i => i = rp) w w) := But.refl _ _
 have HCU : Hid (Cu w) := T
 clear h hM T
 cases hc : wi c 0 3 with
 | false =>
  go_enter Tryz.func122, Tryz.ntmps122
  go_wp2_with fail
  refine (cP w HCU.out c).mono ?_
  rintro e wq ⟨rfl, hwq⟩
  obtain rfl := hwq.symm
  clear hwq
  rw [hc]
  go_wp2_with fail
  refine Calls.mono (ar w rp F.pm _ 1 _ HR_0.out) ?_
  rintro r w1 ⟨rfl, h1, h2⟩
  have HR_1 : Hid (RO _ _ _ _) := h1
  have HB_1 : Hid (But (fun i => i = rp) w w1) := HB_0.out.trans h2 (fun i _ hx => hx)
  have HM_1 : Hid (MD w1 B F M) := HM_0.out.ro HR_0.out h2
  clear h1 h2 HR_0 HB_0 HM_0
  go_wp2_with fail
  refine Calls.mono (bQ w1 rp F.pm _ n 1000000000000 HR_1.out) ?_
  rintro r w2 ⟨rfl, h1, h2⟩
  have HR_2 : Hid (RO _ _ _ _) := h1
  have HB_2 : Hid (But (fun i => i = rp) w w2) := HB_1.out.trans h2 (fun i _ hx => hx)
  have HM_2 : Hid (MD w2 B F M) := HM_1.out.ro HR_1.out h2
  clear h1 h2 HR_1 HB_1 HM_1
  go_wp2_with fail
  refine Calls.mono (ar w2 rp F.pm _ 10 _ HR_2.out) ?_
  rintro r w3 ⟨rfl, h1, h2⟩
  have HR_3 : Hid (RO _ _ _ _) := h1
  have HB_3 : Hid (But (fun i => i = rp) w w3) := HB_2.out.trans h2 (fun i _ hx => hx)
  have HM_3 : Hid (MD w3 B F M) := HM_2.out.ro HR_2.out h2
  clear h1 h2 HR_2 HB_2 HM_2
  go_wp2_with fail
  refine bodyPost_end (v := .tuple #[]) (by simp [results, Tryz.results122, go_sem]) rfl ?_
  refine ⟨rfl, ?_, HB_3.out⟩
  have H := HR_3.out
  unfold rateL
  rw [hc]
  exact H
 | true =>
  go_enter Tryz.func122, Tryz.ntmps122
  go_wp2_with fail
  refine (cP w HCU.out c).mono ?_
  rintro e wq ⟨rfl, hwq⟩
  obtain rfl := hwq.symm
  clear hwq
  rw [hc]
  go_wp2_with fail
  refine (cP w HCU.out u).mono ?_
  rintro e wq ⟨rfl, hwq⟩
  obtain rfl := hwq.symm
  clear hwq
  go_wp2_with fail
  refine Calls.mono (ar w rp F.pm _ 1 _ HR_0.out) ?_
  rintro r w1 ⟨rfl, h1, h2⟩
  have HR_1 : Hid (RO _ _ _ _) := h1
  have HB_1 : Hid (But (fun i => i = rp) w w1) := HB_0.out.trans h2 (fun i _ hx => hx)
  have HM_1 : Hid (MD w1 B F M) := HM_0.out.ro HR_0.out h2
  clear h1 h2 HR_0 HB_0 HM_0
  go_wp2_with fail
  refine Calls.mono (bQ w1 rp F.pm _ n 1000000000000 HR_1.out) ?_
  rintro r w2 ⟨rfl, h1, h2⟩
  have HR_2 : Hid (RO _ _ _ _) := h1
  have HB_2 : Hid (But (fun i => i = rp) w w2) := HB_1.out.trans h2 (fun i _ hx => hx)
  have HM_2 : Hid (MD w2 B F M) := HM_1.out.ro HR_1.out h2
  clear h1 h2 HR_1 HB_1 HM_1
  go_wp2_with fail
  refine Calls.mono (ar w2 rp F.pm _ 10 _ HR_2.out) ?_
  rintro r w3 ⟨rfl, h1, h2⟩
  have HR_3 : Hid (RO _ _ _ _) := h1
  have HB_3 : Hid (But (fun i => i = rp) w w3) := HB_2.out.trans h2 (fun i _ hx => hx)
  have HM_3 : Hid (MD w3 B F M) := HM_2.out.ro HR_2.out h2
  clear h1 h2 HR_2 HB_2 HM_2
  go_wp2_with fail
  refine bodyPost_end (v := .tuple #[]) (by simp [results, Tryz.results122, go_sem]) rfl ?_
  refine ⟨rfl, ?_, HB_3.out⟩
  have H := HR_3.out
  unfold rateL
  rw [hc]
  exact H
set_option maxRecDepth 100000 in
theorem pU (w : World) (B : Nat) (F : FB) (M : PM) (hM : MD w B F M) (rp : Nat) (l a b n m : Int) (h : RO w rp F.pm l) :
  Calls Tryz.prog 120 #[.pointer (some ⟨rp, 0, none⟩), .int .i64 a, .int .i64 b, .int .i64 n, .int .i64 m] w fun r w' => r = .returned (.tuple #[]) ∧ RO w' rp F.pm (lendL M l a b n m) ∧ But (fun i => i = rp) w w' := by
 have HR_0 : Hid (RO w rp F.pm l) := h
 have HM_0 : Hid (MD w B F M) := hM
 have HB_0 : Hid (But (fun i => i = rp) w w) := But.refl _ _
 clear h hM
 go_enter Tryz.func120, Tryz.ntmps120
 go_wp2_with fail
 refine Calls.mono (bO w rp F.pm _ n HR_0.out) ?_
 rintro r w1 ⟨rfl, h1, h2⟩
 have HR_1 : Hid (RO _ _ _ _) := h1
 have HB_1 : Hid (But (fun i => i = rp) w w1) := HB_0.out.trans h2 (fun i _ hx => hx)
 have HM_1 : Hid (MD w1 B F M) := HM_0.out.ro HR_0.out h2
 clear h1 h2 HR_0 HB_0 HM_0
 go_wp2_with fail
 refine Calls.mono (bQ w1 rp F.pm _ m 480 HR_1.out) ?_
 rintro r w2 ⟨rfl, h1, h2⟩
 have HR_2 : Hid (RO _ _ _ _) := h1
 have HB_2 : Hid (But (fun i => i = rp) w w2) := HB_1.out.trans h2 (fun i _ hx => hx)
 have HM_2 : Hid (MD w2 B F M) := HM_1.out.ro HR_1.out h2
 clear h1 h2 HR_1 HB_1 HM_1
 go_wp2_with fail
 refine Calls.mono (bD w2 B F M HM_2.out rp _ a 2 HR_2.out) ?_
 rintro r w3 ⟨R1, rfl, eR1, fR1, h1, h2⟩
 have HR_3 : Hid (RO _ _ _ _) := h1
 have HB_3 : Hid (But (fun i => i = rp) w w3) := HB_2.out.trans h2 (fun i _ hx => hx)
 have HM_3 : Hid (MD w3 B F M) := HM_2.out.ro HR_2.out h2
 have FR1_3 : Hid (RF w3 R1) := fR1
 have ER1 : Hid (_ = _) := eR1
 clear eR1 fR1
 clear h1 h2 HR_2 HB_2 HM_2
 go_wp2_with fail
 refine Calls.mono (bD w3 B F M HM_3.out rp _ b 1 HR_3.out) ?_
 rintro r w4 ⟨R2, rfl, eR2, fR2, h1, h2⟩
 have HR_4 : Hid (RO _ _ _ _) := h1
 have HB_4 : Hid (But (fun i => i = rp) w w4) := HB_3.out.trans h2 (fun i _ hx => hx)
 have HM_4 : Hid (MD w4 B F M) := HM_3.out.ro HR_3.out h2
 have FR1_4 : Hid (RF w4 _) := FR1_3.out.ro HR_3.out h2
 have FR2_4 : Hid (RF w4 R2) := fR2
 have ER2 : Hid (_ = _) := eR2
 clear eR2 fR2
 clear h1 h2 HR_3 HB_3 HM_3 FR1_3
 go_wp2_with fail
 refine Calls.mono (gk w4 rp F.pm _ n R2 HR_4.out FR2_4.out) ?_
 rintro r w5 ⟨rfl, h1, h2⟩
 have HR_5 : Hid (RO _ _ _ _) := h1
 have HB_5 : Hid (But (fun i => i = rp) w w5) := HB_4.out.trans h2 (fun i _ hx => hx)
 have HM_5 : Hid (MD w5 B F M) := HM_4.out.ro HR_4.out h2
 have FR1_5 : Hid (RF w5 _) := FR1_4.out.ro HR_4.out h2
 have FR2_5 : Hid (RF w5 _) := FR2_4.out.ro HR_4.out h2
 clear h1 h2 HR_4 HB_4 HM_4 FR1_4 FR2_4
 go_wp2_with fail
 refine Calls.mono (fC w5 rp F.pm _ R1 R2 HR_5.out FR1_5.out FR2_5.out) ?_
 rintro r w6 ⟨rfl, h1, h2⟩
 have HR_6 : Hid (RO _ _ _ _) := h1
 have HB_6 : Hid (But (fun i => i = rp) w w6) := HB_5.out.trans h2 (fun i _ hx => hx)
 have HM_6 : Hid (MD w6 B F M) := HM_5.out.ro HR_5.out h2
 have FR1_6 : Hid (RF w6 _) := FR1_5.out.ro HR_5.out h2
 have FR2_6 : Hid (RF w6 _) := FR2_5.out.ro HR_5.out h2
 clear h1 h2 HR_5 HB_5 HM_5 FR1_5 FR2_5
 cases R1 with
 | none =>
  rw [show pvR (none : AR) = .pointer none from rfl]
  go_upto_region 5 with fail
  have BB_6 := hI_ (Below.refl w6.heap.size w6)
  refine wp_region_noPanic ?_
  refine wp_region_held_drew (S := fun _ => True) (by kernel_rfl) (trivial) ?_
  intro hHeld
  have bz := (Below.refl w6.heap.size w6).drew
  have HM_z := hI_ (HM_6.out.step bz)
  have HR_z := hI_ (HR_6.out.step bz)
  have FR1_z : Hid (RF _ _) := FR1_6.out.step bz
  have FR2_z : Hid (RF _ _) := FR2_6.out.step bz
  have BB_z := hI_ (BB_6.out.trans (bz.mono BB_6.out.size))
  generalize w6.drew = wz at *
  clear bz
  refine tK 0 32 (.pointer (some ⟨rp, 0, none⟩)) (by exact rfl) (Or.inl ⟨by rfl, ?_⟩) ?_
  ·intro wq hS
   go_simp
  try simp only [nrm]
  refine tK 1 33 (.pointer none) (by exact rfl) (Or.inl ⟨by rfl, ?_⟩) ?_
  ·intro wq hS
   go_simp
  try simp only [nrm]
  refine tK 2 34 (.bool false) (by exact rfl) (Or.inl ⟨by rfl, ?_⟩) ?_
  ·intro wq hS
   go_simp
  try simp only [nrm]
  refine tK 3 35 (.bool false) (by exact rfl) (Or.inl ⟨by rfl, ?_⟩) ?_
  ·intro wq hS
   go_simp
  try simp only [nrm]
  refine tK 4 36 undef (by exact rfl) (Or.inr ⟨by rfl, rfl⟩) ?_
  try simp only [nrm]
  refine tK 5 37 undef (by exact rfl) (Or.inr ⟨by rfl, rfl⟩) ?_
  try simp only [nrm]
  refine tK 6 38 undef (by exact rfl) (Or.inr ⟨by rfl, rfl⟩) ?_
  try simp only [nrm]
  refine tK 7 39 undef (by exact rfl) (Or.inr ⟨by rfl, rfl⟩) ?_
  try simp only [nrm]
  refine tK 8 40 undef (by exact rfl) (Or.inr ⟨by rfl, rfl⟩) ?_
  try simp only [nrm]
  refine tK 9 41 undef (by exact rfl) (Or.inr ⟨by rfl, rfl⟩) ?_
  try simp only [nrm]
  refine tK 10 42 undef (by exact rfl) (Or.inr ⟨by rfl, rfl⟩) ?_
  try simp only [nrm]
  refine tK 11 43 undef (by exact rfl) (Or.inr ⟨by rfl, rfl⟩) ?_
  try simp only [nrm]
  refine tK 12 44 undef (by exact rfl) (Or.inr ⟨by rfl, rfl⟩) ?_
  try simp only [nrm]
  refine tK 13 45 undef (by exact rfl) (Or.inr ⟨by rfl, rfl⟩) ?_
  try simp only [nrm]
  refine tK 14 46 undef (by exact rfl) (Or.inr ⟨by rfl, rfl⟩) ?_
  try simp only [nrm]
  refine tK 15 47 undef (by exact rfl) (Or.inr ⟨by rfl, rfl⟩) ?_
  try simp only [nrm]
  refine tK 16 48 (.bool false) (by exact rfl) (Or.inl ⟨by rfl, ?_⟩) ?_
  ·intro wq hS
   go_simp
  try simp only [nrm]
  refine rdy 17 (fun K hK => ?_)
  go_simp
  refine (ar wz rp F.pm _ 12 _ HR_z.out).mono ?_
  rintro r w7 ⟨rfl, h1, h2⟩
  have HR_7 : Hid (RO _ _ _ _) := h1
  have HB_7 : Hid (But (fun i => i = rp) w w7) := HB_6.out.trans ((af BB_z.out (fun i => i = rp)).trans h2 (fun i hi hx => hx)) (fun i _ hx => hx)
  have HM_7 : Hid (MD w7 B F M) := HM_z.out.ro HR_z.out h2
  have FR1_7 : Hid (RF w7 _) := FR1_z.out.ro HR_z.out h2
  have FR2_7 : Hid (RF w7 _) := FR2_z.out.ro HR_z.out h2
  clear h1 h2
  go_wp2_with fail
  refine hK.out _ _ (trivial) (fun hHeld => ?_)
  clear hK K
  try simp only [nrm]
  refine wpAnyH_done (by kernel_rfl) ?_ _
  refine NoPanic.normal ?_
  clear hHeld
  go_wp2_with fail
  refine Calls.mono (ar w7 rp F.pm _ 14 _ HR_7.out) ?_
  rintro r w8 ⟨rfl, h1, h2⟩
  have HR_8 : Hid (RO _ _ _ _) := h1
  have HB_8 : Hid (But (fun i => i = rp) w w8) := HB_7.out.trans h2 (fun i _ hx => hx)
  have HM_8 : Hid (MD w8 B F M) := HM_7.out.ro HR_7.out h2
  have FR1_8 : Hid (RF w8 _) := FR1_7.out.ro HR_7.out h2
  have FR2_8 : Hid (RF w8 _) := FR2_7.out.ro HR_7.out h2
  clear h1 h2 HR_7 HB_7 HM_7 FR1_7 FR2_7
  go_wp2_with fail
  refine bodyPost_end (v := .tuple #[]) (by simp [results, Tryz.results120, go_sem]) rfl ?_
  refine ⟨rfl, ?_, HB_8.out⟩
  have H := HR_8.out
  rw [fk, ER2.out] at H
  unfold lendL
  rw [← ER1.out]
  exact H
 | some x =>
  obtain ⟨c, aq, ah⟩ := x
  rw [show pvR (some (c, aq, ah) : AR) = .pointer (some ⟨aq, 0, none⟩) from rfl]
  go_upto_region 5 with fail
  have BB_6 := hI_ (Below.refl w6.heap.size w6)
  refine wp_region_noPanic ?_
  refine wp_region_held_drew (S := fun V => (∃ z : Int, VA V rp [.pointer (some ⟨F.pm, 0, none⟩), .int .i64 z] 148) ∧ VA V aq (c.cells ah) 85) (by kernel_rfl) (⟨⟨_, VA.drew HR_6.out⟩, VA.drew FR1_6.out.1⟩) ?_
  intro hHeld
  have bz := (Below.refl w6.heap.size w6).drew
  have HM_z := hI_ (HM_6.out.step bz)
  have HR_z := hI_ (HR_6.out.step bz)
  have FR1_z : Hid (RF _ _) := FR1_6.out.step bz
  have FR2_z : Hid (RF _ _) := FR2_6.out.step bz
  have BB_z := hI_ (BB_6.out.trans (bz.mono BB_6.out.size))
  generalize w6.drew = wz at *
  clear bz
  refine tK 0 32 (.pointer (some ⟨rp, 0, none⟩)) (by exact rfl) (Or.inl ⟨by rfl, ?_⟩) ?_
  ·intro wq hS
   go_simp
  try simp only [nrm]
  refine tK 1 33 (.pointer (some ⟨aq, 0, none⟩)) (by exact rfl) (Or.inl ⟨by rfl, ?_⟩) ?_
  ·intro wq hS
   go_simp
  try simp only [nrm]
  refine tK 2 34 (.bool true) (by exact rfl) (Or.inl ⟨by rfl, ?_⟩) ?_
  ·intro wq hS
   go_simp
  try simp only [nrm]
  refine tK 3 35 (.bool true) (by exact rfl) (Or.inl ⟨by rfl, ?_⟩) ?_
  ·intro wq hS
   go_simp
  try simp only [nrm]
  refine tK 4 36 (.int .i64 n) (by exact rfl) (Or.inl ⟨by rfl, ?_⟩) ?_
  ·intro wq hS
   go_simp
  try simp only [nrm]
  refine tK 5 37 (.pointer (some ⟨rp, 0, none⟩)) (by exact rfl) (Or.inl ⟨by rfl, ?_⟩) ?_
  ·intro wq hS
   go_simp
  try simp only [nrm]
  refine tK 6 38 (.pointer (some ⟨rp, 0, none⟩)) (by exact rfl) (Or.inl ⟨by rfl, ?_⟩) ?_
  ·intro wq hS
   go_simp
  try simp only [nrm]
  refine tK 7 39 (.pointer (some ⟨rp, 0, none⟩)) (by exact rfl) (Or.inl ⟨by rfl, ?_⟩) ?_
  ·intro wq hS
   go_simp
  try simp only [nrm]
  refine tK 8 40 (.pointer (some ⟨F.pm, 0, none⟩)) (by exact rfl) (Or.inl ⟨by rfl, ?_⟩) ?_
  ·intro wq hS
   obtain ⟨⟨z, hz⟩, _⟩ := hS
   have c := VA.cell hz 0 (v := .pointer (some ⟨F.pm, 0, none⟩)) rfl
   go_simp
  try simp only [nrm]
  refine tK 9 41 (.pointer (some ⟨aq, 0, none⟩)) (by exact rfl) (Or.inl ⟨by rfl, ?_⟩) ?_
  ·intro wq hS
   go_simp
  try simp only [nrm]
  refine tK 10 42 (.pointer (some ⟨aq, 0, none⟩)) (by exact rfl) (Or.inl ⟨by rfl, ?_⟩) ?_
  ·intro wq hS
   go_simp
  try simp only [nrm]
  refine tK 11 43 (.pointer (some ⟨aq, 0, none⟩)) (by exact rfl) (Or.inl ⟨by rfl, ?_⟩) ?_
  ·intro wq hS
   go_simp
  try simp only [nrm]
  refine tK 12 44 (.agg c.told.toArray) (by exact rfl) (yieldsIf_load_mid (by rfl) _ _ rfl _ _ rfl _ _ (fun wq hS => (fun j u hj => by rw [Nat.zero_add]; exact VA.cell hS.2 j (mG hj))) Tryz.underlying36 rfl cm) ?_
  try simp only [nrm]
  clear hHeld
  refine rdy 13 (fun K hK => ?_)
  go_simp
  refine Calls.mono (ig wz B F M HM_z.out c) ?_
  rintro e wv ⟨⟨v, rfl, o1⟩, bv⟩
  have HM_v := hI_ (HM_z.out.step bv)
  have HR_v := hI_ (HR_z.out.step bv)
  have FR1_v : Hid (RF _ _) := FR1_z.out.step bv
  have FR2_v : Hid (RF _ _) := FR2_z.out.step bv
  have BB_v := hI_ (BB_z.out.trans (bv.mono BB_z.out.size))
  clear o1
  clear bv
  go_wp2_with fail
  refine hK.out _ _ (⟨⟨_, HR_v.out⟩, FR1_v.out.1⟩) (fun hHeld => ?_)
  try simp only [nrm]
  clear hK K
  refine tK 14 46 (.int .i64 (ver M c.prod).lim) (by exact rfl) (Or.inl ⟨by rfl, ?_⟩) ?_
  ·intro wq hS
   have c1 := oW (ver M c.prod) v wq
   go_simp
  try simp only [nrm]
  refine tK 15 47 (.bool (decide ((ver M c.prod).lim < n))) (by exact rfl) (Or.inl ⟨by rfl, ?_⟩) ?_
  ·intro wq hS
   go_simp
  try simp only [nrm]
  refine tK 16 48 (.bool (decide ((ver M c.prod).lim < n))) (by exact rfl) (Or.inl ⟨by rfl, ?_⟩) ?_
  ·intro wq hS
   go_simp
  try simp only [nrm]
  refine rdy 17 (fun K hK => ?_)
  go_simp
  refine (ar wv rp F.pm _ 12 _ HR_v.out).mono ?_
  rintro r w7 ⟨rfl, h1, h2⟩
  have HR_7 : Hid (RO _ _ _ _) := h1
  have HB_7 : Hid (But (fun i => i = rp) w w7) := HB_6.out.trans ((af BB_v.out (fun i => i = rp)).trans h2 (fun i hi hx => hx)) (fun i _ hx => hx)
  have HM_7 : Hid (MD w7 B F M) := HM_v.out.ro HR_v.out h2
  have FR1_7 : Hid (RF w7 _) := FR1_v.out.ro HR_v.out h2
  have FR2_7 : Hid (RF w7 _) := FR2_v.out.ro HR_v.out h2
  clear h1 h2
  go_wp2_with fail
  refine hK.out _ _ (⟨⟨_, HR_7.out⟩, FR1_7.out.1⟩) (fun hHeld => ?_)
  clear hK K
  try simp only [nrm]
  refine wpAnyH_done (by kernel_rfl) ?_ _
  refine NoPanic.normal ?_
  clear hHeld
  have c5 := FR1_7.out.1.cell 5 (v := .int .i64 c.bal) rfl
  go_wp2_with fail
  refine Calls.mono (ar w7 rp F.pm _ 14 _ HR_7.out) ?_
  rintro r w8 ⟨rfl, h1, h2⟩
  have HR_8 : Hid (RO _ _ _ _) := h1
  have HB_8 : Hid (But (fun i => i = rp) w w8) := HB_7.out.trans h2 (fun i _ hx => hx)
  have HM_8 : Hid (MD w8 B F M) := HM_7.out.ro HR_7.out h2
  have FR1_8 : Hid (RF w8 _) := FR1_7.out.ro HR_7.out h2
  have FR2_8 : Hid (RF w8 _) := FR2_7.out.ro HR_7.out h2
  clear h1 h2 HR_7 HB_7 HM_7 FR1_7 FR2_7
  clear c5
  go_wp2_with fail
  refine bodyPost_end (v := .tuple #[]) (by simp [results, Tryz.results120, go_sem]) rfl ?_
  refine ⟨rfl, ?_, HB_8.out⟩
  have H := HR_8.out
  rw [fk, ER2.out] at H
  unfold lendL
  rw [← ER1.out]
  exact H
set_option maxRecDepth 100000 in
theorem iI (w : World) (n : Int) (hn : I64 n) :
  Calls Tryz.prog 141 #[.int .i64 n] w fun e w' => e = .returned (.agg #[.int .i64 (dhi n), .int .u64 (dlo n), .int .i64 0]) ∧ Below w.heap.size w w' := by
 have B1 := (Below.refl w.heap.size w).alloc (Nat.le_refl _) (.cells #[.int .i64 0, .int .u64 0, .int .i64 0] 44)
 have V1 := aa w zdl 44
 go_enter Tryz.func141, Tryz.ntmps141
 go_wp2_with fail
 have e1 : n / 9223372036854775808 = dhi n := by unfold dhi; have := hn; unfold I64 at this; omega
 have e2 : IntKind.u64.wrap n = dlo n := by unfold dlo; simp [IntKind.wrap, IntKind.signed, IntKind.bits]
 refine bodyPost_ret (v := .agg #[.int .i64 (dhi n), .int .u64 (dlo n), .int .i64 0]) (by simp [results, Tryz.results141, go_sem, e1, e2]) rfl ⟨rfl, ?_⟩
 exact (Below.refl w.heap.size w).alloc (Nat.le_refl _) _
def entL (cur d c n : Int) : List Ln := [⟨d, cur, dhi n, dlo n, 0⟩, ⟨c, cur, dhi (-n), dlo (-n), 0⟩]
def pstB (b : Int → Int → Int) (cur d c n : Int) : Int → Int → Int := if n = 0 then b else pst b (entL cur d c n)
def pstN (b : Int → Int → Int) (m cur d c n : Int) : Int := if n = 0 then m else pcnt b (entL cur d c n) m
theorem lJ {α : Type} {K : Kd α} {w : World} {p : Nat} {xs : List α} {T : TypeId} (h : VA w p (K.cells xs) T) (hl : xs.length ≤ 9223372036854775807) : Sl K w (.slice (some ⟨p, 0, none⟩) xs.length xs.length) xs := by
 refine ⟨some ⟨p, 0, none⟩, xs.length, rfl, Nat.le_refl _, hl, fun _ => ⟨p, 0, rfl, h.lt, fun i x hi j u hj => ?_⟩⟩
 rw [Nat.zero_add]
 refine h.cell _ ?_
 rw [K.cells_get xs i x hi j (by rw [← K.len x]; exact (List.getElem?_eq_some_iff.1 hj).1)]
 exact hj
theorem qE {o : Oper} {y : Nat → Option Bool} {a : Act} {w : World} {K : Act → World → Prop} {Q : Exit → Act → World → Prop} {k0 : Prop} (h : Region.wanted o y = true) (k : o.wp Tryz.prog a w K Q) : if Region.wanted o y = true then o.wp Tryz.prog a w K Q else k0 := by
 rw [if_pos h]
 exact k
def ZLn : Value := .agg #[.int .i64 0, .int .i64 0, .int .i64 0, .int .u64 0, .int .i64 0]
theorem vP (x y : Ln) : Instr.fill (fun i => some (i * 5, 5)) ((Array.range (2 * 5)).map (ZLn.cells[· % ZLn.cells.size]!)) [(0, Value.agg x.enc.toArray), (1, Value.agg y.enc.toArray)] = some (LN.cells [x, y]).toArray := by kernel_rfl
theorem wK {w : World} {o : Oper} {a : Act} {K : Act → World → Prop} {Q : Exit → Act → World → Prop} (z1 z2 : Operand) (ho : o.op = .buildSlice 46 2 #[(0, z1), (1, z2)]) (x y : Ln) (h1 : a.eval z1 = .agg x.enc.toArray) (h2 : a.eval z2 = .agg y.enc.toArray)
  (h : K (a.put o.dst (.slice (some ⟨w.heap.size, 0, none⟩) 2 2)) (w.alloc (.cells (LN.cells [x, y]).toArray 91))) : o.wp Tryz.prog a w K Q := by
 obtain ⟨i0, hi, hz⟩ := Option.map_eq_some_iff.1 oZ
 simp only [Prod.mk.injEq] at hz
 refine wp_buildSlice 46 91 2 _ ho _ i0 ZLn Tryz.underlying46 hi hz.1 (by rw [hz.2.1]; decide) (by rw [hz.2.1]; decide) ?_ h
 rw [hz.2.1]
 simp only [List.map_toArray, List.map_cons, List.map_nil, h1, h2]
 exact vP x y
theorem rz {cur d c n : Int} (hu : I64 cur) (hd : I64 d) (hc : I64 c) (hn : I64 n) (hn' : I64 (-n)) : ∀ x ∈ entL cur d c n, x.wf := by
 have k : ∀ z, I64 z → (Lit.int .i64 (dhi z)).wf = true ∧ (Lit.int .u64 (dlo z)).wf = true := fun z hz => by
  unfold I64 at hz
  refine ⟨?_, ?_⟩
  ·unfold dhi; simp [Lit.wf, IntKind.min, IntKind.max, IntKind.signed, IntKind.bits]; omega
  ·unfold dlo; simp [Lit.wf, IntKind.min, IntKind.max, IntKind.signed, IntKind.bits]; omega
 intro x hx
 unfold entL at hx
 simp only [List.mem_cons, List.not_mem_nil, or_false] at hx
 rcases hx with rfl | rfl
 ·exact ⟨hd, hu, (k n hn).1, (k n hn).2, by show (_ : Int) ≤ 0; decide, by show (0 : Int) ≤ _; decide⟩
 ·exact ⟨hc, hu, (k _ hn').1, (k _ hn').2, by show (_ : Int) ≤ 0; decide, by show (0 : Int) ≤ _; decide⟩
theorem l8 (cur d c n : Int) : (entL cur d c n).length = 2 := rfl
set_option maxRecDepth 100000 in
theorem gP (w : World) (B : Nat) (F : FB) (M : PM) (h : MD w B F M) (T : TBL w) (cur d c n : Int) (hu : I64 cur) (hd : I64 d) (hc : I64 c) (n1 : -10000000000000 ≤ n) (n2 : n ≤ 10000000000000) (hm : 0 ≤ M.n ∧ M.n ≤ 4611686018427387904) :
  Calls Tryz.prog 134 #[.pointer (some ⟨F.pm, 0, none⟩), .int .i64 cur, .int .i64 d, .int .i64 c, .int .i64 n] w fun e w' => e = .returned (.tuple #[]) ∧ MD w' B F { M with b := pstB M.b cur d c n, n := pstN M.b M.n cur d c n } ∧ But (fun i => i = F.pl ∨ i = F.ml) w w' := by
 have HN : Hid (I64 n ∧ I64 (-n)) := ⟨by unfold I64; omega, by unfold I64; omega⟩
 have HW := hI_ (rz hu hd hc HN.out.1 HN.out.2)
 have HC := hI_ hm
 have HM_ : Hid (MD w B F M) := h
 have HT_ : Hid (TBL w) := T
 have BB_ := hI_ (Below.refl w.heap.size w)
 clear hu hd hc h T hm
 by_cases h0 : n = 0
 ·subst h0
  go_enter Tryz.func134, Tryz.ntmps134
  go_wp2_with fail
  refine bodyPost_ret (v := .tuple #[]) (by simp [results, Tryz.results134, go_sem]) rfl ⟨rfl, ?_, af BB_.out _⟩
  exact HM_.out
 ·have hz : (n = 0) = False := by simp [h0]
  go_enter Tryz.func134, Tryz.ntmps134
  go_upto_region 1 with fail
  refine wp_region_noPanic ?_
  refine wp_region_held_drew (S := fun V => VA V F.pm (mcells F M) 100) (by kernel_rfl) (VA.drew HM_.out.va) ?_
  intro hHeld
  have bk := (Below.refl w.heap.size w).drew
  have HM_k := hI_ (HM_.out.step bk)
  have HT_k := hI_ (HT_.out.step bk)
  have BB_k := hI_ (BB_.out.trans (bk.mono BB_.out.size))
  generalize w.drew = wk at *
  clear bk
  refine tK 0 12 (.pointer (some ⟨F.pm, 0, none⟩)) (by exact rfl) (Or.inl ⟨by rfl, ?_⟩) ?_
  ·intro wq hS
   go_simp
  try simp only [nrm]
  refine tK 1 13 (.pointer (some ⟨F.pm, 0, none⟩)) (by exact rfl) (Or.inl ⟨by rfl, ?_⟩) ?_
  ·intro wq hS
   go_simp
  try simp only [nrm]
  refine tK 2 14 (.pointer (some ⟨F.pm, 4, none⟩)) (by exact rfl) (Or.inl ⟨by rfl, ?_⟩) ?_
  ·intro wq hS
   go_simp
  try simp only [nrm]
  refine tK 3 15 (.pointer (some ⟨F.pl, 0, none⟩)) (by exact rfl) (Or.inl ⟨by rfl, ?_⟩) ?_
  ·intro wq hS
   have c := VA.cell hS 4 (v := .pointer (some ⟨F.pl, 0, none⟩)) rfl
   go_simp
  try simp only [nrm]
  refine tK 4 16 (.int .i64 d) (by exact rfl) (Or.inl ⟨by rfl, ?_⟩) ?_
  ·intro wq hS
   go_simp
  try simp only [nrm]
  refine tK 5 17 (.int .i64 cur) (by exact rfl) (Or.inl ⟨by rfl, ?_⟩) ?_
  ·intro wq hS
   go_simp
  try simp only [nrm]
  refine tK 6 18 (.int .i64 n) (by exact rfl) (Or.inl ⟨by rfl, ?_⟩) ?_
  ·intro wq hS
   go_simp
  try simp only [nrm]
  refine tK 9 21 (.int .i64 c) (by exact rfl) (Or.inl ⟨by rfl, ?_⟩) ?_
  ·intro wq hS
   go_simp
  try simp only [nrm]
  refine tK 10 22 (.int .i64 cur) (by exact rfl) (Or.inl ⟨by rfl, ?_⟩) ?_
  ·intro wq hS
   go_simp
  try simp only [nrm]
  refine tK 11 23 (.int .i64 n) (by exact rfl) (Or.inl ⟨by rfl, ?_⟩) ?_
  ·intro wq hS
   go_simp
  try simp only [nrm]
  refine tK 12 24 (.int .i64 (-n)) (by exact rfl) (Or.inl ⟨by rfl, ?_⟩) ?_
  ·intro wq hS
   go_simp
   rw [IntKind.wrap_i64]; omega
  try simp only [nrm]
  clear hHeld
  refine rdy 7 (fun K hK => ?_)
  go_simp
  refine Calls.mono (iI wk n HN.out.1) ?_
  rintro e wa ⟨rfl, ba⟩
  have HM_a := hI_ (HM_k.out.step ba)
  have HT_a := hI_ (HT_k.out.step ba)
  have BB_a := hI_ (BB_k.out.trans (ba.mono BB_k.out.size))
  clear ba
  go_wp2_with fail
  refine hK.out _ _ (HM_a.out.va) (fun hHeld => ?_)
  try simp only [nrm]
  clear hK K
  refine tK 8 20 (.agg #[.int .i64 d, .int .i64 cur, .int .i64 (dhi n), .int .u64 (dlo n), .int .i64 0]) (by exact rfl) (Or.inl ⟨by rfl, ?_⟩) ?_
  ·intro wq hS
   go_simp
  try simp only [nrm]
  clear hHeld
  refine rdy 13 (fun K hK => ?_)
  go_simp
  refine Calls.mono (iI wa (-n) HN.out.2) ?_
  rintro e wc ⟨rfl, bc⟩
  have HM_c := hI_ (HM_a.out.step bc)
  have HT_c := hI_ (HT_a.out.step bc)
  have BB_c := hI_ (BB_a.out.trans (bc.mono BB_a.out.size))
  clear bc
  go_wp2_with fail
  refine hK.out _ _ (HM_c.out.va) (fun hHeld => ?_)
  try simp only [nrm]
  clear hK K
  refine tK 14 26 (.agg #[.int .i64 c, .int .i64 cur, .int .i64 (dhi (-n)), .int .u64 (dlo (-n)), .int .i64 0]) (by exact rfl) (Or.inl ⟨by rfl, ?_⟩) ?_
  ·intro wq hS
   go_simp
  try simp only [nrm]
  clear hHeld
  refine rdy 15 (fun K hK => ?_)
  refine qE (by rfl) (wK _ _ rfl ⟨d, cur, dhi n, dlo n, 0⟩ ⟨c, cur, dhi (-n), dlo (-n), 0⟩ (by rfl) (by rfl) ?_)
  have bd := (Below.refl wc.heap.size wc).alloc (Nat.le_refl _) (.cells (LN.cells (entL cur d c n)).toArray 91)
  have HS_d := hI_ (lJ (K := LN) (xs := entL cur d c n) (aa wc (LN.cells (entL cur d c n)) 91) (by rw [l8]; decide))
  have HM_d := hI_ (HM_c.out.step bd)
  have HT_d := hI_ (HT_c.out.step bd)
  have BB_d := hI_ (BB_c.out.trans (bd.mono BB_c.out.size))
  clear bd
  rw [show LN.cells [(⟨d, cur, dhi n, dlo n, 0⟩ : Ln), ⟨c, cur, dhi (-n), dlo (-n), 0⟩] = LN.cells (entL cur d c n) from rfl]
  rw [l8] at HS_d
  generalize wc.alloc (.cells (LN.cells (entL cur d c n)).toArray 91) = wd at *
  generalize wc.heap.size = q at *
  refine hK.out _ _ HM_d.out.va (fun hHeld => ?_)
  try simp only [nrm]
  clear hK K
  clear hHeld
  refine rdy 16 (fun K hK => ?_)
  go_simp
  refine Calls.mono (su F.pl F.ml M.b M.n _ (entL cur d c n) wd HM_d.out.led HS_d.out HW.out HT_d.out.lim HC.out) ?_
  rintro e we ⟨rfl, hL, kB⟩
  have HM_e : Hid (MD we B F { M with b := pst M.b (entL cur d c n), n := pcnt M.b (entL cur d c n) M.n }) := HM_d.out.setL kB hL
  have KB : Hid (But (fun i => i = F.pl ∨ i = F.ml) w we) := (af BB_d.out _).trans kB (fun _ _ hx => hx)
  clear hL kB
  go_wp2_with fail
  refine hK.out _ _ HM_e.out.va (fun hHeld => ?_)
  try simp only [nrm]
  clear hK K
  refine wpAnyH_done (by kernel_rfl) ?_ _
  refine NoPanic.normal ?_
  clear hHeld
  go_wp2_with fail
  refine bodyPost_end (v := .tuple #[]) (by simp [results, Tryz.results134, go_sem]) rfl ⟨rfl, ?_, KB.out⟩
  unfold pstB pstN
  rw [if_neg h0, if_neg h0]
  exact HM_e.out
def setB (a : PA) (v : Int) : PA := { a with bal := v }
theorem PA.wf.setB {a : PA} (h : a.wf) {v : Int} (h1 : -10000000000000 ≤ v) (h2 : v ≤ 10000000000000) : (setB a v).wf := ⟨h.id, h.prod, h.cur, h.kind, ⟨h1, h2⟩, h.held, h.acc, h.hs, h.hl, h.hv, h.sum⟩
theorem IsA.set {F : FB} {M : PM} {i : Nat} {a b : PA} {x : Nat × Nat} (h : IsA F M i a x) : IsA F { M with al := M.al.set i b } i b x := ⟨by show (M.al.set i b)[i]? = some b; rw [List.getElem?_set_self (List.getElem?_eq_some_iff.1 h.a).1], h.x⟩
theorem IsA.other {F : FB} {M : PM} {i j : Nat} {a b : PA} {x : Nat × Nat} (h : IsA F M j a x) (hij : i ≠ j) : IsA F { M with al := M.al.set i b } j a x := ⟨by show (M.al.set i b)[j]? = some a; rw [List.getElem?_set_ne hij]; exact h.a, h.x⟩
theorem MD.awf {w : World} {B : Nat} {F : FB} {M : PM} (h : MD w B F M) {i : Nat} {a : PA} {x : Nat × Nat} (hi : IsA F M i a x) : a.wf := h.wf.acs a (List.mem_of_getElem? hi.a)
theorem MD.aw {w : World} {B : Nat} {F : FB} {M : PM} (h : MD w B F M) {i : Nat} {a : PA} {x : Nat × Nat} (hi : IsA F M i a x) : VA w x.1 (a.cells x.2) 85 := (h.acs i a x hi.a hi.x).1
theorem MD.setB {w : World} {B : Nat} {F : FB} {M : PM} (h : MD w B F M) {i : Nat} {a : PA} {x : Nat × Nat} (hi : IsA F M i a x) {v : Int} (h1 : -10000000000000 ≤ v) (h2 : v ≤ 10000000000000) : MD (w.setCell ⟨x.1, 5, none⟩ (.int .i64 v)) B F { M with al := M.al.set i (setB a v) } :=
 h.setA1 hi (ax w x.1 5 _) ((h.aw hi).set 5 (.int .i64 v)) rfl ((h.awf hi).setB h1 h2) rfl
theorem I64.s {n : Int} (h1 : -10000000000000 ≤ n) (h2 : n ≤ 10000000000000) : I64 n := ⟨by omega, by omega⟩
theorem MD.hi {w : World} {B : Nat} {F : FB} {M : PM} (h : MD w B F M) {i : Nat} {x : Nat × Nat} (hx : F.ab[i]? = some x) : B ≤ x.1 ∧ B ≤ x.2 := h.low.2.2.2.2.2 x (List.mem_of_getElem? hx)
def cashM (M : PM) (i : Nat) (a : PA) (n : Int) : PM := { M with al := M.al.set i (setB a (a.bal + n)), b := pstB M.b a.cur 1 2 n, n := pstN M.b M.n a.cur 1 2 n }
def twoM (M : PM) (i : Nat) (a : PA) (v : Int) (j : Nat) (b : PA) (u : Int) (d c n : Int) : PM := { M with al := (M.al.set i (setB a v)).set j (setB b u), b := pstB M.b a.cur d c n, n := pstN M.b M.n a.cur d c n }
set_option maxRecDepth 100000 in
theorem jV (w : World) (B : Nat) (F : FB) (M : PM) (h : MD w B F M) (T : TBL w) (hB : 6 ≤ B) (i : Nat) (a : PA) (x : Nat × Nat) (hi : IsA F M i a x) (n : Int) (n1 : -10000000000000 ≤ n) (n2 : n ≤ 10000000000000) (v1 : -10000000000000 ≤ a.bal + n) (v2 : a.bal + n ≤ 10000000000000) (hm : 0 ≤ M.n ∧ M.n ≤ 4611686018427387904) :
  Calls Tryz.prog 86 #[.pointer (some ⟨F.pm, 0, none⟩), .pointer (some ⟨x.1, 0, none⟩), .int .i64 n] w fun e w' => e = .returned (.tuple #[]) ∧ MD w' B F (cashM M i a n) ∧ But (fun j => j = F.pl ∨ j = F.ml ∨ j = x.1) w w' := by
 have HA := hI_ (h.awf hi)
 have bb1 := HA.out.bal.1
 have bb2 := HA.out.bal.2
 have HM_0 : Hid (MD w B F M) := h
 have HT_0 : Hid (TBL w) := T
 have HI : Hid (IsA F M i a x) := hi
 have HL : Hid (B ≤ x.1 ∧ B ≤ x.2) := h.hi hi.x
 have HC := hI_ hm
 have HBB : Hid (6 ≤ B) := hB
 clear h T hi hm hB
 go_enter Tryz.func86, Tryz.ntmps86
 have c5 := (HM_0.out.aw HI.out).cell 5 (v := .int .i64 a.bal) rfl
 have f5 := (HM_0.out.aw HI.out).free 5
 have hbk := (HM_0.out.aw HI.out).blk
 have HM_1 := hI_ (HM_0.out.setB HI.out (v := a.bal + n) v1 v2)
 have HU_1 := hI_ ((ax w x.1 5 (.int .i64 (a.bal + n))).but)
 go_upto_region 1 with fail
 generalize hW : w.setCell ⟨x.1, 5, none⟩ (.int .i64 (a.bal + n)) = w1 at *
 clear hW c5 f5 hbk
 have HT_1 : Hid (TBL w1) := HT_0.out.but HU_1.out (fun j hj => by have := HL.out.1; have := HBB.out; omega)
 have c2 := (HM_1.out.aw (IsA.set HI.out)).cell 2 (v := .int .i64 a.cur) rfl
 go_wp2_with fail
 refine (gP w1 B F _ HM_1.out HT_1.out a.cur 1 2 n (I64.s (by have := HA.out.cur; omega) (by have := HA.out.cur; omega)) (I64.s (by decide) (by decide)) (I64.s (by decide) (by decide)) n1 n2 HC.out).mono ?_
 rintro e w2 ⟨rfl, hM, hb⟩
 have HM_2 := hI_ hM
 have HU_2 : Hid (But (fun j => j = F.pl ∨ j = F.ml ∨ j = x.1) w w2) := (HU_1.out.mono (fun j hj => Or.inr (Or.inr hj))).trans hb (fun j _ hj => hj.elim Or.inl (fun e => Or.inr (Or.inl e)))
 clear hM hb c2
 go_wp2_with fail
 exact bodyPost_end (v := .tuple #[]) (by simp [results, Tryz.results86, go_sem]) rfl ⟨rfl, HM_2.out, HU_2.out⟩
set_option maxRecDepth 100000 in
theorem jg (w : World) (B : Nat) (F : FB) (M : PM) (h : MD w B F M) (T : TBL w) (hB : 6 ≤ B) (i j : Nat) (a b : PA) (x y : Nat × Nat) (hi : IsA F M i a x) (hj : IsA F M j b y) (hij : i ≠ j) (n : Int) (n1 : -10000000000000 ≤ n) (n2 : n ≤ 10000000000000) (v1 : -10000000000000 ≤ a.bal - n) (v2 : a.bal - n ≤ 10000000000000) (u1 : -10000000000000 ≤ b.bal + n) (u2 : b.bal + n ≤ 10000000000000) (hm : 0 ≤ M.n ∧ M.n ≤ 4611686018427387904) :
  Calls Tryz.prog 87 #[.pointer (some ⟨F.pm, 0, none⟩), .pointer (some ⟨x.1, 0, none⟩), .pointer (some ⟨y.1, 0, none⟩), .int .i64 n] w fun e w' => e = .returned (.tuple #[]) ∧ MD w' B F (twoM M i a (a.bal - n) j b (b.bal + n) 2 2 n) ∧ But (fun j => j = F.pl ∨ j = F.ml ∨ j = x.1 ∨ j = y.1) w w' := by
 have HA := hI_ (h.awf hi)
 have bb1 := HA.out.bal.1
 have bb2 := HA.out.bal.2
 have HM_0 : Hid (MD w B F M) := h
 have HT_0 : Hid (TBL w) := T
 have HI : Hid (IsA F M i a x) := hi
 have HL : Hid (B ≤ x.1 ∧ B ≤ x.2) := h.hi hi.x
 have HC := hI_ hm
 have HBB : Hid (6 ≤ B) := hB
 have HJ : Hid (IsA F M j b y) := hj
 have HIJ : Hid (i ≠ j) := hij
 have HLJ : Hid (B ≤ y.1 ∧ B ≤ y.2) := h.hi hj.x
 have HAJ := hI_ (h.awf hj)
 have bc1 := HAJ.out.bal.1
 have bc2 := HAJ.out.bal.2
 clear h T hi hj hij hm hB
 go_enter Tryz.func87, Tryz.ntmps87
 have c5 := (HM_0.out.aw HI.out).cell 5 (v := .int .i64 a.bal) rfl
 have f5 := (HM_0.out.aw HI.out).free 5
 have hbk := (HM_0.out.aw HI.out).blk
 have HM_1 := hI_ (HM_0.out.setB HI.out (v := a.bal - n) v1 v2)
 have HU_1 := hI_ ((ax w x.1 5 (.int .i64 (a.bal - n))).but)
 go_upto_region 1 with fail
 generalize hW : w.setCell ⟨x.1, 5, none⟩ (.int .i64 (a.bal - n)) = w1 at *
 clear hW c5 f5 hbk
 have HT_1 : Hid (TBL w1) := HT_0.out.but HU_1.out (fun j hj => by have := HL.out.1; have := HBB.out; omega)
 have HJ1 := hI_ (HJ.out.other HIJ.out (b := setB a (a.bal - n)))
 have HI1 := hI_ (HI.out.set (b := setB a (a.bal - n)))
 have c5 := (HM_1.out.aw HJ1.out).cell 5 (v := .int .i64 b.bal) rfl
 have f5 := (HM_1.out.aw HJ1.out).free 5
 have hbk := (HM_1.out.aw HJ1.out).blk
 have HM_2 := hI_ (HM_1.out.setB HJ1.out (v := b.bal + n) u1 u2)
 have HU_2 := hI_ ((ax w1 y.1 5 (.int .i64 (b.bal + n))).but)
 go_upto_region 2 with fail
 generalize hW : w1.setCell ⟨y.1, 5, none⟩ (.int .i64 (b.bal + n)) = w2 at *
 clear hW c5 f5 hbk
 have HT_2 : Hid (TBL w2) := HT_1.out.but HU_2.out (fun j hj => by have := HLJ.out.1; have := HBB.out; omega)
 have c2 := (HM_2.out.aw (IsA.other HI1.out (fun e => HIJ.out e.symm))).cell 2 (v := .int .i64 a.cur) rfl
 go_wp2_with fail
 refine (gP w2 B F _ HM_2.out HT_2.out a.cur 2 2 n (I64.s (by have := HA.out.cur; omega) (by have := HA.out.cur; omega)) (I64.s (by decide) (by decide)) (I64.s (by decide) (by decide)) n1 n2 HC.out).mono ?_
 rintro e w3 ⟨rfl, hM, hb⟩
 have HM_3 := hI_ hM
 have HU_3 : Hid (But (fun j => j = F.pl ∨ j = F.ml ∨ j = x.1 ∨ j = y.1) w w3) := ((HU_1.out.mono (fun j hj => Or.inr (Or.inr (Or.inl hj)))).trans HU_2.out (fun j _ hj => Or.inr (Or.inr (Or.inr hj)))).trans hb (fun j _ hj => hj.elim Or.inl (fun e => Or.inr (Or.inl e)))
 clear hM hb c2
 go_wp2_with fail
 exact bodyPost_end (v := .tuple #[]) (by simp [results, Tryz.results87, go_sem]) rfl ⟨rfl, HM_3.out, HU_3.out⟩
set_option maxRecDepth 100000 in
theorem jX (w : World) (B : Nat) (F : FB) (M : PM) (h : MD w B F M) (T : TBL w) (hB : 6 ≤ B) (i j : Nat) (a b : PA) (x y : Nat × Nat) (hi : IsA F M i a x) (hj : IsA F M j b y) (hij : i ≠ j) (n : Int) (n1 : -10000000000000 ≤ n) (n2 : n ≤ 10000000000000) (v1 : -10000000000000 ≤ a.bal + n) (v2 : a.bal + n ≤ 10000000000000) (u1 : -10000000000000 ≤ b.bal + n) (u2 : b.bal + n ≤ 10000000000000) (hm : 0 ≤ M.n ∧ M.n ≤ 4611686018427387904) :
  Calls Tryz.prog 90 #[.pointer (some ⟨F.pm, 0, none⟩), .pointer (some ⟨x.1, 0, none⟩), .pointer (some ⟨y.1, 0, none⟩), .int .i64 n] w fun e w' => e = .returned (.tuple #[]) ∧ MD w' B F (twoM M i a (a.bal + n) j b (b.bal + n) 3 2 n) ∧ But (fun j => j = F.pl ∨ j = F.ml ∨ j = x.1 ∨ j = y.1) w w' := by
 have HA := hI_ (h.awf hi)
 have bb1 := HA.out.bal.1
 have bb2 := HA.out.bal.2
 have HM_0 : Hid (MD w B F M) := h
 have HT_0 : Hid (TBL w) := T
 have HI : Hid (IsA F M i a x) := hi
 have HL : Hid (B ≤ x.1 ∧ B ≤ x.2) := h.hi hi.x
 have HC := hI_ hm
 have HBB : Hid (6 ≤ B) := hB
 have HJ : Hid (IsA F M j b y) := hj
 have HIJ : Hid (i ≠ j) := hij
 have HLJ : Hid (B ≤ y.1 ∧ B ≤ y.2) := h.hi hj.x
 have HAJ := hI_ (h.awf hj)
 have bc1 := HAJ.out.bal.1
 have bc2 := HAJ.out.bal.2
 clear h T hi hj hij hm hB
 go_enter Tryz.func90, Tryz.ntmps90
 have c5 := (HM_0.out.aw HI.out).cell 5 (v := .int .i64 a.bal) rfl
 have f5 := (HM_0.out.aw HI.out).free 5
 have hbk := (HM_0.out.aw HI.out).blk
 have HM_1 := hI_ (HM_0.out.setB HI.out (v := a.bal + n) v1 v2)
 have HU_1 := hI_ ((ax w x.1 5 (.int .i64 (a.bal + n))).but)
 go_upto_region 1 with fail
 generalize hW : w.setCell ⟨x.1, 5, none⟩ (.int .i64 (a.bal + n)) = w1 at *
 clear hW c5 f5 hbk
 have HT_1 : Hid (TBL w1) := HT_0.out.but HU_1.out (fun j hj => by have := HL.out.1; have := HBB.out; omega)
 have HJ1 := hI_ (HJ.out.other HIJ.out (b := setB a (a.bal + n)))
 have HI1 := hI_ (HI.out.set (b := setB a (a.bal + n)))
 have c5 := (HM_1.out.aw HJ1.out).cell 5 (v := .int .i64 b.bal) rfl
 have f5 := (HM_1.out.aw HJ1.out).free 5
 have hbk := (HM_1.out.aw HJ1.out).blk
 have HM_2 := hI_ (HM_1.out.setB HJ1.out (v := b.bal + n) u1 u2)
 have HU_2 := hI_ ((ax w1 y.1 5 (.int .i64 (b.bal + n))).but)
 go_upto_region 2 with fail
 generalize hW : w1.setCell ⟨y.1, 5, none⟩ (.int .i64 (b.bal + n)) = w2 at *
 clear hW c5 f5 hbk
 have HT_2 : Hid (TBL w2) := HT_1.out.but HU_2.out (fun j hj => by have := HLJ.out.1; have := HBB.out; omega)
 have c2 := (HM_2.out.aw (IsA.other HI1.out (fun e => HIJ.out e.symm))).cell 2 (v := .int .i64 a.cur) rfl
 go_wp2_with fail
 refine (gP w2 B F _ HM_2.out HT_2.out a.cur 3 2 n (I64.s (by have := HA.out.cur; omega) (by have := HA.out.cur; omega)) (I64.s (by decide) (by decide)) (I64.s (by decide) (by decide)) n1 n2 HC.out).mono ?_
 rintro e w3 ⟨rfl, hM, hb⟩
 have HM_3 := hI_ hM
 have HU_3 : Hid (But (fun j => j = F.pl ∨ j = F.ml ∨ j = x.1 ∨ j = y.1) w w3) := ((HU_1.out.mono (fun j hj => Or.inr (Or.inr (Or.inl hj)))).trans HU_2.out (fun j _ hj => Or.inr (Or.inr (Or.inr hj)))).trans hb (fun j _ hj => hj.elim Or.inl (fun e => Or.inr (Or.inl e)))
 clear hM hb c2
 go_wp2_with fail
 exact bodyPost_end (v := .tuple #[]) (by simp [results, Tryz.results90, go_sem]) rfl ⟨rfl, HM_3.out, HU_3.out⟩
theorem wt {α β : Type} [DecidableEq α] {w : World} {ops : Array Oper} {rest : List Oper} {o : Oper} {a : Act} {Q : Exit → Act → World → Prop} (hg : o.guard = none) (m x v : Operand) (t : TypeId) (hop : o.op = Op.mapUpdate t m x v)
  (K : KK α) (enc : β → Value) (e : TypeId) (ht : Tryz.prog.underlying t = some (.map K.kt e)) (b : Nat) (xs : List (α × β)) (hm : a.eval m = .map (some b)) (h : AM K enc w b xs) (hn : xs.length < maxLen)
  (key : α) (val : β) (hx : a.eval x = K.kv key) (hv : a.eval v = enc val) (ha : K.ok key)
  (hK : ∀ w', AM K enc w' b ((key, val) :: xs) → w.mapTurned w' b → wpList Tryz.prog ops Q rest (a.put o.dst undef) w') : wpList Tryz.prog ops Q (o :: rest) a w := by
 refine wpList_plain hg fun K' hK' => ?_
 obtain ⟨w', hrun, r1, r2⟩ := h.store ht hn ha val
 unfold Oper.wp
 simp [execOp, hop, hm, hx, hv, hrun, Result.andThen]
 exact hK' _ _ (hK w' r1 r2)
theorem MD.maps {w : World} {B : Nat} {F : FB} {M : PM} (h : MD w B F M) : F.bm ≠ F.ml ∧ F.bm ≠ F.rm ∧ F.bm ≠ F.km ∧ F.ml ≠ F.rm ∧ F.ml ≠ F.km ∧ F.rm ≠ F.km := by
 have h1 := h.mps
 unfold FB.maps at h1
 simp only [List.nodup_cons, List.mem_cons, not_or] at h1
 exact ⟨h1.1.1, h1.1.2.1, h1.1.2.2.1, h1.2.1.1, h1.2.1.2.1, h1.2.2.1.1⟩
theorem MD.setK {w w' : World} {B : Nat} {F : FB} {M : PM} (h : MD w B F M) {ks : List (Nat × Unit)} (k : But (fun j => j = F.km) w w') (L : AM KU encS w' F.km ks) : MD w' B F { M with keys := ks } := by
 obtain ⟨S, hC⟩ := h.cat
 obtain ⟨sv, hV⟩ := h.cbm
 have Am := h.kys.isMap
 have m := h.maps
 have nv : ∀ {p : Nat} {cs : List Value} {T : TypeId}, VA w p cs T → ¬ (p = F.km) := fun v e => v.neM Am e
 refine ⟨h.va.but k (nv h.va), ⟨S, hC.butM hV k (fun j hj => by subst hj; exact NC.map Am (fun e => m.2.2.1 e.symm))⟩, ⟨sv, hV.but k (nv hV)⟩, h.led.but k (nv h.led.va) m.2.2.2.2.1, h.rts.but k m.2.2.2.2.2, L, h.row.but k (fun g hg hx => ?_), h.len, fun j a y ha hy => ?_, h.low, h.mps, h.abs, ⟨h.wf.day, h.wf.acs, h.wf.sort, h.wf.len, h.wf.rats, h.wf.seq, h.wf.run, h.wf.adds⟩⟩
 ·obtain ⟨cs, e⟩ := h.row.blkT hg
  subst hx
  obtain ⟨es, c, e2⟩ := Am
  have := e.symm.trans e2
  cases this
 ·have hb' := h.acs j a y ha hy
  exact ⟨hb'.1.but k (nv hb'.1), hb'.2.but k (fun e => (h.maps_ne hy).2.2.2 e.symm)⟩
theorem MD.setR {w w' : World} {B : Nat} {F : FB} {M : PM} (h : MD w B F M) {rs : List ((Int × Int) × Int)} (k : But (fun j => j = F.rm) w w') (L : AM KR encI w' F.rm rs) (hr : ∀ p ∈ rs, (0 ≤ p.1.1 ∧ p.1.1 ≤ 3) ∧ (0 ≤ p.1.2 ∧ p.1.2 ≤ 3) ∧ 1 ≤ p.2 ∧ p.2 ≤ 1000000000000) : MD w' B F { M with rates := rs } := by
 obtain ⟨S, hC⟩ := h.cat
 obtain ⟨sv, hV⟩ := h.cbm
 have Am := h.rts.isMap
 have m := h.maps
 have nv : ∀ {p : Nat} {cs : List Value} {T : TypeId}, VA w p cs T → ¬ (p = F.rm) := fun v e => v.neM Am e
 refine ⟨h.va.but k (nv h.va), ⟨S, hC.butM hV k (fun j hj => by subst hj; exact NC.map Am (fun e => m.2.1 e.symm))⟩, ⟨sv, hV.but k (nv hV)⟩, h.led.but k (nv h.led.va) m.2.2.2.1, L, h.kys.but k (fun e => m.2.2.2.2.2 e.symm), h.row.but k (fun g hg hx => ?_), h.len, fun j a y ha hy => ?_, h.low, h.mps, h.abs, ⟨h.wf.day, h.wf.acs, h.wf.sort, h.wf.len, hr, h.wf.seq, h.wf.run, h.wf.adds⟩⟩
 ·obtain ⟨cs, e⟩ := h.row.blkT hg
  subst hx
  obtain ⟨es, c, e2⟩ := Am
  have := e.symm.trans e2
  cases this
 ·have hb' := h.acs j a y ha hy
  exact ⟨hb'.1.but k (nv hb'.1), hb'.2.but k (fun e => (h.maps_ne hy).2.2.1 e.symm)⟩
def heldA (a : PA) (k n : Int) : PA := { a with held := a.held + n, hs := (k, n) :: a.hs }
theorem PA.wf.heldA {a : PA} (h : a.wf) {k n : Int} (hk : 1 ≤ k ∧ k ≤ 1000000000) (hn : 1 ≤ n ∧ n ≤ 10000000000000) (h0 : lkA a.hs k = none) (hl : a.hs.length < 64) (hh : a.held + n ≤ 20000000000000) : (heldA a k n).wf :=
 ⟨h.id, h.prod, h.cur, h.kind, h.bal, ⟨by have := h.held; show 0 ≤ a.held + n; omega, hh⟩, h.acc, List.pairwise_cons.2 ⟨fun p hp e => jS h0 p hp e.symm, h.hs⟩, by show (_ :: a.hs).length ≤ 64; simp; omega, fun p hp => by
  rcases List.mem_cons.1 hp with rfl | hp
  ·exact ⟨hk, hn⟩
  ·exact h.hv p hp, by show a.held + n = n + _; rw [h.sum]; omega⟩
set_option maxRecDepth 100000 in
theorem pd (w : World) (B : Nat) (F : FB) (M : PM) (h : MD w B F M) (i : Nat) (a : PA) (x : Nat × Nat) (hi : IsA F M i a x) (k n : Int) (hk : 1 ≤ k ∧ k ≤ 1000000000) (n1 : 1 ≤ n) (n2 : n ≤ 10000000000000) (h0 : lkA a.hs k = none) (hl : a.hs.length < 64) (hh : a.held + n ≤ 20000000000000) :
  Calls Tryz.prog 88 #[.pointer (some ⟨x.1, 0, none⟩), .int .i64 k, .int .i64 n] w fun e w' => e = .returned (.tuple #[]) ∧ MD w' B F { M with al := M.al.set i (heldA a k n) } ∧ But (fun j => j = x.1 ∨ j = x.2) w w' := by
 have W := (h.acs i a x hi.a hi.x).1
 have HW_0 : Hid (VA w x.1 (a.cells x.2) 85) := W
 have HA : Hid (AM KI encI w x.2 a.hs) := (h.acs i a x hi.a hi.x).2
 have HF := hI_ ((h.awf hi).heldA hk ⟨n1, n2⟩ h0 hl hh)
 have g0 := (h.awf hi).held.1
 have HM : Hid (MD w B F M) := h
 have HI : Hid (IsA F M i a x) := hi
 have HK : Hid (I64 k) := ⟨by omega, by omega⟩
 have HLN := hI_ hl
 have HNE : Hid (x.1 ≠ x.2) := HW_0.out.neM HA.out.isMap
 have c8 := HW_0.out.cell 8 (v := .map (some x.2)) rfl
 clear h hi h0 hl hk W
 go_enter Tryz.func88, Tryz.ntmps88
 go_upto_region 1 with (refine wt rfl _ _ _ 83 rfl KI encI 2 Tryz.underlying83 x.2 a.hs (by rfl) HA.out (by have := HLN.out; unfold maxLen; omega) k n (by rfl) (by rfl) HK.out ?_; intro w1 am tn)
 have HA_1 := hI_ am
 have HT_1 := hI_ (aP tn)
 have HW_1 : Hid (VA w1 x.1 (a.cells x.2) 85) := HW_0.out.but HT_1.out HNE.out
 clear am tn c8
 have c6 := HW_1.out.cell 6 (v := .int .i64 a.held) rfl
 have f6 := HW_1.out.free 6
 have hbk := HW_1.out.blk
 have HW_2 : Hid (VA (w1.setCell ⟨x.1, 6, none⟩ (.int .i64 (a.held + n))) x.1 ((heldA a k n).cells x.2) 85) := HW_1.out.set 6 (.int .i64 (a.held + n))
 have HU_2 := hI_ (ax w1 x.1 6 (.int .i64 (a.held + n)))
 have HA_2 := hI_ (HA_1.out.but HU_2.out.but (fun e => HNE.out e.symm))
 go_wp2_with fail
 have HB : Hid (But (fun j => j = x.1 ∨ j = x.2) w (w1.setCell ⟨x.1, 6, none⟩ (.int .i64 (a.held + n)))) := (HT_1.out.mono (fun j hj => Or.inr hj)).trans HU_2.out.but (fun j _ hj => Or.inl hj)
 exact bodyPost_end (v := .tuple #[]) (by simp [results, Tryz.results88, go_sem]) rfl ⟨rfl, HM.out.setA HI.out HB.out HW_2.out HA_2.out HF.out rfl, HB.out⟩
def useL (ks : List (Nat × Unit)) (key : Nat) : List (Nat × Unit) := if key = 0 then ks else (key, ()) :: ks
set_option maxRecDepth 100000 in
theorem s7 (w : World) (B : Nat) (F : FB) (M : PM) (h : MD w B F M) (key : Nat) (hk : key < 18446744073709551616) (hl : M.keys.length < 1000000000000) :
  Calls Tryz.prog 56 #[.pointer (some ⟨F.pm, 0, none⟩), .int .u64 (key : Int)] w fun e w' => e = .returned (.tuple #[]) ∧ MD w' B F { M with keys := useL M.keys key } ∧ But (fun j => j = F.km) w w' := by
 have HM : Hid (MD w B F M) := h
 have HK : Hid (key < 18446744073709551616) := hk
 have HLN := hI_ hl
 by_cases h0 : key = 0
 ·subst h0
  clear h hk hl
  go_enter Tryz.func56, Tryz.ntmps56
  go_wp2_with fail
  exact bodyPost_end (v := .tuple #[]) (by simp [results, Tryz.results56, go_sem]) rfl ⟨rfl, HM.out, af (Below.refl _ _) _⟩
 ·have e0 : (((key : Nat) : Int) = 0) = False := by simp; omega
  have c5 := HM.out.va.cell 5 (v := .map (some F.km)) rfl
  clear h hk hl
  go_enter Tryz.func56, Tryz.ntmps56
  go_wp2_with (refine wt rfl _ _ _ 96 rfl KU encS _ Tryz.underlying96 F.km M.keys (by rfl) HM.out.kys (by have := HLN.out; unfold maxLen; omega) key () (by rfl) (by rfl) HK.out ?_; intro w1 am tn)
  refine bodyPost_end (v := .tuple #[]) (by simp [results, Tryz.results56, go_sem]) rfl ⟨rfl, ?_, aP tn⟩
  unfold useL
  rw [if_neg h0]
  exact HM.out.setK (aP tn) am
end Go.Proofs.YtjkiplndbcmmbaaGreatDoor