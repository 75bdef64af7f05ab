/- texts of the model: Moo Mop -/
import Derived.Test.YtjkiplndbcmmbaaGreatDoorX34
import Derived.Test.YtjkiplndbcmmbaaGreatDoorX22
import Derived.Test.YtjkiplndbcmmbaaGreatDoorX26
import Derived.Test.YtjkiplndbcmmbaaGreatDoorX37
set_option linter.unusedVariables false
set_option linter.unusedSimpArgs false
set_option maxHeartbeats 16000000
namespace Go.Proofs.YtjkiplndbcmmbaaGreatDoor
open Go.RowKit Go.Maps
structure EV where
 op : Nat
 key : Nat
 n0 : Int
 n1 : Int
 n2 : Int
 n3 : Int
 n4 : Int
 n5 : Int
 n6 : Int
 n7 : Int
 ts : List (Int × Int)
def EV.cells (e : EV) (tv : Value) : List Value := [.int .u8 (e.op : Int), .int .u64 (e.key : Int), .int .i64 e.n0, .int .i64 e.n1, .int .i64 e.n2, .int .i64 e.n3, .int .i64 e.n4, .int .i64 e.n5, .int .i64 e.n6, .int .i64 e.n7, tv]
def EV.e8 (e : EV) : E8 := ⟨e.op, e.key, [e.n0, e.n1, e.n2, e.n3, e.n4, e.n5, e.n6, e.n7], e.ts⟩
structure EV.ok (e : EV) : Prop where
 op : e.op ≤ 255
 key : e.key ≤ 18446744073709551615
 n0 : I64 e.n0
 n1 : I64 e.n1
 n2 : I64 e.n2
 n3 : I64 e.n3
 n4 : I64 e.n4
 n5 : I64 e.n5
 n6 : I64 e.n6
 n7 : I64 e.n7
theorem EV.ok8 {e : EV} (h : e.ok) : e.e8.ok := ⟨h.op, h.key, rfl, fun n hn => by
 unfold EV.e8 at hn
 simp at hn
 rcases hn with rfl | rfl | rfl | rfl | rfl | rfl | rfl | rfl
 ·exact h.n0
 ·exact h.n1
 ·exact h.n2
 ·exact h.n3
 ·exact h.n4
 ·exact h.n5
 ·exact h.n6
 ·exact h.n7⟩
theorem EV.one (e : EV) {tv : Value} (h : ∃ a n c, tv = Value.slice a n c) : ∀ v ∈ e.cells tv, v.oneCell' = true := by
 obtain ⟨a, n, c, rfl⟩ := h
 intro v hv
 unfold EV.cells at hv
 simp at hv
 rcases hv with rfl | rfl | rfl | rfl | rfl | rfl | rfl | rfl | rfl | rfl | rfl <;> rfl
theorem ai : (Tryz.prog.info? 31).map (·.size) = some 11 := by kernel_rfl
def EV.pv (e : EV) : PV := ⟨e.n0, e.n1, e.n2, e.n3, e.n4, e.n5, e.n6, e.n7, e.ts⟩
theorem EV.pvwf {e : EV} (h : e.ok) : e.pv.wf := ⟨h.n0, h.n1, h.n2, h.n3, h.n4, h.n5, h.n6, h.n7⟩
def ofDay (op : Nat) : Bool := decide (op = 13 ∨ op = 14 ∨ op = 15)
theorem dR (op : Nat) (w : World) : Calls Tryz.prog 52 #[.int .u8 (op : Int)] w fun e w' => e = .returned (.bool (ofDay op)) ∧ w' = w := by
 unfold ofDay
 by_cases h1 : op = 13
 ·subst h1
  go_enter Tryz.func52, Tryz.ntmps52
  go_wp2_with fail
  go_ret
  exact ⟨rfl, rfl⟩
 ·have e1 : ((op : Int) == 13) = false := by simpa using fun e : (op : Int) = 13 => h1 (by omega)
  by_cases h2 : op = 14
  ·subst h2
   go_enter Tryz.func52, Tryz.ntmps52
   go_wp2_with fail
   go_ret
   exact ⟨rfl, rfl⟩
  ·have e2 : ((op : Int) == 14) = false := by simpa using fun e : (op : Int) = 14 => h2 (by omega)
   by_cases h3 : op = 15
   ·subst h3
    go_enter Tryz.func52, Tryz.ntmps52
    go_wp2_with fail
    go_ret
    exact ⟨rfl, rfl⟩
   ·have e3 : ((op : Int) == 15) = false := by simpa using fun e : (op : Int) = 15 => h3 (by omega)
    rw [decide_eq_false (by rintro (h | h | h); exact h1 h; exact h2 h; exact h3 h)]
    clear h1 h2 h3
    go_enter Tryz.func52, Tryz.ntmps52
    go_wp2_with fail
    go_ret
    exact ⟨rfl, rfl⟩
set_option maxRecDepth 100000 in
theorem fq (e : EV) (tv : Value) (w : World) (hF : ∃ a n c, tv = Value.slice a n c) : Calls Tryz.prog 84 #[.agg (e.cells tv).toArray] w fun r w' => r = .returned (.agg (e.pv.cells tv).toArray) ∧ Below w.heap.size w w' := by
 have V := (aa w (e.cells tv) 31).alloc (.cells #[.int .i64 0, .int .i64 0, .int .i64 0, .int .i64 0, .int .i64 0, .int .i64 0, .int .i64 0, .int .i64 0, .slice none 0 0] 162)
 have y0 := V.cell 2 (v := .int .i64 e.n0) rfl
 have y1 := V.cell 3 (v := .int .i64 e.n1) rfl
 have y2 := V.cell 4 (v := .int .i64 e.n2) rfl
 have y3 := V.cell 5 (v := .int .i64 e.n3) rfl
 have y4 := V.cell 6 (v := .int .i64 e.n4) rfl
 have y5 := V.cell 7 (v := .int .i64 e.n5) rfl
 have y6 := V.cell 8 (v := .int .i64 e.n6) rfl
 have y7 := V.cell 9 (v := .int .i64 e.n7) rfl
 have y10 := V.cell 10 (v := tv) rfl
 have hv := aa (w.alloc (.cells (e.cells tv).toArray 31)) [.int .i64 0, .int .i64 0, .int .i64 0, .int .i64 0, .int .i64 0, .int .i64 0, .int .i64 0, .int .i64 0, .slice none 0 0] 162
 rw [World.size_alloc] at hv
 have HV := hI_ hv
 have HB := hI_ (((Below.refl w.heap.size w).alloc (Nat.le_refl _) (.cells (e.cells tv).toArray 31)).alloc (by simp) (.cells #[.int .i64 0, .int .i64 0, .int .i64 0, .int .i64 0, .int .i64 0, .int .i64 0, .int .i64 0, .int .i64 0, .slice none 0 0] 162))
 have HF : Hid (∃ a n c, tv = Value.slice a n c) := hF
 obtain ⟨ta, tn, tc, rfl⟩ := hF
 clear V hv
 go_enter Tryz.func84, Tryz.ntmps84
 go_wp2_with (refine stA rfl 162 _ _ rfl (w.heap.size + 1) (by rfl) _ (e.pv.cells (.slice ta tn tc)) (by rfl) 162 HV.out infoP rfl (bI _ ⟨_, _, _, rfl⟩) ?_; intro wf vf uf)
 have hld := run_loadVar_row (P := Tryz.prog) wf (w.heap.size + 1) 162 162 _ (0, 0) _ vf.blk Tryz.underlying162 rfl infoP
 exact bodyPost_ret (v := .agg (e.pv.cells (.slice ta tn tc)).toArray) (by simp [results, Tryz.results84, asAddr, Act.put, hld]) rfl ⟨rfl, uf.bel HB.out (by omega)⟩
def EV.mv (e : EV) : Int := if e.op = 4 ∨ e.op = 5 then e.n1 else if e.op = 6 ∨ e.op = 9 ∨ e.op = 10 then e.n2 else if e.op = 12 then e.n3 else 0
set_option maxRecDepth 100000 in
theorem pi (e : EV) (tv : Value) (w : World) : Calls Tryz.prog 41 #[.agg (e.cells tv).toArray] w fun r w' => r = .returned (.int .i64 e.mv) ∧ Below w.heap.size w w' := by
 have V := aa w (e.cells tv) 31
 have y0 := V.cell 0 (v := .int .u8 (e.op : Int)) rfl
 have y1 := V.cell 3 (v := .int .i64 e.n1) rfl
 have y2 := V.cell 4 (v := .int .i64 e.n2) rfl
 have y3 := V.cell 5 (v := .int .i64 e.n3) rfl
 have HB := hI_ ((Below.refl w.heap.size w).alloc (Nat.le_refl _) (.cells (e.cells tv).toArray 31))
 clear V
 unfold EV.mv
 generalize e.n1 = m1 at *
 generalize e.n2 = m2 at *
 generalize e.n3 = m3 at *
 obtain ⟨op, hop⟩ : ∃ op, op = e.op := ⟨_, rfl⟩
 rw [← hop] at y0 ⊢
 clear hop
 by_cases h4 : op = 4
 ·subst h4
  rw [show (if 4 = 4 ∨ 4 = 5 then m1 else if 4 = 6 ∨ 4 = 9 ∨ 4 = 10 then m2 else if 4 = 12 then m3 else 0 : Int) = m1 from rfl]
  go_enter Tryz.func41, Tryz.ntmps41
  go_wp2_with fail
  go_ret
  exact ⟨rfl, HB.out⟩
 ·have e4 : ((op : Int) == 4) = false := by simpa using fun e : (op : Int) = 4 => h4 (by omega)
  by_cases h5 : op = 5
  ·subst h5
   rw [show (if 5 = 4 ∨ 5 = 5 then m1 else if 5 = 6 ∨ 5 = 9 ∨ 5 = 10 then m2 else if 5 = 12 then m3 else 0 : Int) = m1 from rfl]
   go_enter Tryz.func41, Tryz.ntmps41
   go_wp2_with fail
   go_ret
   exact ⟨rfl, HB.out⟩
  ·have e5 : ((op : Int) == 5) = false := by simpa using fun e : (op : Int) = 5 => h5 (by omega)
   by_cases h6 : op = 6
   ·subst h6
    rw [show (if 6 = 4 ∨ 6 = 5 then m1 else if 6 = 6 ∨ 6 = 9 ∨ 6 = 10 then m2 else if 6 = 12 then m3 else 0 : Int) = m2 from rfl]
    go_enter Tryz.func41, Tryz.ntmps41
    go_wp2_with fail
    go_ret
    exact ⟨rfl, HB.out⟩
   ·have e6 : ((op : Int) == 6) = false := by simpa using fun e : (op : Int) = 6 => h6 (by omega)
    by_cases h9 : op = 9
    ·subst h9
     rw [show (if 9 = 4 ∨ 9 = 5 then m1 else if 9 = 6 ∨ 9 = 9 ∨ 9 = 10 then m2 else if 9 = 12 then m3 else 0 : Int) = m2 from rfl]
     go_enter Tryz.func41, Tryz.ntmps41
     go_wp2_with fail
     go_ret
     exact ⟨rfl, HB.out⟩
    ·have e9 : ((op : Int) == 9) = false := by simpa using fun e : (op : Int) = 9 => h9 (by omega)
     by_cases h10 : op = 10
     ·subst h10
      rw [show (if 10 = 4 ∨ 10 = 5 then m1 else if 10 = 6 ∨ 10 = 9 ∨ 10 = 10 then m2 else if 10 = 12 then m3 else 0 : Int) = m2 from rfl]
      go_enter Tryz.func41, Tryz.ntmps41
      go_wp2_with fail
      go_ret
      exact ⟨rfl, HB.out⟩
     ·have e10 : ((op : Int) == 10) = false := by simpa using fun e : (op : Int) = 10 => h10 (by omega)
      by_cases h12 : op = 12
      ·subst h12
       rw [show (if 12 = 4 ∨ 12 = 5 then m1 else if 12 = 6 ∨ 12 = 9 ∨ 12 = 10 then m2 else if 12 = 12 then m3 else 0 : Int) = m3 from rfl]
       go_enter Tryz.func41, Tryz.ntmps41
       go_wp2_with fail
       go_ret
       exact ⟨rfl, HB.out⟩
      ·have e12 : ((op : Int) == 12) = false := by simpa using fun e : (op : Int) = 12 => h12 (by omega)
       rw [if_neg (by omega), if_neg (by omega), if_neg (by omega)]
       clear h4 h5 h6 h9 h10 h12
       go_enter Tryz.func41, Tryz.ntmps41
       go_wp2_with fail
       go_ret
       exact ⟨rfl, HB.out⟩
def usedK (M : PM) (k : Nat) : Bool := (lkA M.keys k).isSome
theorem rQ {w : World} {km : Nat} {ks : List (Nat × Unit)} (h : AM KU encS w km ks) {k : Nat} (hk : k ≤ 18446744073709551615) : (Instr.lookup 96 (.map (some km)) (.int .u64 (k : Int)) true).run Tryz.prog w = .ok (.tuple #[.agg #[], .bool (lkA ks k).isSome]) w := by
 have := h.look_ok (t := 96) (e := 168) Tryz.underlying96 (z := .agg #[]) (Tryz.zeroValue168 w) (a := k) (show k < 18446744073709551616 by omega)
 rw [show (Option.map encS (lkA ks k)).getD (.agg #[]) = .agg #[] by cases lkA ks k <;> rfl] at this
 exact this
theorem jr (w : World) (B : Nat) (F : FB) (M : PM) (h : MD w B F M) (k : Nat) (hk : k ≤ 18446744073709551615) :
  Calls Tryz.prog 73 #[.pointer (some ⟨F.pm, 0, none⟩), .int .u64 (k : Int)] w fun r w' => r = .returned (.bool (usedK M k)) ∧ Below w.heap.size w w' := by
 have c5 := h.va.cell 5 (v := .map (some F.km)) rfl
 have hlk := rQ h.kys hk
 unfold usedK
 have HB := hI_ (Below.refl w.heap.size w)
 generalize (lkA M.keys k).isSome = b at *
 clear h hk
 go_enter Tryz.func73, Tryz.ntmps73
 go_wp2_with fail
 go_ret
 refine ⟨rfl, ?_⟩
 exact HB.out.alloc (Nat.le_refl _) _
theorem bp : (Tryz.prog.info? 28).map (·.size) = some 8 := by kernel_rfl
theorem aI (e : EV) : ∀ v ∈ ([.int .i64 e.n0, .int .i64 e.n1, .int .i64 e.n2, .int .i64 e.n3, .int .i64 e.n4, .int .i64 e.n5, .int .i64 e.n6, .int .i64 e.n7] : List Value), v.oneCell' = true := by
 intro v hv
 simp at hv
 rcases hv with rfl | rfl | rfl | rfl | rfl | rfl | rfl | rfl <;> rfl
set_option maxRecDepth 100000 in
theorem vp (w : World) (B : Nat) (F : FB) (M : PM) (hM : MD w B F M) (rp : Nat) (l : Int) (h : RO w rp F.pm l) (e : EV) (he : e.ok) (tv : Value) (R : Tr w tv e.ts) (hno : ∀ n c, tv = .slice none n c → c = 0) (T : TBL w) (hrp : 6 ≤ rp) (hop : e.op = 1) :
  Calls Tryz.prog 74 #[.pointer (some ⟨rp, 0, none⟩), .agg (e.cells tv).toArray] w fun r w' => r = .returned (.tuple #[]) ∧ RO w' rp F.pm (wth l (addE M.vs e.pv)) ∧ But (fun i => i = rp) w w' := by
 have b0 := (Below.refl w.heap.size w).alloc (Nat.le_refl _) (.cells (e.cells tv).toArray 31)
 have b1 := b0.alloc (by simp) (.cells #[.int .i64 0, .int .i64 0, .int .i64 0, .int .i64 0, .int .i64 0, .int .i64 0, .int .i64 0, .int .i64 0] 28)
 have V00 := aa w (e.cells tv) 31
 have V0 := V00.alloc (.cells #[.int .i64 0, .int .i64 0, .int .i64 0, .int .i64 0, .int .i64 0, .int .i64 0, .int .i64 0, .int .i64 0] 28)
 have hn0 := aa (w.alloc (.cells (e.cells tv).toArray 31)) ([.int .i64 0, .int .i64 0, .int .i64 0, .int .i64 0, .int .i64 0, .int .i64 0, .int .i64 0, .int .i64 0] : List Value) 28
 rw [World.size_alloc] at hn0
 have HN0 := hI_ hn0
 have y0 := V00.cell 2 (v := .int .i64 e.n0) rfl
 have y1 := V00.cell 3 (v := .int .i64 e.n1) rfl
 have y2 := V00.cell 4 (v := .int .i64 e.n2) rfl
 have y3 := V00.cell 5 (v := .int .i64 e.n3) rfl
 have y4 := V00.cell 6 (v := .int .i64 e.n4) rfl
 have y5 := V00.cell 7 (v := .int .i64 e.n5) rfl
 have y6 := V00.cell 8 (v := .int .i64 e.n6) rfl
 have y7 := V00.cell 9 (v := .int .i64 e.n7) rfl
 have HE0 := hI_ V0
 have HB0 := hI_ b1
 have HTF : Hid (∃ a n c, tv = Value.slice a n c) := (show ∃ a n c, tv = Value.slice a n c from by obtain ⟨a, c, e, _⟩ := R.form; exact ⟨a, _, c, e⟩)
 have HH : Hid (MD w B F M ∧ RO w rp F.pm l ∧ Tr w tv e.ts ∧ TBL w) := ⟨hM, h, R, T⟩
 have HQ : Hid (6 ≤ rp ∧ e.ok ∧ (∀ n c, tv = .slice none n c → c = 0) ∧ rp < w.heap.size) := ⟨hrp, he, hno, VA.lt h⟩
 have HOP : Hid (e.op = 1) := hop
 clear b0 b1 V00 V0 hn0 hM h R T hrp he hno hop
 go_enter Tryz.func74, Tryz.ntmps74
 go_upto_region 2 with (refine stA rfl 28 _ _ rfl (w.heap.size + 1) (by rfl) ([.int .i64 0, .int .i64 0, .int .i64 0, .int .i64 0, .int .i64 0, .int .i64 0, .int .i64 0, .int .i64 0] : List Value) [.int .i64 e.n0, .int .i64 e.n1, .int .i64 e.n2, .int .i64 e.n3, .int .i64 e.n4, .int .i64 e.n5, .int .i64 e.n6, .int .i64 e.n7] (by rfl) 28 HN0.out bp rfl (aI e) ?_; intro w1 hv1 hu1)
 have hb1 := hu1.bel HB0.out (by omega)
 have HM_1 : Hid (MD w1 B F M) := HH.out.1.step hb1
 have HR_1 : Hid (RO w1 rp F.pm l) := HH.out.2.1.step hb1
 have HB_1 : Hid (But (fun i => i = rp) w w1) := af hb1 _
 have HTR_1 : Hid (Tr w1 tv e.ts) := HH.out.2.2.1.step hb1
 have HT_1 : Hid (TBL w1) := HH.out.2.2.2.step hb1
 have HE_1 : Hid (VA w1 w.heap.size (e.cells tv) 31) := HE0.out.upd hu1 (by omega)
 have HN_1 : Hid (VA w1 (w.heap.size + 1) [.int .i64 e.n0, .int .i64 e.n1, .int .i64 e.n2, .int .i64 e.n3, .int .i64 e.n4, .int .i64 e.n5, .int .i64 e.n6, .int .i64 e.n7] 28) := hv1
 have y : w1.cell? ⟨w.heap.size, 0, none⟩ = some (.int .u8 1) := by have := HE_1.out.cell 0 (v := .int .u8 (e.op : Int)) rfl; rw [HOP.out] at this; exact this
 clear hb1 hv1 hu1 HN0 HE0 HB0 HH y0 y1 y2 y3 y4 y5 y6 y7
 have m0 := HN_1.out.cell 0 (v := .int .i64 e.n0) rfl
 have m1 := HN_1.out.cell 1 (v := .int .i64 e.n1) rfl
 have m2 := HN_1.out.cell 2 (v := .int .i64 e.n2) rfl
 have m3 := HN_1.out.cell 3 (v := .int .i64 e.n3) rfl
 go_upto_region 4 with fail
 have BB_1 := hI_ (Below.refl w1.heap.size w1)
 refine wp_region_noPanic ?_
 refine wp_region_held_drew (S := fun V => (∃ z : Int, VA V rp [.pointer (some ⟨F.pm, 0, none⟩), .int .i64 z] 148) ∧ VA V w.heap.size (e.cells tv) 31) (by kernel_rfl) (⟨⟨_, VA.drew HR_1.out⟩, HE_1.out.drew⟩) ?_
 intro hHeld
 have bz := (Below.refl w1.heap.size w1).drew
 have HM_z := hI_ (HM_1.out.step bz)
 have HR_z := hI_ (HR_1.out.step bz)
 have HE_z := hI_ (HE_1.out.step bz)
 have HTR_z := hI_ (HTR_1.out.step bz)
 have BB_z := hI_ (BB_1.out.trans (bz.mono BB_1.out.size))
 generalize w1.drew = wz at *
 clear bz
 refine tK 0 11 (.pointer (some ⟨rp, 0, none⟩)) (by exact rfl) (Or.inl ⟨by rfl, ?_⟩) ?_
 ·intro wq hS
  go_simp
 try simp only [nrm]
 refine tK 1 12 (.pointer (some ⟨rp, 0, none⟩)) (by exact rfl) (Or.inl ⟨by rfl, ?_⟩) ?_
 ·intro wq hS
  go_simp
 try simp only [nrm]
 refine tK 2 13 (.pointer (some ⟨rp, 0, none⟩)) (by exact rfl) (Or.inl ⟨by rfl, ?_⟩) ?_
 ·intro wq hS
  go_simp
 try simp only [nrm]
 refine tK 3 14 (.pointer (some ⟨rp, 0, none⟩)) (by exact rfl) (Or.inl ⟨by rfl, ?_⟩) ?_
 ·intro wq hS
  go_simp
 try simp only [nrm]
 refine tK 4 15 (.pointer (some ⟨F.pm, 0, none⟩)) (by exact rfl) (Or.inl ⟨by rfl, ?_⟩) ?_
 ·intro wq hS
  obtain ⟨⟨z, hz⟩, _⟩ := hS
  have c := VA.cell hz 0 (v := .pointer (some ⟨F.pm, 0, none⟩)) rfl
  go_simp
 try simp only [nrm]
 refine tK 5 16 (.agg (e.cells tv).toArray) (by exact rfl) (yieldsIf_load_mid (by rfl) _ _ rfl _ _ rfl _ _ (fun wq hS => (fun j u hj => by rw [Nat.zero_add]; exact VA.cell hS.2 j hj)) Tryz.underlying31 rfl ai) ?_
 try simp only [nrm]
 clear hHeld
 refine rdy 6 (fun K hK => ?_)
 go_simp
 refine Calls.mono (fq e tv wz HTF.out) ?_
 rintro e wu ⟨rfl, bu⟩
 have HM_u := hI_ (HM_z.out.step bu)
 have HR_u := hI_ (HR_z.out.step bu)
 have HE_u := hI_ (HE_z.out.step bu)
 have HTR_u := hI_ (HTR_z.out.step bu)
 have BB_u := hI_ (BB_z.out.trans (bu.mono BB_z.out.size))
 clear bu
 go_wp2_with fail
 refine hK.out _ _ (⟨⟨_, HR_u.out⟩, HE_u.out⟩) (fun hHeld => ?_)
 try simp only [nrm]
 clear hK K
 clear hHeld
 refine rdy 7 (fun K hK => ?_)
 go_simp
 refine Calls.mono (mK wu B F M HM_u.out e.pv (EV.pvwf HQ.out.2.1) tv HTR_u.out HQ.out.2.2.1) ?_
 rintro e wv ⟨rfl, bv⟩
 have HM_v := hI_ (HM_u.out.step bv)
 have HR_v := hI_ (HR_u.out.step bv)
 have HE_v := hI_ (HE_u.out.step bv)
 have HTR_v := hI_ (HTR_u.out.step bv)
 have BB_v := hI_ (BB_u.out.trans (bv.mono BB_u.out.size))
 clear bv
 go_wp2_with fail
 refine hK.out _ _ (⟨⟨_, HR_v.out⟩, HE_v.out⟩) (fun hHeld => ?_)
 try simp only [nrm]
 clear hK K
 clear hHeld
 refine rdy 8 (fun K hK => ?_)
 go_simp
 refine (ez wv rp F.pm _ _ HR_v.out).mono ?_
 rintro r w4 ⟨rfl, h1, h2⟩
 have HR_4 : Hid (RO w4 rp F.pm _) := h1
 have HB_4 : Hid (But (fun i => i = rp) w w4) := HB_1.out.trans ((af BB_v.out (fun i => i = rp)).trans h2 (fun i hi hx => hx)) (fun i _ hx => hx)
 have HE_4 : Hid (VA w4 w.heap.size (e.cells tv) 31) := HE_v.out.but h2 (by have := HQ.out.2.2.2; omega)
 clear h1 h2
 go_wp2_with fail
 refine hK.out _ _ ⟨⟨_, HR_4.out⟩, HE_4.out⟩ (fun hHeld => ?_)
 clear hK K
 try simp only [nrm]
 refine wpAnyH_done (by kernel_rfl) ?_ _
 refine NoPanic.normal ?_
 clear hHeld
 go_wp2_with fail
 refine bodyPost_end (v := .tuple #[]) (by simp [results, Tryz.results74, go_sem]) rfl ?_
 exact ⟨rfl, HR_4.out, HB_4.out⟩
set_option maxRecDepth 100000 in
theorem vq (w : World) (B : Nat) (F : FB) (M : PM) (hM : MD w B F M) (rp : Nat) (l : Int) (h : RO w rp F.pm l) (e : EV) (he : e.ok) (tv : Value) (R : Tr w tv e.ts) (hno : ∀ n c, tv = .slice none n c → c = 0) (T : TBL w) (hrp : 6 ≤ rp) (hop : e.op = 2) :
  Calls Tryz.prog 74 #[.pointer (some ⟨rp, 0, none⟩), .agg (e.cells tv).toArray] w fun r w' => r = .returned (.tuple #[]) ∧ RO w' rp F.pm (openL M l e.n0 e.n1) ∧ But (fun i => i = rp) w w' := by
 have b0 := (Below.refl w.heap.size w).alloc (Nat.le_refl _) (.cells (e.cells tv).toArray 31)
 have b1 := b0.alloc (by simp) (.cells #[.int .i64 0, .int .i64 0, .int .i64 0, .int .i64 0, .int .i64 0, .int .i64 0, .int .i64 0, .int .i64 0] 28)
 have V00 := aa w (e.cells tv) 31
 have V0 := V00.alloc (.cells #[.int .i64 0, .int .i64 0, .int .i64 0, .int .i64 0, .int .i64 0, .int .i64 0, .int .i64 0, .int .i64 0] 28)
 have hn0 := aa (w.alloc (.cells (e.cells tv).toArray 31)) ([.int .i64 0, .int .i64 0, .int .i64 0, .int .i64 0, .int .i64 0, .int .i64 0, .int .i64 0, .int .i64 0] : List Value) 28
 rw [World.size_alloc] at hn0
 have HN0 := hI_ hn0
 have y0 := V00.cell 2 (v := .int .i64 e.n0) rfl
 have y1 := V00.cell 3 (v := .int .i64 e.n1) rfl
 have y2 := V00.cell 4 (v := .int .i64 e.n2) rfl
 have y3 := V00.cell 5 (v := .int .i64 e.n3) rfl
 have y4 := V00.cell 6 (v := .int .i64 e.n4) rfl
 have y5 := V00.cell 7 (v := .int .i64 e.n5) rfl
 have y6 := V00.cell 8 (v := .int .i64 e.n6) rfl
 have y7 := V00.cell 9 (v := .int .i64 e.n7) rfl
 have HE0 := hI_ V0
 have HB0 := hI_ b1
 have HTF : Hid (∃ a n c, tv = Value.slice a n c) := (show ∃ a n c, tv = Value.slice a n c from by obtain ⟨a, c, e, _⟩ := R.form; exact ⟨a, _, c, e⟩)
 have HH : Hid (MD w B F M ∧ RO w rp F.pm l ∧ Tr w tv e.ts ∧ TBL w) := ⟨hM, h, R, T⟩
 have HQ : Hid (6 ≤ rp ∧ e.ok ∧ (∀ n c, tv = .slice none n c → c = 0) ∧ rp < w.heap.size) := ⟨hrp, he, hno, VA.lt h⟩
 have HOP : Hid (e.op = 2) := hop
 clear b0 b1 V00 V0 hn0 hM h R T hrp he hno hop
 go_enter Tryz.func74, Tryz.ntmps74
 go_upto_region 2 with (refine stA rfl 28 _ _ rfl (w.heap.size + 1) (by rfl) ([.int .i64 0, .int .i64 0, .int .i64 0, .int .i64 0, .int .i64 0, .int .i64 0, .int .i64 0, .int .i64 0] : List Value) [.int .i64 e.n0, .int .i64 e.n1, .int .i64 e.n2, .int .i64 e.n3, .int .i64 e.n4, .int .i64 e.n5, .int .i64 e.n6, .int .i64 e.n7] (by rfl) 28 HN0.out bp rfl (aI e) ?_; intro w1 hv1 hu1)
 have hb1 := hu1.bel HB0.out (by omega)
 have HM_1 : Hid (MD w1 B F M) := HH.out.1.step hb1
 have HR_1 : Hid (RO w1 rp F.pm l) := HH.out.2.1.step hb1
 have HB_1 : Hid (But (fun i => i = rp) w w1) := af hb1 _
 have HTR_1 : Hid (Tr w1 tv e.ts) := HH.out.2.2.1.step hb1
 have HT_1 : Hid (TBL w1) := HH.out.2.2.2.step hb1
 have HE_1 : Hid (VA w1 w.heap.size (e.cells tv) 31) := HE0.out.upd hu1 (by omega)
 have HN_1 : Hid (VA w1 (w.heap.size + 1) [.int .i64 e.n0, .int .i64 e.n1, .int .i64 e.n2, .int .i64 e.n3, .int .i64 e.n4, .int .i64 e.n5, .int .i64 e.n6, .int .i64 e.n7] 28) := hv1
 have y : w1.cell? ⟨w.heap.size, 0, none⟩ = some (.int .u8 2) := by have := HE_1.out.cell 0 (v := .int .u8 (e.op : Int)) rfl; rw [HOP.out] at this; exact this
 clear hb1 hv1 hu1 HN0 HE0 HB0 HH y0 y1 y2 y3 y4 y5 y6 y7
 have m0 := HN_1.out.cell 0 (v := .int .i64 e.n0) rfl
 have m1 := HN_1.out.cell 1 (v := .int .i64 e.n1) rfl
 have m2 := HN_1.out.cell 2 (v := .int .i64 e.n2) rfl
 have m3 := HN_1.out.cell 3 (v := .int .i64 e.n3) rfl
 go_wp2_with fail
 refine Calls.mono (pV w1 B F M HM_1.out rp _ e.n0 e.n1 HR_1.out) ?_
 rintro r w2 ⟨rfl, h1, h2⟩
 have HR_2 : Hid (RO _ _ _ _) := h1
 have HB_2 : Hid (But (fun i => i = rp) w w2) := HB_1.out.trans h2 (fun i _ hx => hx)
 have HM_2 : Hid (MD w2 B F M) := HM_1.out.ro HR_1.out h2
 clear h1 h2 HR_1 HB_1 HM_1
 clear m0 m1 m2 m3 y
 go_wp2_with fail
 refine bodyPost_end (v := .tuple #[]) (by simp [results, Tryz.results74, go_sem]) rfl ?_
 refine ⟨rfl, ?_, HB_2.out⟩
 have H := HR_2.out
 exact H
set_option maxRecDepth 100000 in
theorem vr (w : World) (B : Nat) (F : FB) (M : PM) (hM : MD w B F M) (rp : Nat) (l : Int) (h : RO w rp F.pm l) (e : EV) (he : e.ok) (tv : Value) (R : Tr w tv e.ts) (hno : ∀ n c, tv = .slice none n c → c = 0) (T : TBL w) (hrp : 6 ≤ rp) (hop : e.op = 3) :
  Calls Tryz.prog 74 #[.pointer (some ⟨rp, 0, none⟩), .agg (e.cells tv).toArray] w fun r w' => r = .returned (.tuple #[]) ∧ RO w' rp F.pm (whn (namedK M l e.n0 0) (emptyO (acctO M e.n0)) 15) ∧ But (fun i => i = rp) w w' := by
 have b0 := (Below.refl w.heap.size w).alloc (Nat.le_refl _) (.cells (e.cells tv).toArray 31)
 have b1 := b0.alloc (by simp) (.cells #[.int .i64 0, .int .i64 0, .int .i64 0, .int .i64 0, .int .i64 0, .int .i64 0, .int .i64 0, .int .i64 0] 28)
 have V00 := aa w (e.cells tv) 31
 have V0 := V00.alloc (.cells #[.int .i64 0, .int .i64 0, .int .i64 0, .int .i64 0, .int .i64 0, .int .i64 0, .int .i64 0, .int .i64 0] 28)
 have hn0 := aa (w.alloc (.cells (e.cells tv).toArray 31)) ([.int .i64 0, .int .i64 0, .int .i64 0, .int .i64 0, .int .i64 0, .int .i64 0, .int .i64 0, .int .i64 0] : List Value) 28
 rw [World.size_alloc] at hn0
 have HN0 := hI_ hn0
 have y0 := V00.cell 2 (v := .int .i64 e.n0) rfl
 have y1 := V00.cell 3 (v := .int .i64 e.n1) rfl
 have y2 := V00.cell 4 (v := .int .i64 e.n2) rfl
 have y3 := V00.cell 5 (v := .int .i64 e.n3) rfl
 have y4 := V00.cell 6 (v := .int .i64 e.n4) rfl
 have y5 := V00.cell 7 (v := .int .i64 e.n5) rfl
 have y6 := V00.cell 8 (v := .int .i64 e.n6) rfl
 have y7 := V00.cell 9 (v := .int .i64 e.n7) rfl
 have HE0 := hI_ V0
 have HB0 := hI_ b1
 have HTF : Hid (∃ a n c, tv = Value.slice a n c) := (show ∃ a n c, tv = Value.slice a n c from by obtain ⟨a, c, e, _⟩ := R.form; exact ⟨a, _, c, e⟩)
 have HH : Hid (MD w B F M ∧ RO w rp F.pm l ∧ Tr w tv e.ts ∧ TBL w) := ⟨hM, h, R, T⟩
 have HQ : Hid (6 ≤ rp ∧ e.ok ∧ (∀ n c, tv = .slice none n c → c = 0) ∧ rp < w.heap.size) := ⟨hrp, he, hno, VA.lt h⟩
 have HOP : Hid (e.op = 3) := hop
 clear b0 b1 V00 V0 hn0 hM h R T hrp he hno hop
 go_enter Tryz.func74, Tryz.ntmps74
 go_upto_region 2 with (refine stA rfl 28 _ _ rfl (w.heap.size + 1) (by rfl) ([.int .i64 0, .int .i64 0, .int .i64 0, .int .i64 0, .int .i64 0, .int .i64 0, .int .i64 0, .int .i64 0] : List Value) [.int .i64 e.n0, .int .i64 e.n1, .int .i64 e.n2, .int .i64 e.n3, .int .i64 e.n4, .int .i64 e.n5, .int .i64 e.n6, .int .i64 e.n7] (by rfl) 28 HN0.out bp rfl (aI e) ?_; intro w1 hv1 hu1)
 have hb1 := hu1.bel HB0.out (by omega)
 have HM_1 : Hid (MD w1 B F M) := HH.out.1.step hb1
 have HR_1 : Hid (RO w1 rp F.pm l) := HH.out.2.1.step hb1
 have HB_1 : Hid (But (fun i => i = rp) w w1) := af hb1 _
 have HTR_1 : Hid (Tr w1 tv e.ts) := HH.out.2.2.1.step hb1
 have HT_1 : Hid (TBL w1) := HH.out.2.2.2.step hb1
 have HE_1 : Hid (VA w1 w.heap.size (e.cells tv) 31) := HE0.out.upd hu1 (by omega)
 have HN_1 : Hid (VA w1 (w.heap.size + 1) [.int .i64 e.n0, .int .i64 e.n1, .int .i64 e.n2, .int .i64 e.n3, .int .i64 e.n4, .int .i64 e.n5, .int .i64 e.n6, .int .i64 e.n7] 28) := hv1
 have y : w1.cell? ⟨w.heap.size, 0, none⟩ = some (.int .u8 3) := by have := HE_1.out.cell 0 (v := .int .u8 (e.op : Int)) rfl; rw [HOP.out] at this; exact this
 clear hb1 hv1 hu1 HN0 HE0 HB0 HH y0 y1 y2 y3 y4 y5 y6 y7
 have m0 := HN_1.out.cell 0 (v := .int .i64 e.n0) rfl
 have m1 := HN_1.out.cell 1 (v := .int .i64 e.n1) rfl
 have m2 := HN_1.out.cell 2 (v := .int .i64 e.n2) rfl
 have m3 := HN_1.out.cell 3 (v := .int .i64 e.n3) rfl
 go_wp2_with fail
 refine Calls.mono (bD w1 B F M HM_1.out rp _ e.n0 0 HR_1.out) ?_
 rintro r w2 ⟨R1, rfl, eR1, fR1, h1, h2⟩
 have HR_2 : Hid (RO _ _ _ _) := h1
 have HB_2 : Hid (But (fun i => i = rp) w w2) := HB_1.out.trans h2 (fun i _ hx => hx)
 have HM_2 : Hid (MD w2 B F M) := HM_1.out.ro HR_1.out h2
 have FR1_2 : Hid (RF w2 R1) := fR1
 have ER1 : Hid (_ = _) := eR1
 clear eR1 fR1
 clear h1 h2 HR_1 HB_1 HM_1
 clear m0 m1 m2 m3 y
 go_wp2_with fail
 refine Calls.mono (oV w2 rp F.pm _ R1 HR_2.out FR1_2.out) ?_
 rintro r w3 ⟨rfl, h1, h2⟩
 have HR_3 : Hid (RO _ _ _ _) := h1
 have HB_3 : Hid (But (fun i => i = rp) w w3) := HB_2.out.trans h2 (fun i _ hx => hx)
 have HM_3 : Hid (MD w3 B F M) := HM_2.out.ro HR_2.out h2
 have FR1_3 : Hid (RF w3 _) := FR1_2.out.ro HR_2.out h2
 clear h1 h2 HR_2 HB_2 HM_2 FR1_2
 go_wp2_with fail
 refine bodyPost_end (v := .tuple #[]) (by simp [results, Tryz.results74, go_sem]) rfl ?_
 refine ⟨rfl, ?_, HB_3.out⟩
 have H := HR_3.out
 rw [oU, ER1.out] at H
 exact H
set_option maxRecDepth 100000 in
theorem vt (w : World) (B : Nat) (F : FB) (M : PM) (hM : MD w B F M) (rp : Nat) (l : Int) (h : RO w rp F.pm l) (e : EV) (he : e.ok) (tv : Value) (R : Tr w tv e.ts) (hno : ∀ n c, tv = .slice none n c → c = 0) (T : TBL w) (hrp : 6 ≤ rp) (hop : e.op = 4) :
  Calls Tryz.prog 74 #[.pointer (some ⟨rp, 0, none⟩), .agg (e.cells tv).toArray] w fun r w' => r = .returned (.tuple #[]) ∧ RO w' rp F.pm (whn (namedK M (whn l (beyond e.n1 10000000000000) 1) e.n0 1) (roomO (acctO M e.n0) e.n1) 4) ∧ But (fun i => i = rp) w w' := by
 have b0 := (Below.refl w.heap.size w).alloc (Nat.le_refl _) (.cells (e.cells tv).toArray 31)
 have b1 := b0.alloc (by simp) (.cells #[.int .i64 0, .int .i64 0, .int .i64 0, .int .i64 0, .int .i64 0, .int .i64 0, .int .i64 0, .int .i64 0] 28)
 have V00 := aa w (e.cells tv) 31
 have V0 := V00.alloc (.cells #[.int .i64 0, .int .i64 0, .int .i64 0, .int .i64 0, .int .i64 0, .int .i64 0, .int .i64 0, .int .i64 0] 28)
 have hn0 := aa (w.alloc (.cells (e.cells tv).toArray 31)) ([.int .i64 0, .int .i64 0, .int .i64 0, .int .i64 0, .int .i64 0, .int .i64 0, .int .i64 0, .int .i64 0] : List Value) 28
 rw [World.size_alloc] at hn0
 have HN0 := hI_ hn0
 have y0 := V00.cell 2 (v := .int .i64 e.n0) rfl
 have y1 := V00.cell 3 (v := .int .i64 e.n1) rfl
 have y2 := V00.cell 4 (v := .int .i64 e.n2) rfl
 have y3 := V00.cell 5 (v := .int .i64 e.n3) rfl
 have y4 := V00.cell 6 (v := .int .i64 e.n4) rfl
 have y5 := V00.cell 7 (v := .int .i64 e.n5) rfl
 have y6 := V00.cell 8 (v := .int .i64 e.n6) rfl
 have y7 := V00.cell 9 (v := .int .i64 e.n7) rfl
 have HE0 := hI_ V0
 have HB0 := hI_ b1
 have HTF : Hid (∃ a n c, tv = Value.slice a n c) := (show ∃ a n c, tv = Value.slice a n c from by obtain ⟨a, c, e, _⟩ := R.form; exact ⟨a, _, c, e⟩)
 have HH : Hid (MD w B F M ∧ RO w rp F.pm l ∧ Tr w tv e.ts ∧ TBL w) := ⟨hM, h, R, T⟩
 have HQ : Hid (6 ≤ rp ∧ e.ok ∧ (∀ n c, tv = .slice none n c → c = 0) ∧ rp < w.heap.size) := ⟨hrp, he, hno, VA.lt h⟩
 have HOP : Hid (e.op = 4) := hop
 clear b0 b1 V00 V0 hn0 hM h R T hrp he hno hop
 go_enter Tryz.func74, Tryz.ntmps74
 go_upto_region 2 with (refine stA rfl 28 _ _ rfl (w.heap.size + 1) (by rfl) ([.int .i64 0, .int .i64 0, .int .i64 0, .int .i64 0, .int .i64 0, .int .i64 0, .int .i64 0, .int .i64 0] : List Value) [.int .i64 e.n0, .int .i64 e.n1, .int .i64 e.n2, .int .i64 e.n3, .int .i64 e.n4, .int .i64 e.n5, .int .i64 e.n6, .int .i64 e.n7] (by rfl) 28 HN0.out bp rfl (aI e) ?_; intro w1 hv1 hu1)
 have hb1 := hu1.bel HB0.out (by omega)
 have HM_1 : Hid (MD w1 B F M) := HH.out.1.step hb1
 have HR_1 : Hid (RO w1 rp F.pm l) := HH.out.2.1.step hb1
 have HB_1 : Hid (But (fun i => i = rp) w w1) := af hb1 _
 have HTR_1 : Hid (Tr w1 tv e.ts) := HH.out.2.2.1.step hb1
 have HT_1 : Hid (TBL w1) := HH.out.2.2.2.step hb1
 have HE_1 : Hid (VA w1 w.heap.size (e.cells tv) 31) := HE0.out.upd hu1 (by omega)
 have HN_1 : Hid (VA w1 (w.heap.size + 1) [.int .i64 e.n0, .int .i64 e.n1, .int .i64 e.n2, .int .i64 e.n3, .int .i64 e.n4, .int .i64 e.n5, .int .i64 e.n6, .int .i64 e.n7] 28) := hv1
 have y : w1.cell? ⟨w.heap.size, 0, none⟩ = some (.int .u8 4) := by have := HE_1.out.cell 0 (v := .int .u8 (e.op : Int)) rfl; rw [HOP.out] at this; exact this
 clear hb1 hv1 hu1 HN0 HE0 HB0 HH y0 y1 y2 y3 y4 y5 y6 y7
 have m0 := HN_1.out.cell 0 (v := .int .i64 e.n0) rfl
 have m1 := HN_1.out.cell 1 (v := .int .i64 e.n1) rfl
 have m2 := HN_1.out.cell 2 (v := .int .i64 e.n2) rfl
 have m3 := HN_1.out.cell 3 (v := .int .i64 e.n3) rfl
 go_wp2_with fail
 refine Calls.mono (bO w1 rp F.pm _ e.n1 HR_1.out) ?_
 rintro r w2 ⟨rfl, h1, h2⟩
 have HB_12 : Hid (But (fun i => i = rp) w1 w2) := h2
 have HR_2 : Hid (RO _ _ _ _) := h1
 have HB_2 : Hid (But (fun i => i = rp) w w2) := HB_1.out.trans h2 (fun i _ hx => hx)
 have HM_2 : Hid (MD w2 B F M) := HM_1.out.ro HR_1.out h2
 clear h1 h2 HR_1 HB_1 HM_1
 have HN_2 : Hid (VA w2 (w.heap.size + 1) [.int .i64 e.n0, .int .i64 e.n1, .int .i64 e.n2, .int .i64 e.n3, .int .i64 e.n4, .int .i64 e.n5, .int .i64 e.n6, .int .i64 e.n7] 28) := HN_1.out.but (HB_12.out) (by have := HQ.out.2.2.2; omega)
 clear m0 m1 m2 m3 y
 go_upto_region 11 with fail
 have BB_2 := hI_ (Below.refl w2.heap.size w2)
 refine wp_region_noPanic ?_
 refine wp_region_held_drew (S := fun V => VA V (w.heap.size + 1) [.int .i64 e.n0, .int .i64 e.n1, .int .i64 e.n2, .int .i64 e.n3, .int .i64 e.n4, .int .i64 e.n5, .int .i64 e.n6, .int .i64 e.n7] 28) (by kernel_rfl) (HN_2.out.drew) ?_
 intro hHeld
 have bz := (Below.refl w2.heap.size w2).drew
 have HM_z := hI_ (HM_2.out.step bz)
 have HR_z := hI_ (HR_2.out.step bz)
 have HN_z := hI_ (HN_2.out.step bz)
 have BB_z := hI_ (BB_2.out.trans (bz.mono BB_2.out.size))
 generalize w2.drew = wz at *
 clear bz
 refine tK 0 42 (.pointer (some ⟨rp, 0, none⟩)) (by exact rfl) (Or.inl ⟨by rfl, ?_⟩) ?_
 ·intro wq hS
  go_simp
 try simp only [nrm]
 refine tK 1 43 (.pointer (some ⟨rp, 0, none⟩)) (by exact rfl) (Or.inl ⟨by rfl, ?_⟩) ?_
 ·intro wq hS
  go_simp
 try simp only [nrm]
 refine tK 2 44 (.pointer (some ⟨w.heap.size + 1, 0, none⟩)) (by exact rfl) (Or.inl ⟨by rfl, ?_⟩) ?_
 ·intro wq hS
  go_simp
 try simp only [nrm]
 refine tK 3 45 (.int .i64 e.n0) (by exact rfl) (Or.inl ⟨by rfl, ?_⟩) ?_
 ·intro wq hS
  have c := VA.cell hS 0 (v := .int .i64 e.n0) rfl
  go_simp
 try simp only [nrm]
 refine tK 5 47 (.pointer (some ⟨w.heap.size + 1, 1, none⟩)) (by exact rfl) (Or.inl ⟨by rfl, ?_⟩) ?_
 ·intro wq hS
  go_simp
 try simp only [nrm]
 refine tK 6 48 (.int .i64 e.n1) (by exact rfl) (Or.inl ⟨by rfl, ?_⟩) ?_
 ·intro wq hS
  have c := VA.cell hS 1 (v := .int .i64 e.n1) rfl
  go_simp
 try simp only [nrm]
 clear hHeld
 refine rdy 4 (fun K hK => ?_)
 go_simp
 refine (bD wz B F M HM_z.out rp _ e.n0 1 HR_z.out).mono ?_
 rintro r w3 ⟨R1, rfl, e1, f1, h1, h2⟩
 have HR_3 : Hid (RO w3 rp F.pm _) := h1
 have HM_3 : Hid (MD w3 B F M) := HM_z.out.ro HR_z.out h2
 have HN_3 : Hid (VA w3 (w.heap.size + 1) [.int .i64 e.n0, .int .i64 e.n1, .int .i64 e.n2, .int .i64 e.n3, .int .i64 e.n4, .int .i64 e.n5, .int .i64 e.n6, .int .i64 e.n7] 28) := HN_z.out.but h2 (by have := HQ.out.2.2.2; omega)
 have HB_3 : Hid (But (fun i => i = rp) w w3) := HB_2.out.trans ((af BB_z.out (fun i => i = rp)).trans h2 (fun i hi hx => hx)) (fun i _ hx => hx)
 have FR1_3 : Hid (RF w3 R1) := f1
 have ER1 : Hid (_ = _) := e1
 clear h1 h2 e1 f1
 go_wp2_with fail
 refine hK.out _ _ HN_3.out (fun hHeld => ?_)
 clear hK K hHeld
 try simp only [nrm]
 refine rdy 7 (fun K hK => ?_)
 go_simp
 refine (gk w3 rp F.pm _ e.n1 R1 HR_3.out FR1_3.out).mono ?_
 rintro r w4 ⟨rfl, h1, h2⟩
 have HR_4 : Hid (RO w4 rp F.pm _) := h1
 have HB_4 : Hid (But (fun i => i = rp) w w4) := HB_3.out.trans h2 (fun i _ hx => hx)
 have HN_4 : Hid (VA w4 (w.heap.size + 1) [.int .i64 e.n0, .int .i64 e.n1, .int .i64 e.n2, .int .i64 e.n3, .int .i64 e.n4, .int .i64 e.n5, .int .i64 e.n6, .int .i64 e.n7] 28) := HN_3.out.but h2 (by have := HQ.out.2.2.2; omega)
 clear h1 h2
 go_wp2_with fail
 refine hK.out _ _ HN_4.out (fun hHeld => ?_)
 clear hK K
 try simp only [nrm]
 refine wpAnyH_done (by kernel_rfl) ?_ _
 refine NoPanic.normal ?_
 clear hHeld
 go_wp2_with fail
 refine bodyPost_end (v := .tuple #[]) (by simp [results, Tryz.results74, go_sem]) rfl ?_
 refine ⟨rfl, ?_, HB_4.out⟩
 have H := HR_4.out
 rw [fk, ER1.out] at H
 exact H
set_option maxRecDepth 100000 in
theorem vu (w : World) (B : Nat) (F : FB) (M : PM) (hM : MD w B F M) (rp : Nat) (l : Int) (h : RO w rp F.pm l) (e : EV) (he : e.ok) (tv : Value) (R : Tr w tv e.ts) (hno : ∀ n c, tv = .slice none n c → c = 0) (T : TBL w) (hrp : 6 ≤ rp) (hop : e.op = 5) :
  Calls Tryz.prog 74 #[.pointer (some ⟨rp, 0, none⟩), .agg (e.cells tv).toArray] w fun r w' => r = .returned (.tuple #[]) ∧ RO w' rp F.pm (whn (namedK M (whn l (beyond e.n1 10000000000000) 1) e.n0 1) (fundsO M (acctO M e.n0) e.n1) 13) ∧ But (fun i => i = rp) w w' := by
 have b0 := (Below.refl w.heap.size w).alloc (Nat.le_refl _) (.cells (e.cells tv).toArray 31)
 have b1 := b0.alloc (by simp) (.cells #[.int .i64 0, .int .i64 0, .int .i64 0, .int .i64 0, .int .i64 0, .int .i64 0, .int .i64 0, .int .i64 0] 28)
 have V00 := aa w (e.cells tv) 31
 have V0 := V00.alloc (.cells #[.int .i64 0, .int .i64 0, .int .i64 0, .int .i64 0, .int .i64 0, .int .i64 0, .int .i64 0, .int .i64 0] 28)
 have hn0 := aa (w.alloc (.cells (e.cells tv).toArray 31)) ([.int .i64 0, .int .i64 0, .int .i64 0, .int .i64 0, .int .i64 0, .int .i64 0, .int .i64 0, .int .i64 0] : List Value) 28
 rw [World.size_alloc] at hn0
 have HN0 := hI_ hn0
 have y0 := V00.cell 2 (v := .int .i64 e.n0) rfl
 have y1 := V00.cell 3 (v := .int .i64 e.n1) rfl
 have y2 := V00.cell 4 (v := .int .i64 e.n2) rfl
 have y3 := V00.cell 5 (v := .int .i64 e.n3) rfl
 have y4 := V00.cell 6 (v := .int .i64 e.n4) rfl
 have y5 := V00.cell 7 (v := .int .i64 e.n5) rfl
 have y6 := V00.cell 8 (v := .int .i64 e.n6) rfl
 have y7 := V00.cell 9 (v := .int .i64 e.n7) rfl
 have HE0 := hI_ V0
 have HB0 := hI_ b1
 have HTF : Hid (∃ a n c, tv = Value.slice a n c) := (show ∃ a n c, tv = Value.slice a n c from by obtain ⟨a, c, e, _⟩ := R.form; exact ⟨a, _, c, e⟩)
 have HH : Hid (MD w B F M ∧ RO w rp F.pm l ∧ Tr w tv e.ts ∧ TBL w) := ⟨hM, h, R, T⟩
 have HQ : Hid (6 ≤ rp ∧ e.ok ∧ (∀ n c, tv = .slice none n c → c = 0) ∧ rp < w.heap.size) := ⟨hrp, he, hno, VA.lt h⟩
 have HOP : Hid (e.op = 5) := hop
 clear b0 b1 V00 V0 hn0 hM h R T hrp he hno hop
 go_enter Tryz.func74, Tryz.ntmps74
 go_upto_region 2 with (refine stA rfl 28 _ _ rfl (w.heap.size + 1) (by rfl) ([.int .i64 0, .int .i64 0, .int .i64 0, .int .i64 0, .int .i64 0, .int .i64 0, .int .i64 0, .int .i64 0] : List Value) [.int .i64 e.n0, .int .i64 e.n1, .int .i64 e.n2, .int .i64 e.n3, .int .i64 e.n4, .int .i64 e.n5, .int .i64 e.n6, .int .i64 e.n7] (by rfl) 28 HN0.out bp rfl (aI e) ?_; intro w1 hv1 hu1)
 have hb1 := hu1.bel HB0.out (by omega)
 have HM_1 : Hid (MD w1 B F M) := HH.out.1.step hb1
 have HR_1 : Hid (RO w1 rp F.pm l) := HH.out.2.1.step hb1
 have HB_1 : Hid (But (fun i => i = rp) w w1) := af hb1 _
 have HTR_1 : Hid (Tr w1 tv e.ts) := HH.out.2.2.1.step hb1
 have HT_1 : Hid (TBL w1) := HH.out.2.2.2.step hb1
 have HE_1 : Hid (VA w1 w.heap.size (e.cells tv) 31) := HE0.out.upd hu1 (by omega)
 have HN_1 : Hid (VA w1 (w.heap.size + 1) [.int .i64 e.n0, .int .i64 e.n1, .int .i64 e.n2, .int .i64 e.n3, .int .i64 e.n4, .int .i64 e.n5, .int .i64 e.n6, .int .i64 e.n7] 28) := hv1
 have y : w1.cell? ⟨w.heap.size, 0, none⟩ = some (.int .u8 5) := by have := HE_1.out.cell 0 (v := .int .u8 (e.op : Int)) rfl; rw [HOP.out] at this; exact this
 clear hb1 hv1 hu1 HN0 HE0 HB0 HH y0 y1 y2 y3 y4 y5 y6 y7
 have m0 := HN_1.out.cell 0 (v := .int .i64 e.n0) rfl
 have m1 := HN_1.out.cell 1 (v := .int .i64 e.n1) rfl
 have m2 := HN_1.out.cell 2 (v := .int .i64 e.n2) rfl
 have m3 := HN_1.out.cell 3 (v := .int .i64 e.n3) rfl
 go_wp2_with fail
 refine Calls.mono (bO w1 rp F.pm _ e.n1 HR_1.out) ?_
 rintro r w2 ⟨rfl, h1, h2⟩
 have HB_12 : Hid (But (fun i => i = rp) w1 w2) := h2
 have HR_2 : Hid (RO _ _ _ _) := h1
 have HB_2 : Hid (But (fun i => i = rp) w w2) := HB_1.out.trans h2 (fun i _ hx => hx)
 have HM_2 : Hid (MD w2 B F M) := HM_1.out.ro HR_1.out h2
 clear h1 h2 HR_1 HB_1 HM_1
 have HN_2 : Hid (VA w2 (w.heap.size + 1) [.int .i64 e.n0, .int .i64 e.n1, .int .i64 e.n2, .int .i64 e.n3, .int .i64 e.n4, .int .i64 e.n5, .int .i64 e.n6, .int .i64 e.n7] 28) := HN_1.out.but (HB_12.out) (by have := HQ.out.2.2.2; omega)
 clear m0 m1 m2 m3 y
 go_upto_region 14 with fail
 have BB_2 := hI_ (Below.refl w2.heap.size w2)
 refine wp_region_noPanic ?_
 refine wp_region_held_drew (S := fun V => VA V (w.heap.size + 1) [.int .i64 e.n0, .int .i64 e.n1, .int .i64 e.n2, .int .i64 e.n3, .int .i64 e.n4, .int .i64 e.n5, .int .i64 e.n6, .int .i64 e.n7] 28) (by kernel_rfl) (HN_2.out.drew) ?_
 intro hHeld
 have bz := (Below.refl w2.heap.size w2).drew
 have HM_z := hI_ (HM_2.out.step bz)
 have HR_z := hI_ (HR_2.out.step bz)
 have HN_z := hI_ (HN_2.out.step bz)
 have BB_z := hI_ (BB_2.out.trans (bz.mono BB_2.out.size))
 generalize w2.drew = wz at *
 clear bz
 refine tK 0 56 (.pointer (some ⟨rp, 0, none⟩)) (by exact rfl) (Or.inl ⟨by rfl, ?_⟩) ?_
 ·intro wq hS
  go_simp
 try simp only [nrm]
 refine tK 1 57 (.pointer (some ⟨rp, 0, none⟩)) (by exact rfl) (Or.inl ⟨by rfl, ?_⟩) ?_
 ·intro wq hS
  go_simp
 try simp only [nrm]
 refine tK 2 58 (.pointer (some ⟨w.heap.size + 1, 0, none⟩)) (by exact rfl) (Or.inl ⟨by rfl, ?_⟩) ?_
 ·intro wq hS
  go_simp
 try simp only [nrm]
 refine tK 3 59 (.int .i64 e.n0) (by exact rfl) (Or.inl ⟨by rfl, ?_⟩) ?_
 ·intro wq hS
  have c := VA.cell hS 0 (v := .int .i64 e.n0) rfl
  go_simp
 try simp only [nrm]
 refine tK 5 61 (.pointer (some ⟨w.heap.size + 1, 1, none⟩)) (by exact rfl) (Or.inl ⟨by rfl, ?_⟩) ?_
 ·intro wq hS
  go_simp
 try simp only [nrm]
 refine tK 6 62 (.int .i64 e.n1) (by exact rfl) (Or.inl ⟨by rfl, ?_⟩) ?_
 ·intro wq hS
  have c := VA.cell hS 1 (v := .int .i64 e.n1) rfl
  go_simp
 try simp only [nrm]
 clear hHeld
 refine rdy 4 (fun K hK => ?_)
 go_simp
 refine (bD wz B F M HM_z.out rp _ e.n0 1 HR_z.out).mono ?_
 rintro r w3 ⟨R1, rfl, e1, f1, h1, h2⟩
 have HR_3 : Hid (RO w3 rp F.pm _) := h1
 have HM_3 : Hid (MD w3 B F M) := HM_z.out.ro HR_z.out h2
 have HN_3 : Hid (VA w3 (w.heap.size + 1) [.int .i64 e.n0, .int .i64 e.n1, .int .i64 e.n2, .int .i64 e.n3, .int .i64 e.n4, .int .i64 e.n5, .int .i64 e.n6, .int .i64 e.n7] 28) := HN_z.out.but h2 (by have := HQ.out.2.2.2; omega)
 have HB_3 : Hid (But (fun i => i = rp) w w3) := HB_2.out.trans ((af BB_z.out (fun i => i = rp)).trans h2 (fun i hi hx => hx)) (fun i _ hx => hx)
 have FR1_3 : Hid (RF w3 R1) := f1
 have ER1 : Hid (_ = _) := e1
 clear h1 h2 e1 f1
 go_wp2_with fail
 refine hK.out _ _ HN_3.out (fun hHeld => ?_)
 clear hK K hHeld
 try simp only [nrm]
 refine rdy 7 (fun K hK => ?_)
 go_simp
 refine (dh w3 B F M HM_3.out rp _ e.n1 R1 HR_3.out FR1_3.out).mono ?_
 rintro r w4 ⟨rfl, h1, h2⟩
 have HR_4 : Hid (RO w4 rp F.pm _) := h1
 have HB_4 : Hid (But (fun i => i = rp) w w4) := HB_3.out.trans h2 (fun i _ hx => hx)
 have HN_4 : Hid (VA w4 (w.heap.size + 1) [.int .i64 e.n0, .int .i64 e.n1, .int .i64 e.n2, .int .i64 e.n3, .int .i64 e.n4, .int .i64 e.n5, .int .i64 e.n6, .int .i64 e.n7] 28) := HN_3.out.but h2 (by have := HQ.out.2.2.2; omega)
 clear h1 h2
 go_wp2_with fail
 refine hK.out _ _ HN_4.out (fun hHeld => ?_)
 clear hK K
 try simp only [nrm]
 refine wpAnyH_done (by kernel_rfl) ?_ _
 refine NoPanic.normal ?_
 clear hHeld
 go_wp2_with fail
 refine bodyPost_end (v := .tuple #[]) (by simp [results, Tryz.results74, go_sem]) rfl ?_
 refine ⟨rfl, ?_, HB_4.out⟩
 have H := HR_4.out
 rw [cd, ER1.out] at H
 exact H
set_option maxRecDepth 100000 in
theorem vv (w : World) (B : Nat) (F : FB) (M : PM) (hM : MD w B F M) (rp : Nat) (l : Int) (h : RO w rp F.pm l) (e : EV) (he : e.ok) (tv : Value) (R : Tr w tv e.ts) (hno : ∀ n c, tv = .slice none n c → c = 0) (T : TBL w) (hrp : 6 ≤ rp) (hop : e.op = 6) :
  Calls Tryz.prog 74 #[.pointer (some ⟨rp, 0, none⟩), .agg (e.cells tv).toArray] w fun r w' => r = .returned (.tuple #[]) ∧ RO w' rp F.pm (transferL M l e.n0 e.n1 e.n2) ∧ But (fun i => i = rp) w w' := by
 have b0 := (Below.refl w.heap.size w).alloc (Nat.le_refl _) (.cells (e.cells tv).toArray 31)
 have b1 := b0.alloc (by simp) (.cells #[.int .i64 0, .int .i64 0, .int .i64 0, .int .i64 0, .int .i64 0, .int .i64 0, .int .i64 0, .int .i64 0] 28)
 have V00 := aa w (e.cells tv) 31
 have V0 := V00.alloc (.cells #[.int .i64 0, .int .i64 0, .int .i64 0, .int .i64 0, .int .i64 0, .int .i64 0, .int .i64 0, .int .i64 0] 28)
 have hn0 := aa (w.alloc (.cells (e.cells tv).toArray 31)) ([.int .i64 0, .int .i64 0, .int .i64 0, .int .i64 0, .int .i64 0, .int .i64 0, .int .i64 0, .int .i64 0] : List Value) 28
 rw [World.size_alloc] at hn0
 have HN0 := hI_ hn0
 have y0 := V00.cell 2 (v := .int .i64 e.n0) rfl
 have y1 := V00.cell 3 (v := .int .i64 e.n1) rfl
 have y2 := V00.cell 4 (v := .int .i64 e.n2) rfl
 have y3 := V00.cell 5 (v := .int .i64 e.n3) rfl
 have y4 := V00.cell 6 (v := .int .i64 e.n4) rfl
 have y5 := V00.cell 7 (v := .int .i64 e.n5) rfl
 have y6 := V00.cell 8 (v := .int .i64 e.n6) rfl
 have y7 := V00.cell 9 (v := .int .i64 e.n7) rfl
 have HE0 := hI_ V0
 have HB0 := hI_ b1
 have HTF : Hid (∃ a n c, tv = Value.slice a n c) := (show ∃ a n c, tv = Value.slice a n c from by obtain ⟨a, c, e, _⟩ := R.form; exact ⟨a, _, c, e⟩)
 have HH : Hid (MD w B F M ∧ RO w rp F.pm l ∧ Tr w tv e.ts ∧ TBL w) := ⟨hM, h, R, T⟩
 have HQ : Hid (6 ≤ rp ∧ e.ok ∧ (∀ n c, tv = .slice none n c → c = 0) ∧ rp < w.heap.size) := ⟨hrp, he, hno, VA.lt h⟩
 have HOP : Hid (e.op = 6) := hop
 clear b0 b1 V00 V0 hn0 hM h R T hrp he hno hop
 go_enter Tryz.func74, Tryz.ntmps74
 go_upto_region 2 with (refine stA rfl 28 _ _ rfl (w.heap.size + 1) (by rfl) ([.int .i64 0, .int .i64 0, .int .i64 0, .int .i64 0, .int .i64 0, .int .i64 0, .int .i64 0, .int .i64 0] : List Value) [.int .i64 e.n0, .int .i64 e.n1, .int .i64 e.n2, .int .i64 e.n3, .int .i64 e.n4, .int .i64 e.n5, .int .i64 e.n6, .int .i64 e.n7] (by rfl) 28 HN0.out bp rfl (aI e) ?_; intro w1 hv1 hu1)
 have hb1 := hu1.bel HB0.out (by omega)
 have HM_1 : Hid (MD w1 B F M) := HH.out.1.step hb1
 have HR_1 : Hid (RO w1 rp F.pm l) := HH.out.2.1.step hb1
 have HB_1 : Hid (But (fun i => i = rp) w w1) := af hb1 _
 have HTR_1 : Hid (Tr w1 tv e.ts) := HH.out.2.2.1.step hb1
 have HT_1 : Hid (TBL w1) := HH.out.2.2.2.step hb1
 have HE_1 : Hid (VA w1 w.heap.size (e.cells tv) 31) := HE0.out.upd hu1 (by omega)
 have HN_1 : Hid (VA w1 (w.heap.size + 1) [.int .i64 e.n0, .int .i64 e.n1, .int .i64 e.n2, .int .i64 e.n3, .int .i64 e.n4, .int .i64 e.n5, .int .i64 e.n6, .int .i64 e.n7] 28) := hv1
 have y : w1.cell? ⟨w.heap.size, 0, none⟩ = some (.int .u8 6) := by have := HE_1.out.cell 0 (v := .int .u8 (e.op : Int)) rfl; rw [HOP.out] at this; exact this
 clear hb1 hv1 hu1 HN0 HE0 HB0 HH y0 y1 y2 y3 y4 y5 y6 y7
 have m0 := HN_1.out.cell 0 (v := .int .i64 e.n0) rfl
 have m1 := HN_1.out.cell 1 (v := .int .i64 e.n1) rfl
 have m2 := HN_1.out.cell 2 (v := .int .i64 e.n2) rfl
 have m3 := HN_1.out.cell 3 (v := .int .i64 e.n3) rfl
 go_wp2_with fail
 refine Calls.mono (jn w1 B F M HM_1.out rp _ e.n0 e.n1 e.n2 HR_1.out) ?_
 rintro r w2 ⟨rfl, h1, h2⟩
 have HR_2 : Hid (RO _ _ _ _) := h1
 have HB_2 : Hid (But (fun i => i = rp) w w2) := HB_1.out.trans h2 (fun i _ hx => hx)
 have HM_2 : Hid (MD w2 B F M) := HM_1.out.ro HR_1.out h2
 clear h1 h2 HR_1 HB_1 HM_1
 clear m0 m1 m2 m3 y
 go_wp2_with fail
 refine bodyPost_end (v := .tuple #[]) (by simp [results, Tryz.results74, go_sem]) rfl ?_
 refine ⟨rfl, ?_, HB_2.out⟩
 have H := HR_2.out
 exact H
set_option maxRecDepth 100000 in
theorem vw (w : World) (B : Nat) (F : FB) (M : PM) (hM : MD w B F M) (rp : Nat) (l : Int) (h : RO w rp F.pm l) (e : EV) (he : e.ok) (tv : Value) (R : Tr w tv e.ts) (hno : ∀ n c, tv = .slice none n c → c = 0) (T : TBL w) (hrp : 6 ≤ rp) (hop : e.op = 7) :
  Calls Tryz.prog 74 #[.pointer (some ⟨rp, 0, none⟩), .agg (e.cells tv).toArray] w fun r w' => r = .returned (.tuple #[]) ∧ RO w' rp F.pm (holdL M l e.n0 e.n1 e.n2) ∧ But (fun i => i = rp) w w' := by
 have b0 := (Below.refl w.heap.size w).alloc (Nat.le_refl _) (.cells (e.cells tv).toArray 31)
 have b1 := b0.alloc (by simp) (.cells #[.int .i64 0, .int .i64 0, .int .i64 0, .int .i64 0, .int .i64 0, .int .i64 0, .int .i64 0, .int .i64 0] 28)
 have V00 := aa w (e.cells tv) 31
 have V0 := V00.alloc (.cells #[.int .i64 0, .int .i64 0, .int .i64 0, .int .i64 0, .int .i64 0, .int .i64 0, .int .i64 0, .int .i64 0] 28)
 have hn0 := aa (w.alloc (.cells (e.cells tv).toArray 31)) ([.int .i64 0, .int .i64 0, .int .i64 0, .int .i64 0, .int .i64 0, .int .i64 0, .int .i64 0, .int .i64 0] : List Value) 28
 rw [World.size_alloc] at hn0
 have HN0 := hI_ hn0
 have y0 := V00.cell 2 (v := .int .i64 e.n0) rfl
 have y1 := V00.cell 3 (v := .int .i64 e.n1) rfl
 have y2 := V00.cell 4 (v := .int .i64 e.n2) rfl
 have y3 := V00.cell 5 (v := .int .i64 e.n3) rfl
 have y4 := V00.cell 6 (v := .int .i64 e.n4) rfl
 have y5 := V00.cell 7 (v := .int .i64 e.n5) rfl
 have y6 := V00.cell 8 (v := .int .i64 e.n6) rfl
 have y7 := V00.cell 9 (v := .int .i64 e.n7) rfl
 have HE0 := hI_ V0
 have HB0 := hI_ b1
 have HTF : Hid (∃ a n c, tv = Value.slice a n c) := (show ∃ a n c, tv = Value.slice a n c from by obtain ⟨a, c, e, _⟩ := R.form; exact ⟨a, _, c, e⟩)
 have HH : Hid (MD w B F M ∧ RO w rp F.pm l ∧ Tr w tv e.ts ∧ TBL w) := ⟨hM, h, R, T⟩
 have HQ : Hid (6 ≤ rp ∧ e.ok ∧ (∀ n c, tv = .slice none n c → c = 0) ∧ rp < w.heap.size) := ⟨hrp, he, hno, VA.lt h⟩
 have HOP : Hid (e.op = 7) := hop
 clear b0 b1 V00 V0 hn0 hM h R T hrp he hno hop
 go_enter Tryz.func74, Tryz.ntmps74
 go_upto_region 2 with (refine stA rfl 28 _ _ rfl (w.heap.size + 1) (by rfl) ([.int .i64 0, .int .i64 0, .int .i64 0, .int .i64 0, .int .i64 0, .int .i64 0, .int .i64 0, .int .i64 0] : List Value) [.int .i64 e.n0, .int .i64 e.n1, .int .i64 e.n2, .int .i64 e.n3, .int .i64 e.n4, .int .i64 e.n5, .int .i64 e.n6, .int .i64 e.n7] (by rfl) 28 HN0.out bp rfl (aI e) ?_; intro w1 hv1 hu1)
 have hb1 := hu1.bel HB0.out (by omega)
 have HM_1 : Hid (MD w1 B F M) := HH.out.1.step hb1
 have HR_1 : Hid (RO w1 rp F.pm l) := HH.out.2.1.step hb1
 have HB_1 : Hid (But (fun i => i = rp) w w1) := af hb1 _
 have HTR_1 : Hid (Tr w1 tv e.ts) := HH.out.2.2.1.step hb1
 have HT_1 : Hid (TBL w1) := HH.out.2.2.2.step hb1
 have HE_1 : Hid (VA w1 w.heap.size (e.cells tv) 31) := HE0.out.upd hu1 (by omega)
 have HN_1 : Hid (VA w1 (w.heap.size + 1) [.int .i64 e.n0, .int .i64 e.n1, .int .i64 e.n2, .int .i64 e.n3, .int .i64 e.n4, .int .i64 e.n5, .int .i64 e.n6, .int .i64 e.n7] 28) := hv1
 have y : w1.cell? ⟨w.heap.size, 0, none⟩ = some (.int .u8 7) := by have := HE_1.out.cell 0 (v := .int .u8 (e.op : Int)) rfl; rw [HOP.out] at this; exact this
 clear hb1 hv1 hu1 HN0 HE0 HB0 HH y0 y1 y2 y3 y4 y5 y6 y7
 have m0 := HN_1.out.cell 0 (v := .int .i64 e.n0) rfl
 have m1 := HN_1.out.cell 1 (v := .int .i64 e.n1) rfl
 have m2 := HN_1.out.cell 2 (v := .int .i64 e.n2) rfl
 have m3 := HN_1.out.cell 3 (v := .int .i64 e.n3) rfl
 go_wp2_with fail
 refine Calls.mono (pT w1 B F M HM_1.out rp _ e.n0 e.n1 e.n2 HR_1.out HQ.out.2.1.n1) ?_
 rintro r w2 ⟨rfl, h1, h2⟩
 have HR_2 : Hid (RO _ _ _ _) := h1
 have HB_2 : Hid (But (fun i => i = rp) w w2) := HB_1.out.trans h2 (fun i _ hx => hx)
 have HM_2 : Hid (MD w2 B F M) := HM_1.out.ro HR_1.out h2
 clear h1 h2 HR_1 HB_1 HM_1
 clear m0 m1 m2 m3 y
 go_wp2_with fail
 refine bodyPost_end (v := .tuple #[]) (by simp [results, Tryz.results74, go_sem]) rfl ?_
 refine ⟨rfl, ?_, HB_2.out⟩
 have H := HR_2.out
 exact H
set_option maxRecDepth 100000 in
theorem vx (w : World) (B : Nat) (F : FB) (M : PM) (hM : MD w B F M) (rp : Nat) (l : Int) (h : RO w rp F.pm l) (e : EV) (he : e.ok) (tv : Value) (R : Tr w tv e.ts) (hno : ∀ n c, tv = .slice none n c → c = 0) (T : TBL w) (hrp : 6 ≤ rp) (hop : e.op = 8) :
  Calls Tryz.prog 74 #[.pointer (some ⟨rp, 0, none⟩), .agg (e.cells tv).toArray] w fun r w' => r = .returned (.tuple #[]) ∧ RO w' rp F.pm (freeL M l e.n0 e.n1) ∧ But (fun i => i = rp) w w' := by
 have b0 := (Below.refl w.heap.size w).alloc (Nat.le_refl _) (.cells (e.cells tv).toArray 31)
 have b1 := b0.alloc (by simp) (.cells #[.int .i64 0, .int .i64 0, .int .i64 0, .int .i64 0, .int .i64 0, .int .i64 0, .int .i64 0, .int .i64 0] 28)
 have V00 := aa w (e.cells tv) 31
 have V0 := V00.alloc (.cells #[.int .i64 0, .int .i64 0, .int .i64 0, .int .i64 0, .int .i64 0, .int .i64 0, .int .i64 0, .int .i64 0] 28)
 have hn0 := aa (w.alloc (.cells (e.cells tv).toArray 31)) ([.int .i64 0, .int .i64 0, .int .i64 0, .int .i64 0, .int .i64 0, .int .i64 0, .int .i64 0, .int .i64 0] : List Value) 28
 rw [World.size_alloc] at hn0
 have HN0 := hI_ hn0
 have y0 := V00.cell 2 (v := .int .i64 e.n0) rfl
 have y1 := V00.cell 3 (v := .int .i64 e.n1) rfl
 have y2 := V00.cell 4 (v := .int .i64 e.n2) rfl
 have y3 := V00.cell 5 (v := .int .i64 e.n3) rfl
 have y4 := V00.cell 6 (v := .int .i64 e.n4) rfl
 have y5 := V00.cell 7 (v := .int .i64 e.n5) rfl
 have y6 := V00.cell 8 (v := .int .i64 e.n6) rfl
 have y7 := V00.cell 9 (v := .int .i64 e.n7) rfl
 have HE0 := hI_ V0
 have HB0 := hI_ b1
 have HTF : Hid (∃ a n c, tv = Value.slice a n c) := (show ∃ a n c, tv = Value.slice a n c from by obtain ⟨a, c, e, _⟩ := R.form; exact ⟨a, _, c, e⟩)
 have HH : Hid (MD w B F M ∧ RO w rp F.pm l ∧ Tr w tv e.ts ∧ TBL w) := ⟨hM, h, R, T⟩
 have HQ : Hid (6 ≤ rp ∧ e.ok ∧ (∀ n c, tv = .slice none n c → c = 0) ∧ rp < w.heap.size) := ⟨hrp, he, hno, VA.lt h⟩
 have HOP : Hid (e.op = 8) := hop
 clear b0 b1 V00 V0 hn0 hM h R T hrp he hno hop
 go_enter Tryz.func74, Tryz.ntmps74
 go_upto_region 2 with (refine stA rfl 28 _ _ rfl (w.heap.size + 1) (by rfl) ([.int .i64 0, .int .i64 0, .int .i64 0, .int .i64 0, .int .i64 0, .int .i64 0, .int .i64 0, .int .i64 0] : List Value) [.int .i64 e.n0, .int .i64 e.n1, .int .i64 e.n2, .int .i64 e.n3, .int .i64 e.n4, .int .i64 e.n5, .int .i64 e.n6, .int .i64 e.n7] (by rfl) 28 HN0.out bp rfl (aI e) ?_; intro w1 hv1 hu1)
 have hb1 := hu1.bel HB0.out (by omega)
 have HM_1 : Hid (MD w1 B F M) := HH.out.1.step hb1
 have HR_1 : Hid (RO w1 rp F.pm l) := HH.out.2.1.step hb1
 have HB_1 : Hid (But (fun i => i = rp) w w1) := af hb1 _
 have HTR_1 : Hid (Tr w1 tv e.ts) := HH.out.2.2.1.step hb1
 have HT_1 : Hid (TBL w1) := HH.out.2.2.2.step hb1
 have HE_1 : Hid (VA w1 w.heap.size (e.cells tv) 31) := HE0.out.upd hu1 (by omega)
 have HN_1 : Hid (VA w1 (w.heap.size + 1) [.int .i64 e.n0, .int .i64 e.n1, .int .i64 e.n2, .int .i64 e.n3, .int .i64 e.n4, .int .i64 e.n5, .int .i64 e.n6, .int .i64 e.n7] 28) := hv1
 have y : w1.cell? ⟨w.heap.size, 0, none⟩ = some (.int .u8 8) := by have := HE_1.out.cell 0 (v := .int .u8 (e.op : Int)) rfl; rw [HOP.out] at this; exact this
 clear hb1 hv1 hu1 HN0 HE0 HB0 HH y0 y1 y2 y3 y4 y5 y6 y7
 have m0 := HN_1.out.cell 0 (v := .int .i64 e.n0) rfl
 have m1 := HN_1.out.cell 1 (v := .int .i64 e.n1) rfl
 have m2 := HN_1.out.cell 2 (v := .int .i64 e.n2) rfl
 have m3 := HN_1.out.cell 3 (v := .int .i64 e.n3) rfl
 go_wp2_with fail
 refine Calls.mono (pS w1 B F M HM_1.out rp _ e.n0 e.n1 HR_1.out HQ.out.2.1.n1) ?_
 rintro r w2 ⟨rfl, h1, h2⟩
 have HR_2 : Hid (RO _ _ _ _) := h1
 have HB_2 : Hid (But (fun i => i = rp) w w2) := HB_1.out.trans h2 (fun i _ hx => hx)
 have HM_2 : Hid (MD w2 B F M) := HM_1.out.ro HR_1.out h2
 clear h1 h2 HR_1 HB_1 HM_1
 clear m0 m1 m2 m3 y
 go_wp2_with fail
 refine bodyPost_end (v := .tuple #[]) (by simp [results, Tryz.results74, go_sem]) rfl ?_
 refine ⟨rfl, ?_, HB_2.out⟩
 have H := HR_2.out
 exact H
set_option maxRecDepth 100000 in
theorem vy (w : World) (B : Nat) (F : FB) (M : PM) (hM : MD w B F M) (rp : Nat) (l : Int) (h : RO w rp F.pm l) (e : EV) (he : e.ok) (tv : Value) (R : Tr w tv e.ts) (hno : ∀ n c, tv = .slice none n c → c = 0) (T : TBL w) (hrp : 6 ≤ rp) (hop : e.op = 9) :
  Calls Tryz.prog 74 #[.pointer (some ⟨rp, 0, none⟩), .agg (e.cells tv).toArray] w fun r w' => r = .returned (.tuple #[]) ∧ RO w' rp F.pm (lendL M l e.n0 e.n1 e.n2 e.n3) ∧ But (fun i => i = rp) w w' := by
 have b0 := (Below.refl w.heap.size w).alloc (Nat.le_refl _) (.cells (e.cells tv).toArray 31)
 have b1 := b0.alloc (by simp) (.cells #[.int .i64 0, .int .i64 0, .int .i64 0, .int .i64 0, .int .i64 0, .int .i64 0, .int .i64 0, .int .i64 0] 28)
 have V00 := aa w (e.cells tv) 31
 have V0 := V00.alloc (.cells #[.int .i64 0, .int .i64 0, .int .i64 0, .int .i64 0, .int .i64 0, .int .i64 0, .int .i64 0, .int .i64 0] 28)
 have hn0 := aa (w.alloc (.cells (e.cells tv).toArray 31)) ([.int .i64 0, .int .i64 0, .int .i64 0, .int .i64 0, .int .i64 0, .int .i64 0, .int .i64 0, .int .i64 0] : List Value) 28
 rw [World.size_alloc] at hn0
 have HN0 := hI_ hn0
 have y0 := V00.cell 2 (v := .int .i64 e.n0) rfl
 have y1 := V00.cell 3 (v := .int .i64 e.n1) rfl
 have y2 := V00.cell 4 (v := .int .i64 e.n2) rfl
 have y3 := V00.cell 5 (v := .int .i64 e.n3) rfl
 have y4 := V00.cell 6 (v := .int .i64 e.n4) rfl
 have y5 := V00.cell 7 (v := .int .i64 e.n5) rfl
 have y6 := V00.cell 8 (v := .int .i64 e.n6) rfl
 have y7 := V00.cell 9 (v := .int .i64 e.n7) rfl
 have HE0 := hI_ V0
 have HB0 := hI_ b1
 have HTF : Hid (∃ a n c, tv = Value.slice a n c) := (show ∃ a n c, tv = Value.slice a n c from by obtain ⟨a, c, e, _⟩ := R.form; exact ⟨a, _, c, e⟩)
 have HH : Hid (MD w B F M ∧ RO w rp F.pm l ∧ Tr w tv e.ts ∧ TBL w) := ⟨hM, h, R, T⟩
 have HQ : Hid (6 ≤ rp ∧ e.ok ∧ (∀ n c, tv = .slice none n c → c = 0) ∧ rp < w.heap.size) := ⟨hrp, he, hno, VA.lt h⟩
 have HOP : Hid (e.op = 9) := hop
 clear b0 b1 V00 V0 hn0 hM h R T hrp he hno hop
 go_enter Tryz.func74, Tryz.ntmps74
 go_upto_region 2 with (refine stA rfl 28 _ _ rfl (w.heap.size + 1) (by rfl) ([.int .i64 0, .int .i64 0, .int .i64 0, .int .i64 0, .int .i64 0, .int .i64 0, .int .i64 0, .int .i64 0] : List Value) [.int .i64 e.n0, .int .i64 e.n1, .int .i64 e.n2, .int .i64 e.n3, .int .i64 e.n4, .int .i64 e.n5, .int .i64 e.n6, .int .i64 e.n7] (by rfl) 28 HN0.out bp rfl (aI e) ?_; intro w1 hv1 hu1)
 have hb1 := hu1.bel HB0.out (by omega)
 have HM_1 : Hid (MD w1 B F M) := HH.out.1.step hb1
 have HR_1 : Hid (RO w1 rp F.pm l) := HH.out.2.1.step hb1
 have HB_1 : Hid (But (fun i => i = rp) w w1) := af hb1 _
 have HTR_1 : Hid (Tr w1 tv e.ts) := HH.out.2.2.1.step hb1
 have HT_1 : Hid (TBL w1) := HH.out.2.2.2.step hb1
 have HE_1 : Hid (VA w1 w.heap.size (e.cells tv) 31) := HE0.out.upd hu1 (by omega)
 have HN_1 : Hid (VA w1 (w.heap.size + 1) [.int .i64 e.n0, .int .i64 e.n1, .int .i64 e.n2, .int .i64 e.n3, .int .i64 e.n4, .int .i64 e.n5, .int .i64 e.n6, .int .i64 e.n7] 28) := hv1
 have y : w1.cell? ⟨w.heap.size, 0, none⟩ = some (.int .u8 9) := by have := HE_1.out.cell 0 (v := .int .u8 (e.op : Int)) rfl; rw [HOP.out] at this; exact this
 clear hb1 hv1 hu1 HN0 HE0 HB0 HH y0 y1 y2 y3 y4 y5 y6 y7
 have m0 := HN_1.out.cell 0 (v := .int .i64 e.n0) rfl
 have m1 := HN_1.out.cell 1 (v := .int .i64 e.n1) rfl
 have m2 := HN_1.out.cell 2 (v := .int .i64 e.n2) rfl
 have m3 := HN_1.out.cell 3 (v := .int .i64 e.n3) rfl
 go_wp2_with fail
 refine Calls.mono (pU w1 B F M HM_1.out rp _ e.n0 e.n1 e.n2 e.n3 HR_1.out) ?_
 rintro r w2 ⟨rfl, h1, h2⟩
 have HR_2 : Hid (RO _ _ _ _) := h1
 have HB_2 : Hid (But (fun i => i = rp) w w2) := HB_1.out.trans h2 (fun i _ hx => hx)
 have HM_2 : Hid (MD w2 B F M) := HM_1.out.ro HR_1.out h2
 clear h1 h2 HR_1 HB_1 HM_1
 clear m0 m1 m2 m3 y
 go_wp2_with fail
 refine bodyPost_end (v := .tuple #[]) (by simp [results, Tryz.results74, go_sem]) rfl ?_
 refine ⟨rfl, ?_, HB_2.out⟩
 have H := HR_2.out
 exact H
set_option maxRecDepth 100000 in
theorem tp (w : World) (B : Nat) (F : FB) (M : PM) (hM : MD w B F M) (rp : Nat) (l : Int) (h : RO w rp F.pm l) (e : EV) (he : e.ok) (tv : Value) (R : Tr w tv e.ts) (hno : ∀ n c, tv = .slice none n c → c = 0) (T : TBL w) (hrp : 6 ≤ rp) (hop : e.op = 10) :
  Calls Tryz.prog 74 #[.pointer (some ⟨rp, 0, none⟩), .agg (e.cells tv).toArray] w fun r w' => r = .returned (.tuple #[]) ∧ RO w' rp F.pm (repayL M l e.n0 e.n1 e.n2) ∧ But (fun i => i = rp) w w' := by
 have b0 := (Below.refl w.heap.size w).alloc (Nat.le_refl _) (.cells (e.cells tv).toArray 31)
 have b1 := b0.alloc (by simp) (.cells #[.int .i64 0, .int .i64 0, .int .i64 0, .int .i64 0, .int .i64 0, .int .i64 0, .int .i64 0, .int .i64 0] 28)
 have V00 := aa w (e.cells tv) 31
 have V0 := V00.alloc (.cells #[.int .i64 0, .int .i64 0, .int .i64 0, .int .i64 0, .int .i64 0, .int .i64 0, .int .i64 0, .int .i64 0] 28)
 have hn0 := aa (w.alloc (.cells (e.cells tv).toArray 31)) ([.int .i64 0, .int .i64 0, .int .i64 0, .int .i64 0, .int .i64 0, .int .i64 0, .int .i64 0, .int .i64 0] : List Value) 28
 rw [World.size_alloc] at hn0
 have HN0 := hI_ hn0
 have y0 := V00.cell 2 (v := .int .i64 e.n0) rfl
 have y1 := V00.cell 3 (v := .int .i64 e.n1) rfl
 have y2 := V00.cell 4 (v := .int .i64 e.n2) rfl
 have y3 := V00.cell 5 (v := .int .i64 e.n3) rfl
 have y4 := V00.cell 6 (v := .int .i64 e.n4) rfl
 have y5 := V00.cell 7 (v := .int .i64 e.n5) rfl
 have y6 := V00.cell 8 (v := .int .i64 e.n6) rfl
 have y7 := V00.cell 9 (v := .int .i64 e.n7) rfl
 have HE0 := hI_ V0
 have HB0 := hI_ b1
 have HTF : Hid (∃ a n c, tv = Value.slice a n c) := (show ∃ a n c, tv = Value.slice a n c from by obtain ⟨a, c, e, _⟩ := R.form; exact ⟨a, _, c, e⟩)
 have HH : Hid (MD w B F M ∧ RO w rp F.pm l ∧ Tr w tv e.ts ∧ TBL w) := ⟨hM, h, R, T⟩
 have HQ : Hid (6 ≤ rp ∧ e.ok ∧ (∀ n c, tv = .slice none n c → c = 0) ∧ rp < w.heap.size) := ⟨hrp, he, hno, VA.lt h⟩
 have HOP : Hid (e.op = 10) := hop
 clear b0 b1 V00 V0 hn0 hM h R T hrp he hno hop
 go_enter Tryz.func74, Tryz.ntmps74
 go_upto_region 2 with (refine stA rfl 28 _ _ rfl (w.heap.size + 1) (by rfl) ([.int .i64 0, .int .i64 0, .int .i64 0, .int .i64 0, .int .i64 0, .int .i64 0, .int .i64 0, .int .i64 0] : List Value) [.int .i64 e.n0, .int .i64 e.n1, .int .i64 e.n2, .int .i64 e.n3, .int .i64 e.n4, .int .i64 e.n5, .int .i64 e.n6, .int .i64 e.n7] (by rfl) 28 HN0.out bp rfl (aI e) ?_; intro w1 hv1 hu1)
 have hb1 := hu1.bel HB0.out (by omega)
 have HM_1 : Hid (MD w1 B F M) := HH.out.1.step hb1
 have HR_1 : Hid (RO w1 rp F.pm l) := HH.out.2.1.step hb1
 have HB_1 : Hid (But (fun i => i = rp) w w1) := af hb1 _
 have HTR_1 : Hid (Tr w1 tv e.ts) := HH.out.2.2.1.step hb1
 have HT_1 : Hid (TBL w1) := HH.out.2.2.2.step hb1
 have HE_1 : Hid (VA w1 w.heap.size (e.cells tv) 31) := HE0.out.upd hu1 (by omega)
 have HN_1 : Hid (VA w1 (w.heap.size + 1) [.int .i64 e.n0, .int .i64 e.n1, .int .i64 e.n2, .int .i64 e.n3, .int .i64 e.n4, .int .i64 e.n5, .int .i64 e.n6, .int .i64 e.n7] 28) := hv1
 have y : w1.cell? ⟨w.heap.size, 0, none⟩ = some (.int .u8 10) := by have := HE_1.out.cell 0 (v := .int .u8 (e.op : Int)) rfl; rw [HOP.out] at this; exact this
 clear hb1 hv1 hu1 HN0 HE0 HB0 HH y0 y1 y2 y3 y4 y5 y6 y7
 have m0 := HN_1.out.cell 0 (v := .int .i64 e.n0) rfl
 have m1 := HN_1.out.cell 1 (v := .int .i64 e.n1) rfl
 have m2 := HN_1.out.cell 2 (v := .int .i64 e.n2) rfl
 have m3 := HN_1.out.cell 3 (v := .int .i64 e.n3) rfl
 go_wp2_with fail
 refine Calls.mono (nI w1 B F M HM_1.out rp _ e.n0 e.n1 e.n2 HR_1.out) ?_
 rintro r w2 ⟨rfl, h1, h2⟩
 have HR_2 : Hid (RO _ _ _ _) := h1
 have HB_2 : Hid (But (fun i => i = rp) w w2) := HB_1.out.trans h2 (fun i _ hx => hx)
 have HM_2 : Hid (MD w2 B F M) := HM_1.out.ro HR_1.out h2
 clear h1 h2 HR_1 HB_1 HM_1
 clear m0 m1 m2 m3 y
 go_wp2_with fail
 refine bodyPost_end (v := .tuple #[]) (by simp [results, Tryz.results74, go_sem]) rfl ?_
 refine ⟨rfl, ?_, HB_2.out⟩
 have H := HR_2.out
 exact H
set_option maxRecDepth 100000 in
theorem tq (w : World) (B : Nat) (F : FB) (M : PM) (hM : MD w B F M) (rp : Nat) (l : Int) (h : RO w rp F.pm l) (e : EV) (he : e.ok) (tv : Value) (R : Tr w tv e.ts) (hno : ∀ n c, tv = .slice none n c → c = 0) (T : TBL w) (hrp : 6 ≤ rp) (hop : e.op = 11) :
  Calls Tryz.prog 74 #[.pointer (some ⟨rp, 0, none⟩), .agg (e.cells tv).toArray] w fun r w' => r = .returned (.tuple #[]) ∧ RO w' rp F.pm (rateL l e.n0 e.n1 e.n2) ∧ But (fun i => i = rp) w w' := by
 have b0 := (Below.refl w.heap.size w).alloc (Nat.le_refl _) (.cells (e.cells tv).toArray 31)
 have b1 := b0.alloc (by simp) (.cells #[.int .i64 0, .int .i64 0, .int .i64 0, .int .i64 0, .int .i64 0, .int .i64 0, .int .i64 0, .int .i64 0] 28)
 have V00 := aa w (e.cells tv) 31
 have V0 := V00.alloc (.cells #[.int .i64 0, .int .i64 0, .int .i64 0, .int .i64 0, .int .i64 0, .int .i64 0, .int .i64 0, .int .i64 0] 28)
 have hn0 := aa (w.alloc (.cells (e.cells tv).toArray 31)) ([.int .i64 0, .int .i64 0, .int .i64 0, .int .i64 0, .int .i64 0, .int .i64 0, .int .i64 0, .int .i64 0] : List Value) 28
 rw [World.size_alloc] at hn0
 have HN0 := hI_ hn0
 have y0 := V00.cell 2 (v := .int .i64 e.n0) rfl
 have y1 := V00.cell 3 (v := .int .i64 e.n1) rfl
 have y2 := V00.cell 4 (v := .int .i64 e.n2) rfl
 have y3 := V00.cell 5 (v := .int .i64 e.n3) rfl
 have y4 := V00.cell 6 (v := .int .i64 e.n4) rfl
 have y5 := V00.cell 7 (v := .int .i64 e.n5) rfl
 have y6 := V00.cell 8 (v := .int .i64 e.n6) rfl
 have y7 := V00.cell 9 (v := .int .i64 e.n7) rfl
 have HE0 := hI_ V0
 have HB0 := hI_ b1
 have HTF : Hid (∃ a n c, tv = Value.slice a n c) := (show ∃ a n c, tv = Value.slice a n c from by obtain ⟨a, c, e, _⟩ := R.form; exact ⟨a, _, c, e⟩)
 have HH : Hid (MD w B F M ∧ RO w rp F.pm l ∧ Tr w tv e.ts ∧ TBL w) := ⟨hM, h, R, T⟩
 have HQ : Hid (6 ≤ rp ∧ e.ok ∧ (∀ n c, tv = .slice none n c → c = 0) ∧ rp < w.heap.size) := ⟨hrp, he, hno, VA.lt h⟩
 have HOP : Hid (e.op = 11) := hop
 clear b0 b1 V00 V0 hn0 hM h R T hrp he hno hop
 go_enter Tryz.func74, Tryz.ntmps74
 go_upto_region 2 with (refine stA rfl 28 _ _ rfl (w.heap.size + 1) (by rfl) ([.int .i64 0, .int .i64 0, .int .i64 0, .int .i64 0, .int .i64 0, .int .i64 0, .int .i64 0, .int .i64 0] : List Value) [.int .i64 e.n0, .int .i64 e.n1, .int .i64 e.n2, .int .i64 e.n3, .int .i64 e.n4, .int .i64 e.n5, .int .i64 e.n6, .int .i64 e.n7] (by rfl) 28 HN0.out bp rfl (aI e) ?_; intro w1 hv1 hu1)
 have hb1 := hu1.bel HB0.out (by omega)
 have HM_1 : Hid (MD w1 B F M) := HH.out.1.step hb1
 have HR_1 : Hid (RO w1 rp F.pm l) := HH.out.2.1.step hb1
 have HB_1 : Hid (But (fun i => i = rp) w w1) := af hb1 _
 have HTR_1 : Hid (Tr w1 tv e.ts) := HH.out.2.2.1.step hb1
 have HT_1 : Hid (TBL w1) := HH.out.2.2.2.step hb1
 have HE_1 : Hid (VA w1 w.heap.size (e.cells tv) 31) := HE0.out.upd hu1 (by omega)
 have HN_1 : Hid (VA w1 (w.heap.size + 1) [.int .i64 e.n0, .int .i64 e.n1, .int .i64 e.n2, .int .i64 e.n3, .int .i64 e.n4, .int .i64 e.n5, .int .i64 e.n6, .int .i64 e.n7] 28) := hv1
 have y : w1.cell? ⟨w.heap.size, 0, none⟩ = some (.int .u8 11) := by have := HE_1.out.cell 0 (v := .int .u8 (e.op : Int)) rfl; rw [HOP.out] at this; exact this
 clear hb1 hv1 hu1 HN0 HE0 HB0 HH y0 y1 y2 y3 y4 y5 y6 y7
 have m0 := HN_1.out.cell 0 (v := .int .i64 e.n0) rfl
 have m1 := HN_1.out.cell 1 (v := .int .i64 e.n1) rfl
 have m2 := HN_1.out.cell 2 (v := .int .i64 e.n2) rfl
 have m3 := HN_1.out.cell 3 (v := .int .i64 e.n3) rfl
 go_wp2_with fail
 refine Calls.mono (pX w1 B F M HM_1.out rp _ e.n0 e.n1 e.n2 HR_1.out HT_1.out.cu) ?_
 rintro r w2 ⟨rfl, h1, h2⟩
 have HR_2 : Hid (RO _ _ _ _) := h1
 have HB_2 : Hid (But (fun i => i = rp) w w2) := HB_1.out.trans h2 (fun i _ hx => hx)
 have HM_2 : Hid (MD w2 B F M) := HM_1.out.ro HR_1.out h2
 clear h1 h2 HR_1 HB_1 HM_1
 clear m0 m1 m2 m3 y
 go_wp2_with fail
 refine bodyPost_end (v := .tuple #[]) (by simp [results, Tryz.results74, go_sem]) rfl ?_
 refine ⟨rfl, ?_, HB_2.out⟩
 have H := HR_2.out
 exact H
set_option maxRecDepth 100000 in
theorem tt (w : World) (B : Nat) (F : FB) (M : PM) (hM : MD w B F M) (rp : Nat) (l : Int) (h : RO w rp F.pm l) (e : EV) (he : e.ok) (tv : Value) (R : Tr w tv e.ts) (hno : ∀ n c, tv = .slice none n c → c = 0) (T : TBL w) (hrp : 6 ≤ rp) (hop : e.op = 12) :
  Calls Tryz.prog 74 #[.pointer (some ⟨rp, 0, none⟩), .agg (e.cells tv).toArray] w fun r w' => r = .returned (.tuple #[]) ∧ RO w' rp F.pm (exchL M l e.n0 e.n1 e.n2) ∧ But (fun i => i = rp) w w' := by
 have b0 := (Below.refl w.heap.size w).alloc (Nat.le_refl _) (.cells (e.cells tv).toArray 31)
 have b1 := b0.alloc (by simp) (.cells #[.int .i64 0, .int .i64 0, .int .i64 0, .int .i64 0, .int .i64 0, .int .i64 0, .int .i64 0, .int .i64 0] 28)
 have V00 := aa w (e.cells tv) 31
 have V0 := V00.alloc (.cells #[.int .i64 0, .int .i64 0, .int .i64 0, .int .i64 0, .int .i64 0, .int .i64 0, .int .i64 0, .int .i64 0] 28)
 have hn0 := aa (w.alloc (.cells (e.cells tv).toArray 31)) ([.int .i64 0, .int .i64 0, .int .i64 0, .int .i64 0, .int .i64 0, .int .i64 0, .int .i64 0, .int .i64 0] : List Value) 28
 rw [World.size_alloc] at hn0
 have HN0 := hI_ hn0
 have y0 := V00.cell 2 (v := .int .i64 e.n0) rfl
 have y1 := V00.cell 3 (v := .int .i64 e.n1) rfl
 have y2 := V00.cell 4 (v := .int .i64 e.n2) rfl
 have y3 := V00.cell 5 (v := .int .i64 e.n3) rfl
 have y4 := V00.cell 6 (v := .int .i64 e.n4) rfl
 have y5 := V00.cell 7 (v := .int .i64 e.n5) rfl
 have y6 := V00.cell 8 (v := .int .i64 e.n6) rfl
 have y7 := V00.cell 9 (v := .int .i64 e.n7) rfl
 have HE0 := hI_ V0
 have HB0 := hI_ b1
 have HTF : Hid (∃ a n c, tv = Value.slice a n c) := (show ∃ a n c, tv = Value.slice a n c from by obtain ⟨a, c, e, _⟩ := R.form; exact ⟨a, _, c, e⟩)
 have HH : Hid (MD w B F M ∧ RO w rp F.pm l ∧ Tr w tv e.ts ∧ TBL w) := ⟨hM, h, R, T⟩
 have HQ : Hid (6 ≤ rp ∧ e.ok ∧ (∀ n c, tv = .slice none n c → c = 0) ∧ rp < w.heap.size) := ⟨hrp, he, hno, VA.lt h⟩
 have HOP : Hid (e.op = 12) := hop
 clear b0 b1 V00 V0 hn0 hM h R T hrp he hno hop
 go_enter Tryz.func74, Tryz.ntmps74
 go_upto_region 2 with (refine stA rfl 28 _ _ rfl (w.heap.size + 1) (by rfl) ([.int .i64 0, .int .i64 0, .int .i64 0, .int .i64 0, .int .i64 0, .int .i64 0, .int .i64 0, .int .i64 0] : List Value) [.int .i64 e.n0, .int .i64 e.n1, .int .i64 e.n2, .int .i64 e.n3, .int .i64 e.n4, .int .i64 e.n5, .int .i64 e.n6, .int .i64 e.n7] (by rfl) 28 HN0.out bp rfl (aI e) ?_; intro w1 hv1 hu1)
 have hb1 := hu1.bel HB0.out (by omega)
 have HM_1 : Hid (MD w1 B F M) := HH.out.1.step hb1
 have HR_1 : Hid (RO w1 rp F.pm l) := HH.out.2.1.step hb1
 have HB_1 : Hid (But (fun i => i = rp) w w1) := af hb1 _
 have HTR_1 : Hid (Tr w1 tv e.ts) := HH.out.2.2.1.step hb1
 have HT_1 : Hid (TBL w1) := HH.out.2.2.2.step hb1
 have HE_1 : Hid (VA w1 w.heap.size (e.cells tv) 31) := HE0.out.upd hu1 (by omega)
 have HN_1 : Hid (VA w1 (w.heap.size + 1) [.int .i64 e.n0, .int .i64 e.n1, .int .i64 e.n2, .int .i64 e.n3, .int .i64 e.n4, .int .i64 e.n5, .int .i64 e.n6, .int .i64 e.n7] 28) := hv1
 have y : w1.cell? ⟨w.heap.size, 0, none⟩ = some (.int .u8 12) := by have := HE_1.out.cell 0 (v := .int .u8 (e.op : Int)) rfl; rw [HOP.out] at this; exact this
 clear hb1 hv1 hu1 HN0 HE0 HB0 HH y0 y1 y2 y3 y4 y5 y6 y7
 have m0 := HN_1.out.cell 0 (v := .int .i64 e.n0) rfl
 have m1 := HN_1.out.cell 1 (v := .int .i64 e.n1) rfl
 have m2 := HN_1.out.cell 2 (v := .int .i64 e.n2) rfl
 have m3 := HN_1.out.cell 3 (v := .int .i64 e.n3) rfl
 go_wp2_with fail
 refine Calls.mono (pR w1 B F M HM_1.out rp _ e.n0 e.n1 e.n2 HR_1.out HT_1.out HQ.out.1) ?_
 rintro r w2 ⟨rfl, h1, h2⟩
 have HR_2 : Hid (RO _ _ _ _) := h1
 have HB_2 : Hid (But (fun i => i = rp) w w2) := HB_1.out.trans h2 (fun i _ hx => hx)
 have HM_2 : Hid (MD w2 B F M) := HM_1.out.ro HR_1.out h2
 clear h1 h2 HR_1 HB_1 HM_1
 clear m0 m1 m2 m3 y
 go_wp2_with fail
 refine bodyPost_end (v := .tuple #[]) (by simp [results, Tryz.results74, go_sem]) rfl ?_
 refine ⟨rfl, ?_, HB_2.out⟩
 have H := HR_2.out
 exact H
end Go.Proofs.YtjkiplndbcmmbaaGreatDoor