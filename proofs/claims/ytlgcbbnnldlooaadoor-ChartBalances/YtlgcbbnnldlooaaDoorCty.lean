/- ChartBalances: the document's DocBalance; the law's walk. -/
import Derived.Test.YtlgcbbnnldlooaaDoorCtx
namespace Go.Proofs.YtlgcbbnnldlooaaDoor
open Go.RowKit Go.Maps
set_option linter.unusedVariables false

set_option maxHeartbeats 2000000 in
set_option maxRecDepth 100000 in
theorem docbal_ok (p : Nat) (b : Int → Int → Int) (n : Int) (w : World) (D : DL w p b n) (c u : Nat) (h1 : 1 ≤ c) (h8 : c ≤ 8) (hu : u ≤ 3) :
    Calls Tryd.prog 16 #[.pointer (some ⟨p, 0, none⟩), .int .i64 (c : Int), .int .i64 (u : Int)] w fun e w' => e = .returned (.tuple #[dv (b c u) 12, .int .i64 0]) ∧ Below w.heap.size w w' := by
  have BA := (Below.refl w.heap.size w).alloc (Nat.le_refl _) (.cells #[.int .i64 0, .int .u64 0, .int .i64 0] 37)
  have HB := (show Hid _ from BA)
  have HR := (show Hid _ from va_new w [.int .i64 0, .int .u64 0, .int .i64 0] 37)
  have HC := (show Hid _ from fun (_ : Unit) => rbal_ok p b n _ (D.step BA) c u h1 h8 hu)
  have hw : (wi (c : Int) 1 8 && wi (u : Int) 0 3) = true := by rw [wi_yes (by omega) (by omega), wi_yes (by omega) (by omega)]; rfl
  obtain ⟨z, hz⟩ : ∃ z, z = b (c : Int) (u : Int) := ⟨_, rfl⟩
  rw [← hz] at HC ⊢
  clear BA D hz h1 h8 hu
  unfold dv at HC ⊢
  go_enter Tryd.func16, Tryd.ntmps16
  go_wp2_with fail
  refine (is_ok _ _ _).mono ?_
  rintro e w1 ⟨rfl, hq⟩
  obtain rfl := hq.symm
  rw [hw]
  go_wp2_with fail
  refine (HC.out ()).mono ?_
  rintro e w2 ⟨rfl, b2⟩
  have HR2 := (show Hid _ from HR.out.step b2)
  have HB2 := (show Hid _ from HB.out.trans (b2.mono HB.out.size))
  clear b2 HR HB HC
  go_wp2_with (refine stA rfl 37 _ _ rfl w.heap.size (by rfl) [.int .i64 0, .int .u64 0, .int .i64 0] [.int .i64 (dhi z), .int .u64 (dlo z), .int .i64 12] (by rfl) 37 HR2.out infoDe rfl (dec_one z) ?_; intro w3 v3 u3)
  have hld := run_loadVar_row (P := Tryd.prog) w3 w.heap.size 37 37 _ (0, 0) _ v3.blk Tryd.underlying37 rfl infoDe
  exact bodyPost_ret (v := .tuple #[.agg #[.int .i64 (dhi z), .int .u64 (dlo z), .int .i64 12], .int .i64 0]) (by simp [results, Tryd.results16, asAddr, hld]) rfl ⟨rfl, u3.bel HB2.out (Nat.le_refl _)⟩
theorem zero3_one : ∀ v ∈ ([.int .i64 0, .int .u64 0, .int .i64 0] : List Value), v.oneCell' = true := by
  intro v hv
  simp at hv
  rcases hv with rfl | rfl | rfl <;> rfl
set_option maxHeartbeats 2000000 in
set_option maxRecDepth 100000 in
theorem docbal_bad (a : Option Addr) (w : World) (c u : Int) (hv : ¬ Va c u) :
    Calls Tryd.prog 16 #[.pointer a, .int .i64 c, .int .i64 u] w fun e w' => e = .returned (.tuple #[.agg #[.int .i64 0, .int .u64 0, .int .i64 0], .int .i64 1]) ∧ Below w.heap.size w w' := by
  have hw : (wi c 1 8 && wi u 0 3) = false := by
    cases e1 : wi c 1 8
    · rfl
    · cases e2 : wi u 0 3
      · rfl
      · unfold wi at e1 e2
        simp only [decide_eq_true_eq] at e1 e2
        exact absurd ⟨e1.1, e1.2, e2.1, e2.2⟩ hv
  have HB := (show Hid _ from (Below.refl w.heap.size w).alloc (Nat.le_refl _) (.cells #[.int .i64 0, .int .u64 0, .int .i64 0] 37))
  have HR := (show Hid _ from va_new w [.int .i64 0, .int .u64 0, .int .i64 0] 37)
  clear hv
  go_enter Tryd.func16, Tryd.ntmps16
  go_wp2_with fail
  refine (is_ok _ _ _).mono ?_
  rintro e w1 ⟨rfl, hq⟩
  obtain rfl := hq.symm
  rw [hw]
  go_wp2_with (refine stA rfl 37 _ _ rfl w.heap.size (by rfl) [.int .i64 0, .int .u64 0, .int .i64 0] [.int .i64 0, .int .u64 0, .int .i64 0] (by rfl) 37 HR.out infoDe rfl zero3_one ?_; intro w3 v3 u3)
  have hld := run_loadVar_row (P := Tryd.prog) w3 w.heap.size 37 37 _ (0, 0) _ v3.blk Tryd.underlying37 rfl infoDe
  exact bodyPost_ret (v := .tuple #[.agg #[.int .i64 0, .int .u64 0, .int .i64 0], .int .i64 1]) (by simp [results, Tryd.results16, asAddr, hld]) rfl ⟨rfl, u3.bel HB.out (Nat.le_refl _)⟩
set_option maxHeartbeats 2000000 in
set_option maxRecDepth 100000 in
theorem docbal_nil (w : World) (c u : Int) (hv : Va c u) :
    Calls Tryd.prog 16 #[.pointer none, .int .i64 c, .int .i64 u] w fun e w' => e = .returned (.tuple #[.agg #[.int .i64 0, .int .u64 0, .int .i64 0], .int .i64 7]) ∧ Below w.heap.size w w' := by
  have hw : (wi c 1 8 && wi u 0 3) = true := by rw [wi_yes hv.1 hv.2.1, wi_yes hv.2.2.1 hv.2.2.2]; rfl
  have HB := (show Hid _ from (Below.refl w.heap.size w).alloc (Nat.le_refl _) (.cells #[.int .i64 0, .int .u64 0, .int .i64 0] 37))
  have HR := (show Hid _ from va_new w [.int .i64 0, .int .u64 0, .int .i64 0] 37)
  clear hv
  go_enter Tryd.func16, Tryd.ntmps16
  go_wp2_with fail
  refine (is_ok _ _ _).mono ?_
  rintro e w1 ⟨rfl, hq⟩
  obtain rfl := hq.symm
  rw [hw]
  go_wp2_with (refine stA rfl 37 _ _ rfl w.heap.size (by rfl) [.int .i64 0, .int .u64 0, .int .i64 0] [.int .i64 0, .int .u64 0, .int .i64 0] (by rfl) 37 HR.out infoDe rfl zero3_one ?_; intro w3 v3 u3)
  have hld := run_loadVar_row (P := Tryd.prog) w3 w.heap.size 37 37 _ (0, 0) _ v3.blk Tryd.underlying37 rfl infoDe
  exact bodyPost_ret (v := .tuple #[.agg #[.int .i64 0, .int .u64 0, .int .i64 0], .int .i64 7]) (by simp [results, Tryd.results16, asAddr, hld]) rfl ⟨rfl, u3.bel HB.out (Nat.le_refl _)⟩
/-- both say the same of every balance -/
theorem bal_both (p m d : Nat) (b : Int → Int → Int) (n : Int) (c u : Int) : ∃ x y z q : Int, (∀ w : World, Led w p m b n → Calls Tryd.prog 15 #[.pointer (some ⟨p, 0, none⟩), .int .i64 c, .int .i64 u] w fun e w' => e = .returned (.tuple #[.agg #[.int .i64 x, .int .u64 y, .int .i64 z], .int .i64 q]) ∧ Below w.heap.size w w') ∧
    (∀ w : World, DL w d b n → Calls Tryd.prog 16 #[.pointer (some ⟨d, 0, none⟩), .int .i64 c, .int .i64 u] w fun e w' => e = .returned (.tuple #[.agg #[.int .i64 x, .int .u64 y, .int .i64 z], .int .i64 q]) ∧ Below w.heap.size w w') := by
  by_cases hv : Va c u
  · refine ⟨dhi (b c u), dlo (b c u), 12, 0, fun w L => balance_ok p m b n w L c u hv, fun w D => ?_⟩
    have h1 := hv.1
    have h2 := hv.2.2.1
    have := docbal_ok d b n w D c.toNat u.toNat (by have := hv.2.1; omega) (by have := hv.2.1; omega) (by have := hv.2.2.2; omega)
    rw [Int.toNat_of_nonneg (by omega), Int.toNat_of_nonneg (by omega)] at this
    exact this
  · exact ⟨0, 0, 0, 1, fun w _ => balance_bad _ w c u hv, fun w _ => docbal_bad _ w c u hv⟩
theorem bal_none (c u : Int) : ∃ q : Int, (∀ w : World, Calls Tryd.prog 15 #[.pointer none, .int .i64 c, .int .i64 u] w fun e w' => e = .returned (.tuple #[.agg #[.int .i64 0, .int .u64 0, .int .i64 0], .int .i64 q]) ∧ Below w.heap.size w w') ∧
    (∀ w : World, Calls Tryd.prog 16 #[.pointer none, .int .i64 c, .int .i64 u] w fun e w' => e = .returned (.tuple #[.agg #[.int .i64 0, .int .u64 0, .int .i64 0], .int .i64 q]) ∧ Below w.heap.size w w') := by
  by_cases hv : Va c u
  · exact ⟨7, fun w => balance_nil w c u hv, fun w => docbal_nil w c u hv⟩
  · exact ⟨1, fun w => balance_bad _ w c u hv, fun w => docbal_bad _ w c u hv⟩
set_option maxHeartbeats 8000000 in
set_option maxRecDepth 100000 in
theorem balances_walk (v : Value) (es : List (List Ln)) (cd cu : Int) (w : World) (h : EIn w v es) (Lm : Lim w) :
    Calls Tryd.prog 4 #[v, .int .i64 cd, .int .i64 cu] w fun e w' => e = .returned (.bool true) ∧ Below w.heap.size w w' := by
  obtain ⟨N, hN⟩ : ∃ N, N = es.length := ⟨_, rfl⟩
  obtain ⟨ta, tc, rfl, g1, g2⟩ : ∃ a c, v = .slice a N c ∧ N ≤ c ∧ c ≤ 9223372036854775807 := by obtain ⟨a, c, e, h1, h2, _⟩ := h; exact ⟨a, c, by rw [hN]; exact e, by rw [hN]; exact h1, h2⟩
  have HE := (show Hid _ from h)
  have HNE := (show Hid _ from hN)
  have HLm := (show Hid _ from Lm)
  clear h hN Lm
  go_enter Tryd.func4, Tryd.ntmps4
  go_wp2_with fail
  refine (cawake_ok _ HLm.out).mono ?_
  rintro e w1 ⟨rfl, b1⟩
  have HB1 := (show Hid _ from b1)
  clear b1
  go_wp2_with fail
  refine (cnew_ok _).mono ?_
  rintro e w2 ⟨⟨p, m, rfl, hp, hm, L2⟩, b2⟩
  have HPM : Hid (w.heap.size ≤ p ∧ w.heap.size ≤ m) := ⟨Nat.le_trans HB1.out.size hp, Nat.le_trans HB1.out.size hm⟩
  have HLT : Hid (p < w2.heap.size ∧ m < w2.heap.size) := ⟨L2.va.lt, L2.map.lt⟩
  have HB2 := (show Hid _ from HB1.out.trans (b2.mono HB1.out.size))
  have BA := (Below.refl w2.heap.size w2).alloc (Nat.le_refl _) (.cells Tryd.zeroCells33 33)
  have v3 := va_new w2 (zint 36 ++ [.int .i64 0]) 33
  rw [show (zint 36 ++ [Value.int .i64 0]).toArray = Tryd.zeroCells33 by kernel_rfl] at v3
  have HD3 := (show Hid _ from dl_new v3)
  have HL3 := (show Hid _ from L2.step BA)
  have HB3 := (show Hid _ from HB2.out.trans (BA.mono HB2.out.size))
  clear hp hm L2 b2 HB1 BA v3
  go_upto_block 0 with fail
  have HNE2 : Hid (p ≠ w2.heap.size ∧ m ≠ w2.heap.size ∧ w.heap.size ≤ w2.heap.size) := ⟨by have := HLT.out; omega, by have := HLT.out; omega, HB2.out.size⟩
  clear HLT HB2
  generalize w2.heap.size = d at *
  generalize w2.alloc (.cells Tryd.zeroCells33 33) = w3 at *
  go_cut [] (fun wx => Hid (∃ b n, Led wx p m b n ∧ DL wx d b n ∧ (∀ u, 0 ≤ u → u ≤ 3 → tsum b u 32 = 0)) ∧ Hid (Below w.heap.size w wx))
  case first =>
    go_wp2_with fail
    go_loopw [31] (fun i wr => ∃ k : Nat, k ≤ N ∧ k ≤ 30 ∧ i = .int .i64 (k : Int) ∧ Hid (∃ b n, Led wr p m b n ∧ DL wr d b n ∧ (∀ u, 0 ≤ u → u ≤ 3 → tsum b u 32 = 0) ∧ 0 ≤ n ∧ n ≤ (k : Int)) ∧ Hid (Below w.heap.size w wr)) (fun i _ => N - (intOf i).toNat)
    case atStart => exact ⟨0, by omega, by omega, rfl, ⟨_, 0, HL3.out, HD3.out, fun u _ _ => tsum_zero u 32, by omega, by omega⟩, HB3.out⟩
    case round =>
      obtain ⟨k, hk, hk30, rfl, HI, HB⟩ := hrel
      by_cases hkn : k = N
      · subst hkn
        go_wp2_with fail
        go_meet
        obtain ⟨b, n, L, D, T, _⟩ := HI.out
        exact ⟨⟨b, n, L, D, T⟩, HB.out⟩
      have hk' : k < N := by omega
      obtain ⟨e, he⟩ : ∃ e, es[k]? = some e := ⟨es[k]'(by have := HNE.out; omega), by simp⟩
      obtain ⟨bb, off, u, ea, hu0, hl⟩ := HE.out.at k e he
      cases ea
      have hu := (HB.out.cell (p := ⟨bb, off + k, none⟩) (World.block_lt_of_cell? w _ hu0)).trans hu0
      clear hu0
      obtain ⟨ua, uc, rfl, u1, u2, _⟩ := hl.sl.form
      have d1 : (0 : Int) ≤ (k : Int) := by omega
      have d2 : (k : Int) < (N : Int) := by omega
      have HLI := (show Hid _ from hl)
      clear hl he
      by_cases h30 : (30 : Int) ≤ (k : Int)
      · go_wp2_with fail
        go_meet
        obtain ⟨b, n, L, D, T, _⟩ := HI.out
        exact ⟨⟨b, n, L, D, T⟩, HB.out⟩
      obtain ⟨b, n, L, D, T, n0, nk⟩ := HI.out
      have HL := (show Hid _ from L)
      have HD := (show Hid _ from D)
      have HT := (show Hid _ from T)
      have HN0 : Hid (0 ≤ n ∧ n ≤ (k : Int)) := ⟨n0, nk⟩
      clear L D T n0 nk HI
      have BA := (Below.refl wr.heap.size wr).alloc (Nat.le_refl _) (.cells #[] 39)
      have HBA := (show Hid _ from BA)
      have HLA := (show Hid _ from (HLI.out.step HB.out).step BA)
      have HOW := (show Hid _ from own_made LN wr)
      clear BA
      go_wp2_with (at_builtin; refine appSw (K := LN) (by rfl) _ _ rfl wr.heap.size [] e _ _ (by rfl) (by rfl) HOW.out HLA.out.sl HLA.out.no (by simp) (by have := HLI.out.sz; simp only [List.length_nil]; show (0 + e.length) * 40 ≤ _; omega) (by have := HLI.out.sz; simp only [List.length_nil]; omega) ?_; intro v4 w4 o4 b4 g4)
      have HBZ := (show Hid _ from HBA.out.trans b4)
      have HOZ := (show Hid _ from o4.sl)
      have HL4 := (show Hid _ from HL.out.step HBZ.out)
      have HD4 := (show Hid _ from HD.out.step HBZ.out)
      have HW4 := (show Hid _ from HB.out.trans (HBZ.out.mono HB.out.size))
      clear o4 b4 g4 HBA HLA HOW HL HD HBZ
      refine (post_ok p m b n _ e _ HL4.out (by have := HOZ.out; simpa using this) HLI.out.wf (HLm.out.step HW4.out) (by have := HN0.out; omega)).mono ?_
      rintro ee w7 ⟨rfl, l7, k7⟩
      have HL7 := (show Hid _ from l7)
      have HD7 := (show Hid _ from HD4.out.but k7 (fun e => by have := HNE2.out; omega) (HL4.out.keepU k7))
      have HW7 := (show Hid _ from HW4.out.trans (k7.below HW4.out.size (fun i hi => by have := HPM.out; omega)))
      clear l7 k7 HL4 HD4 HW4 HOZ
      go_wp2_with fail
      refine (dpost_ok d b n _ e _ HD7.out (HLI.out.step HW7.out) (by have := HN0.out; omega)).mono ?_
      rintro ee w8 ⟨rfl, d8, k8⟩
      have HL8 := (show Hid _ from HL7.out.but k8 (fun e => by have := HNE2.out; omega) (fun e => by have := HNE2.out; omega))
      have HD8 := (show Hid _ from d8)
      have HW8 := (show Hid _ from HW7.out.trans (k8.below HW7.out.size (fun i hi => by have := HNE2.out; omega)))
      clear d8 k8 HL7 HD7 HW7
      go_wp2_with fail
      refine ⟨⟨k + 1, by omega, by omega, by go_num, ⟨_, _, HL8.out, HD8.out, (fun u h0 h3 => by rw [pst_tsum b e h0 h3]; exact HT.out u h0 h3), ?_, ?_⟩, HW8.out⟩, by simp [intOf]; omega⟩
      · have := HN0.out; unfold pcnt; split <;> omega
      · have := HN0.out; unfold pcnt; split <;> omega
  obtain ⟨HI, HBwc⟩ := hcut
  obtain ⟨b, n, L, Dd, T⟩ := HI.out
  have HLwc := (show Hid _ from L)
  have HDwc := (show Hid _ from Dd)
  have HT := (show Hid _ from T)
  obtain ⟨x, y, z, q, hb1, hb2⟩ := bal_both p m d b n cd cu
  obtain ⟨qn, hn1, hn2⟩ := bal_none cd cu
  have HB1 := (show Hid _ from hb1)
  have HB2 := (show Hid _ from hb2)
  have HN1 := (show Hid _ from hn1)
  have HN2 := (show Hid _ from hn2)
  clear L Dd T HI hb1 hb2 hn1 hn2
  cases hw : wi cu 0 3
  · have h03 : cu < 0 ∨ 3 < cu := by unfold wi at hw; simp only [decide_eq_false_iff_not] at hw; omega
    have HTO := (show Hid _ from fun w => total_bad (some ⟨p, 0, none⟩) w cu hw)
    have HTN := (show Hid _ from fun w => total_bad none w cu hw)
    clear hw
    rcases h03 with h0 | h3
    · go_wp2_with fail
      refine (HB1.out _ HLwc.out).mono ?_
      rintro e k0 ⟨rfl, bk0⟩
      have BA := (Below.refl k0.heap.size k0).alloc (Nat.le_refl _) (.cells #[.int .i64 x, .int .u64 y, .int .i64 z] 37)
      have HLk0a := (show Hid _ from (HLwc.out.step bk0).step BA)
      have HDk0a := (show Hid _ from (HDwc.out.step bk0).step BA)
      have HBk0a := (show Hid _ from (HBwc.out.trans (bk0.mono HBwc.out.size)).trans (BA.mono (by have := HBwc.out.size; have := bk0.size; omega)))
      have VAk0 : Hid (VA (k0.alloc (.cells #[.int .i64 x, .int .u64 y, .int .i64 z] 37)) k0.heap.size [.int .i64 x, .int .u64 y, .int .i64 z] 37) := va_new k0 [.int .i64 x, .int .u64 y, .int .i64 z] 37
      clear BA bk0 HLwc HDwc HBwc 
      go_wp2_with fail
      generalize k0.heap.size = pA at *
      generalize k0.alloc (.cells #[.int .i64 x, .int .u64 y, .int .i64 z] 37) = k0a at *
      refine (HB2.out _ HDk0a.out).mono ?_
      rintro e k1 ⟨rfl, bk1⟩
      have BA := (Below.refl k1.heap.size k1).alloc (Nat.le_refl _) (.cells #[.int .i64 x, .int .u64 y, .int .i64 z] 37)
      have HLk1a := (show Hid _ from (HLk0a.out.step bk1).step BA)
      have HDk1a := (show Hid _ from (HDk0a.out.step bk1).step BA)
      have HBk1a := (show Hid _ from (HBk0a.out.trans (bk1.mono HBk0a.out.size)).trans (BA.mono (by have := HBk0a.out.size; have := bk1.size; omega)))
      have VAk1 := (show Hid _ from (VAk0.out.step bk1).step BA)
      have VBk1 : Hid (VA (k1.alloc (.cells #[.int .i64 x, .int .u64 y, .int .i64 z] 37)) k1.heap.size [.int .i64 x, .int .u64 y, .int .i64 z] 37) := va_new k1 [.int .i64 x, .int .u64 y, .int .i64 z] 37
      clear BA bk1 HLk0a HDk0a HBk0a VAk0
      go_wp2_with fail
      generalize k1.heap.size = pB at *
      generalize k1.alloc (.cells #[.int .i64 x, .int .u64 y, .int .i64 z] 37) = k1a at *
      refine (HN1.out _).mono ?_
      rintro e k2 ⟨rfl, bk2⟩
      have BA := (Below.refl k2.heap.size k2).alloc (Nat.le_refl _) (.cells #[.int .i64 0, .int .u64 0, .int .i64 0] 37)
      have HLk2a := (show Hid _ from (HLk1a.out.step bk2).step BA)
      have HDk2a := (show Hid _ from (HDk1a.out.step bk2).step BA)
      have HBk2a := (show Hid _ from (HBk1a.out.trans (bk2.mono HBk1a.out.size)).trans (BA.mono (by have := HBk1a.out.size; have := bk2.size; omega)))
      have VAk2 := (show Hid _ from (VAk1.out.step bk2).step BA)
      have VBk2 := (show Hid _ from (VBk1.out.step bk2).step BA)
      have VCk2 : Hid (VA (k2.alloc (.cells #[.int .i64 0, .int .u64 0, .int .i64 0] 37)) k2.heap.size [.int .i64 0, .int .u64 0, .int .i64 0] 37) := va_new k2 [.int .i64 0, .int .u64 0, .int .i64 0] 37
      clear BA bk2 HLk1a HDk1a HBk1a VAk1 VBk1
      go_wp2_with fail
      generalize k2.heap.size = pC at *
      generalize k2.alloc (.cells #[.int .i64 0, .int .u64 0, .int .i64 0] 37) = k2a at *
      refine (HN2.out _).mono ?_
      rintro e k3 ⟨rfl, bk3⟩
      have BA := (Below.refl k3.heap.size k3).alloc (Nat.le_refl _) (.cells #[.int .i64 0, .int .u64 0, .int .i64 0] 37)
      have HLk3a := (show Hid _ from (HLk2a.out.step bk3).step BA)
      have HDk3a := (show Hid _ from (HDk2a.out.step bk3).step BA)
      have HBk3a := (show Hid _ from (HBk2a.out.trans (bk3.mono HBk2a.out.size)).trans (BA.mono (by have := HBk2a.out.size; have := bk3.size; omega)))
      have VAk3 := (show Hid _ from (VAk2.out.step bk3).step BA)
      have VBk3 := (show Hid _ from (VBk2.out.step bk3).step BA)
      have VCk3 := (show Hid _ from (VCk2.out.step bk3).step BA)
      have VEk3 : Hid (VA (k3.alloc (.cells #[.int .i64 0, .int .u64 0, .int .i64 0] 37)) k3.heap.size [.int .i64 0, .int .u64 0, .int .i64 0] 37) := va_new k3 [.int .i64 0, .int .u64 0, .int .i64 0] 37
      clear BA bk3 HLk2a HDk2a HBk2a VAk2 VBk2 VCk2
      go_wp2_with fail
      generalize k3.heap.size = pE at *
      generalize k3.alloc (.cells #[.int .i64 0, .int .u64 0, .int .i64 0] 37) = k3a at *
      refine (HTO.out _).mono ?_
      rintro e k4 ⟨rfl, bk4⟩
      skip
      have BA := (Below.refl k4.heap.size k4).alloc (Nat.le_refl _) (.cells #[.int .i64 0, .int .u64 0, .int .i64 0] 37)
      have HLk4a := (show Hid _ from (HLk3a.out.step bk4).step BA)
      have HDk4a := (show Hid _ from (HDk3a.out.step bk4).step BA)
      have HBk4a := (show Hid _ from (HBk3a.out.trans (bk4.mono HBk3a.out.size)).trans (BA.mono (by have := HBk3a.out.size; have := bk4.size; omega)))
      have VAk4 := (show Hid _ from (VAk3.out.step bk4).step BA)
      have VBk4 := (show Hid _ from (VBk3.out.step bk4).step BA)
      have VCk4 := (show Hid _ from (VCk3.out.step bk4).step BA)
      have VEk4 := (show Hid _ from (VEk3.out.step bk4).step BA)
      have VFk4 : Hid (VA (k4.alloc (.cells #[.int .i64 0, .int .u64 0, .int .i64 0] 37)) k4.heap.size [.int .i64 0, .int .u64 0, .int .i64 0] 37) := va_new k4 [.int .i64 0, .int .u64 0, .int .i64 0] 37
      clear BA bk4 HLk3a HDk3a HBk3a VAk3 VBk3 VCk3 VEk3
      go_wp2_with fail
      generalize k4.heap.size = pF at *
      generalize k4.alloc (.cells #[.int .i64 0, .int .u64 0, .int .i64 0] 37) = k4a at *
      refine (HTN.out _).mono ?_
      rintro e k5 ⟨rfl, bk5⟩
      have BA := (Below.refl k5.heap.size k5).alloc (Nat.le_refl _) (.cells #[.int .i64 0, .int .u64 0, .int .i64 0] 37)
      have HLk5a := (show Hid _ from (HLk4a.out.step bk5).step BA)
      have HDk5a := (show Hid _ from (HDk4a.out.step bk5).step BA)
      have HBk5a := (show Hid _ from (HBk4a.out.trans (bk5.mono HBk4a.out.size)).trans (BA.mono (by have := HBk4a.out.size; have := bk5.size; omega)))
      have VAk5 := (show Hid _ from (VAk4.out.step bk5).step BA)
      have VBk5 := (show Hid _ from (VBk4.out.step bk5).step BA)
      have VCk5 := (show Hid _ from (VCk4.out.step bk5).step BA)
      have VEk5 := (show Hid _ from (VEk4.out.step bk5).step BA)
      have VFk5 := (show Hid _ from (VFk4.out.step bk5).step BA)
      have VGk5 : Hid (VA (k5.alloc (.cells #[.int .i64 0, .int .u64 0, .int .i64 0] 37)) k5.heap.size [.int .i64 0, .int .u64 0, .int .i64 0] 37) := va_new k5 [.int .i64 0, .int .u64 0, .int .i64 0] 37
      clear BA bk5 HLk4a HDk4a HBk4a VAk4 VBk4 VCk4 VEk4 VFk4
      have a0 := VAk5.out.cell 0 (v := .int .i64 x) rfl
      have a1 := VAk5.out.cell 1 (v := .int .u64 y) rfl
      have a2 := VAk5.out.cell 2 (v := .int .i64 z) rfl
      have b0 := VBk5.out.cell 0 (v := .int .i64 x) rfl
      have b1 := VBk5.out.cell 1 (v := .int .u64 y) rfl
      have b2 := VBk5.out.cell 2 (v := .int .i64 z) rfl
      have c0 := VCk5.out.cell 0 (v := .int .i64 0) rfl
      have c1 := VCk5.out.cell 1 (v := .int .u64 0) rfl
      have c2 := VCk5.out.cell 2 (v := .int .i64 0) rfl
      have e0 := VEk5.out.cell 0 (v := .int .i64 0) rfl
      have e1 := VEk5.out.cell 1 (v := .int .u64 0) rfl
      have e2 := VEk5.out.cell 2 (v := .int .i64 0) rfl
      have f0 := VFk5.out.cell 0 (v := .int .i64 0) rfl
      have f1 := VFk5.out.cell 1 (v := .int .u64 0) rfl
      have f2 := VFk5.out.cell 2 (v := .int .i64 0) rfl
      have g0 := VGk5.out.cell 0 (v := .int .i64 0) rfl
      have g1 := VGk5.out.cell 1 (v := .int .u64 0) rfl
      have g2 := VGk5.out.cell 2 (v := .int .i64 0) rfl
      clear VAk5 VBk5 VCk5 VEk5 VFk5 VGk5
      go_wp2_with fail
      refine (trial_nil _).mono ?_
      rintro ee k6 ⟨rfl, hq6⟩
      obtain rfl := hq6.symm
      go_wp2_with fail
      refine (entries_nil _).mono ?_
      rintro ee k6 ⟨rfl, hq6⟩
      obtain rfl := hq6.symm
      go_wp2_with fail
      go_ret
      exact ⟨by simp, HBk5a.out⟩
    · have h0 : ¬ cu < 0 := by omega
      go_wp2_with fail
      refine (HB1.out _ HLwc.out).mono ?_
      rintro e k0 ⟨rfl, bk0⟩
      have BA := (Below.refl k0.heap.size k0).alloc (Nat.le_refl _) (.cells #[.int .i64 x, .int .u64 y, .int .i64 z] 37)
      have HLk0a := (show Hid _ from (HLwc.out.step bk0).step BA)
      have HDk0a := (show Hid _ from (HDwc.out.step bk0).step BA)
      have HBk0a := (show Hid _ from (HBwc.out.trans (bk0.mono HBwc.out.size)).trans (BA.mono (by have := HBwc.out.size; have := bk0.size; omega)))
      have VAk0 : Hid (VA (k0.alloc (.cells #[.int .i64 x, .int .u64 y, .int .i64 z] 37)) k0.heap.size [.int .i64 x, .int .u64 y, .int .i64 z] 37) := va_new k0 [.int .i64 x, .int .u64 y, .int .i64 z] 37
      clear BA bk0 HLwc HDwc HBwc 
      go_wp2_with fail
      generalize k0.heap.size = pA at *
      generalize k0.alloc (.cells #[.int .i64 x, .int .u64 y, .int .i64 z] 37) = k0a at *
      refine (HB2.out _ HDk0a.out).mono ?_
      rintro e k1 ⟨rfl, bk1⟩
      have BA := (Below.refl k1.heap.size k1).alloc (Nat.le_refl _) (.cells #[.int .i64 x, .int .u64 y, .int .i64 z] 37)
      have HLk1a := (show Hid _ from (HLk0a.out.step bk1).step BA)
      have HDk1a := (show Hid _ from (HDk0a.out.step bk1).step BA)
      have HBk1a := (show Hid _ from (HBk0a.out.trans (bk1.mono HBk0a.out.size)).trans (BA.mono (by have := HBk0a.out.size; have := bk1.size; omega)))
      have VAk1 := (show Hid _ from (VAk0.out.step bk1).step BA)
      have VBk1 : Hid (VA (k1.alloc (.cells #[.int .i64 x, .int .u64 y, .int .i64 z] 37)) k1.heap.size [.int .i64 x, .int .u64 y, .int .i64 z] 37) := va_new k1 [.int .i64 x, .int .u64 y, .int .i64 z] 37
      clear BA bk1 HLk0a HDk0a HBk0a VAk0
      go_wp2_with fail
      generalize k1.heap.size = pB at *
      generalize k1.alloc (.cells #[.int .i64 x, .int .u64 y, .int .i64 z] 37) = k1a at *
      refine (HN1.out _).mono ?_
      rintro e k2 ⟨rfl, bk2⟩
      have BA := (Below.refl k2.heap.size k2).alloc (Nat.le_refl _) (.cells #[.int .i64 0, .int .u64 0, .int .i64 0] 37)
      have HLk2a := (show Hid _ from (HLk1a.out.step bk2).step BA)
      have HDk2a := (show Hid _ from (HDk1a.out.step bk2).step BA)
      have HBk2a := (show Hid _ from (HBk1a.out.trans (bk2.mono HBk1a.out.size)).trans (BA.mono (by have := HBk1a.out.size; have := bk2.size; omega)))
      have VAk2 := (show Hid _ from (VAk1.out.step bk2).step BA)
      have VBk2 := (show Hid _ from (VBk1.out.step bk2).step BA)
      have VCk2 : Hid (VA (k2.alloc (.cells #[.int .i64 0, .int .u64 0, .int .i64 0] 37)) k2.heap.size [.int .i64 0, .int .u64 0, .int .i64 0] 37) := va_new k2 [.int .i64 0, .int .u64 0, .int .i64 0] 37
      clear BA bk2 HLk1a HDk1a HBk1a VAk1 VBk1
      go_wp2_with fail
      generalize k2.heap.size = pC at *
      generalize k2.alloc (.cells #[.int .i64 0, .int .u64 0, .int .i64 0] 37) = k2a at *
      refine (HN2.out _).mono ?_
      rintro e k3 ⟨rfl, bk3⟩
      have BA := (Below.refl k3.heap.size k3).alloc (Nat.le_refl _) (.cells #[.int .i64 0, .int .u64 0, .int .i64 0] 37)
      have HLk3a := (show Hid _ from (HLk2a.out.step bk3).step BA)
      have HDk3a := (show Hid _ from (HDk2a.out.step bk3).step BA)
      have HBk3a := (show Hid _ from (HBk2a.out.trans (bk3.mono HBk2a.out.size)).trans (BA.mono (by have := HBk2a.out.size; have := bk3.size; omega)))
      have VAk3 := (show Hid _ from (VAk2.out.step bk3).step BA)
      have VBk3 := (show Hid _ from (VBk2.out.step bk3).step BA)
      have VCk3 := (show Hid _ from (VCk2.out.step bk3).step BA)
      have VEk3 : Hid (VA (k3.alloc (.cells #[.int .i64 0, .int .u64 0, .int .i64 0] 37)) k3.heap.size [.int .i64 0, .int .u64 0, .int .i64 0] 37) := va_new k3 [.int .i64 0, .int .u64 0, .int .i64 0] 37
      clear BA bk3 HLk2a HDk2a HBk2a VAk2 VBk2 VCk2
      go_wp2_with fail
      generalize k3.heap.size = pE at *
      generalize k3.alloc (.cells #[.int .i64 0, .int .u64 0, .int .i64 0] 37) = k3a at *
      refine (HTO.out _).mono ?_
      rintro e k4 ⟨rfl, bk4⟩
      skip
      have BA := (Below.refl k4.heap.size k4).alloc (Nat.le_refl _) (.cells #[.int .i64 0, .int .u64 0, .int .i64 0] 37)
      have HLk4a := (show Hid _ from (HLk3a.out.step bk4).step BA)
      have HDk4a := (show Hid _ from (HDk3a.out.step bk4).step BA)
      have HBk4a := (show Hid _ from (HBk3a.out.trans (bk4.mono HBk3a.out.size)).trans (BA.mono (by have := HBk3a.out.size; have := bk4.size; omega)))
      have VAk4 := (show Hid _ from (VAk3.out.step bk4).step BA)
      have VBk4 := (show Hid _ from (VBk3.out.step bk4).step BA)
      have VCk4 := (show Hid _ from (VCk3.out.step bk4).step BA)
      have VEk4 := (show Hid _ from (VEk3.out.step bk4).step BA)
      have VFk4 : Hid (VA (k4.alloc (.cells #[.int .i64 0, .int .u64 0, .int .i64 0] 37)) k4.heap.size [.int .i64 0, .int .u64 0, .int .i64 0] 37) := va_new k4 [.int .i64 0, .int .u64 0, .int .i64 0] 37
      clear BA bk4 HLk3a HDk3a HBk3a VAk3 VBk3 VCk3 VEk3
      go_wp2_with fail
      generalize k4.heap.size = pF at *
      generalize k4.alloc (.cells #[.int .i64 0, .int .u64 0, .int .i64 0] 37) = k4a at *
      refine (HTN.out _).mono ?_
      rintro e k5 ⟨rfl, bk5⟩
      have BA := (Below.refl k5.heap.size k5).alloc (Nat.le_refl _) (.cells #[.int .i64 0, .int .u64 0, .int .i64 0] 37)
      have HLk5a := (show Hid _ from (HLk4a.out.step bk5).step BA)
      have HDk5a := (show Hid _ from (HDk4a.out.step bk5).step BA)
      have HBk5a := (show Hid _ from (HBk4a.out.trans (bk5.mono HBk4a.out.size)).trans (BA.mono (by have := HBk4a.out.size; have := bk5.size; omega)))
      have VAk5 := (show Hid _ from (VAk4.out.step bk5).step BA)
      have VBk5 := (show Hid _ from (VBk4.out.step bk5).step BA)
      have VCk5 := (show Hid _ from (VCk4.out.step bk5).step BA)
      have VEk5 := (show Hid _ from (VEk4.out.step bk5).step BA)
      have VFk5 := (show Hid _ from (VFk4.out.step bk5).step BA)
      have VGk5 : Hid (VA (k5.alloc (.cells #[.int .i64 0, .int .u64 0, .int .i64 0] 37)) k5.heap.size [.int .i64 0, .int .u64 0, .int .i64 0] 37) := va_new k5 [.int .i64 0, .int .u64 0, .int .i64 0] 37
      clear BA bk5 HLk4a HDk4a HBk4a VAk4 VBk4 VCk4 VEk4 VFk4
      have a0 := VAk5.out.cell 0 (v := .int .i64 x) rfl
      have a1 := VAk5.out.cell 1 (v := .int .u64 y) rfl
      have a2 := VAk5.out.cell 2 (v := .int .i64 z) rfl
      have b0 := VBk5.out.cell 0 (v := .int .i64 x) rfl
      have b1 := VBk5.out.cell 1 (v := .int .u64 y) rfl
      have b2 := VBk5.out.cell 2 (v := .int .i64 z) rfl
      have c0 := VCk5.out.cell 0 (v := .int .i64 0) rfl
      have c1 := VCk5.out.cell 1 (v := .int .u64 0) rfl
      have c2 := VCk5.out.cell 2 (v := .int .i64 0) rfl
      have e0 := VEk5.out.cell 0 (v := .int .i64 0) rfl
      have e1 := VEk5.out.cell 1 (v := .int .u64 0) rfl
      have e2 := VEk5.out.cell 2 (v := .int .i64 0) rfl
      have f0 := VFk5.out.cell 0 (v := .int .i64 0) rfl
      have f1 := VFk5.out.cell 1 (v := .int .u64 0) rfl
      have f2 := VFk5.out.cell 2 (v := .int .i64 0) rfl
      have g0 := VGk5.out.cell 0 (v := .int .i64 0) rfl
      have g1 := VGk5.out.cell 1 (v := .int .u64 0) rfl
      have g2 := VGk5.out.cell 2 (v := .int .i64 0) rfl
      clear VAk5 VBk5 VCk5 VEk5 VFk5 VGk5
      go_wp2_with fail
      refine (trial_nil _).mono ?_
      rintro ee k6 ⟨rfl, hq6⟩
      obtain rfl := hq6.symm
      go_wp2_with fail
      refine (entries_nil _).mono ?_
      rintro ee k6 ⟨rfl, hq6⟩
      obtain rfl := hq6.symm
      go_wp2_with fail
      go_ret
      exact ⟨by simp, HBk5a.out⟩
  · have h0 : ¬ cu < 0 := by unfold wi at hw; simp only [decide_eq_true_eq] at hw; omega
    have h3 : ¬ 3 < cu := by unfold wi at hw; simp only [decide_eq_true_eq] at hw; omega
    have HTK : Hid (tsum b cu 32 = 0) := HT.out cu (by omega) (by omega)
    have HTO := (show Hid _ from fun w L => total_ok p m b n w L cu hw)
    have HTN := (show Hid _ from fun w => total_nil w cu hw)
    clear hw
    go_wp2_with fail
    refine (HB1.out _ HLwc.out).mono ?_
    rintro e k0 ⟨rfl, bk0⟩
    have BA := (Below.refl k0.heap.size k0).alloc (Nat.le_refl _) (.cells #[.int .i64 x, .int .u64 y, .int .i64 z] 37)
    have HLk0a := (show Hid _ from (HLwc.out.step bk0).step BA)
    have HDk0a := (show Hid _ from (HDwc.out.step bk0).step BA)
    have HBk0a := (show Hid _ from (HBwc.out.trans (bk0.mono HBwc.out.size)).trans (BA.mono (by have := HBwc.out.size; have := bk0.size; omega)))
    have VAk0 : Hid (VA (k0.alloc (.cells #[.int .i64 x, .int .u64 y, .int .i64 z] 37)) k0.heap.size [.int .i64 x, .int .u64 y, .int .i64 z] 37) := va_new k0 [.int .i64 x, .int .u64 y, .int .i64 z] 37
    clear BA bk0 HLwc HDwc HBwc 
    go_wp2_with fail
    generalize k0.heap.size = pA at *
    generalize k0.alloc (.cells #[.int .i64 x, .int .u64 y, .int .i64 z] 37) = k0a at *
    refine (HB2.out _ HDk0a.out).mono ?_
    rintro e k1 ⟨rfl, bk1⟩
    have BA := (Below.refl k1.heap.size k1).alloc (Nat.le_refl _) (.cells #[.int .i64 x, .int .u64 y, .int .i64 z] 37)
    have HLk1a := (show Hid _ from (HLk0a.out.step bk1).step BA)
    have HDk1a := (show Hid _ from (HDk0a.out.step bk1).step BA)
    have HBk1a := (show Hid _ from (HBk0a.out.trans (bk1.mono HBk0a.out.size)).trans (BA.mono (by have := HBk0a.out.size; have := bk1.size; omega)))
    have VAk1 := (show Hid _ from (VAk0.out.step bk1).step BA)
    have VBk1 : Hid (VA (k1.alloc (.cells #[.int .i64 x, .int .u64 y, .int .i64 z] 37)) k1.heap.size [.int .i64 x, .int .u64 y, .int .i64 z] 37) := va_new k1 [.int .i64 x, .int .u64 y, .int .i64 z] 37
    clear BA bk1 HLk0a HDk0a HBk0a VAk0
    go_wp2_with fail
    generalize k1.heap.size = pB at *
    generalize k1.alloc (.cells #[.int .i64 x, .int .u64 y, .int .i64 z] 37) = k1a at *
    refine (HN1.out _).mono ?_
    rintro e k2 ⟨rfl, bk2⟩
    have BA := (Below.refl k2.heap.size k2).alloc (Nat.le_refl _) (.cells #[.int .i64 0, .int .u64 0, .int .i64 0] 37)
    have HLk2a := (show Hid _ from (HLk1a.out.step bk2).step BA)
    have HDk2a := (show Hid _ from (HDk1a.out.step bk2).step BA)
    have HBk2a := (show Hid _ from (HBk1a.out.trans (bk2.mono HBk1a.out.size)).trans (BA.mono (by have := HBk1a.out.size; have := bk2.size; omega)))
    have VAk2 := (show Hid _ from (VAk1.out.step bk2).step BA)
    have VBk2 := (show Hid _ from (VBk1.out.step bk2).step BA)
    have VCk2 : Hid (VA (k2.alloc (.cells #[.int .i64 0, .int .u64 0, .int .i64 0] 37)) k2.heap.size [.int .i64 0, .int .u64 0, .int .i64 0] 37) := va_new k2 [.int .i64 0, .int .u64 0, .int .i64 0] 37
    clear BA bk2 HLk1a HDk1a HBk1a VAk1 VBk1
    go_wp2_with fail
    generalize k2.heap.size = pC at *
    generalize k2.alloc (.cells #[.int .i64 0, .int .u64 0, .int .i64 0] 37) = k2a at *
    refine (HN2.out _).mono ?_
    rintro e k3 ⟨rfl, bk3⟩
    have BA := (Below.refl k3.heap.size k3).alloc (Nat.le_refl _) (.cells #[.int .i64 0, .int .u64 0, .int .i64 0] 37)
    have HLk3a := (show Hid _ from (HLk2a.out.step bk3).step BA)
    have HDk3a := (show Hid _ from (HDk2a.out.step bk3).step BA)
    have HBk3a := (show Hid _ from (HBk2a.out.trans (bk3.mono HBk2a.out.size)).trans (BA.mono (by have := HBk2a.out.size; have := bk3.size; omega)))
    have VAk3 := (show Hid _ from (VAk2.out.step bk3).step BA)
    have VBk3 := (show Hid _ from (VBk2.out.step bk3).step BA)
    have VCk3 := (show Hid _ from (VCk2.out.step bk3).step BA)
    have VEk3 : Hid (VA (k3.alloc (.cells #[.int .i64 0, .int .u64 0, .int .i64 0] 37)) k3.heap.size [.int .i64 0, .int .u64 0, .int .i64 0] 37) := va_new k3 [.int .i64 0, .int .u64 0, .int .i64 0] 37
    clear BA bk3 HLk2a HDk2a HBk2a VAk2 VBk2 VCk2
    go_wp2_with fail
    generalize k3.heap.size = pE at *
    generalize k3.alloc (.cells #[.int .i64 0, .int .u64 0, .int .i64 0] 37) = k3a at *
    refine (HTO.out _ HLk3a.out).mono ?_
    rintro e k4 ⟨rfl, bk4⟩
    rw [HTK.out, show dv 0 12 = .agg #[.int .i64 0, .int .u64 0, .int .i64 12] by unfold dv; rw [dhi0, dlo0]]
    have BA := (Below.refl k4.heap.size k4).alloc (Nat.le_refl _) (.cells #[.int .i64 0, .int .u64 0, .int .i64 12] 37)
    have HLk4a := (show Hid _ from (HLk3a.out.step bk4).step BA)
    have HDk4a := (show Hid _ from (HDk3a.out.step bk4).step BA)
    have HBk4a := (show Hid _ from (HBk3a.out.trans (bk4.mono HBk3a.out.size)).trans (BA.mono (by have := HBk3a.out.size; have := bk4.size; omega)))
    have VAk4 := (show Hid _ from (VAk3.out.step bk4).step BA)
    have VBk4 := (show Hid _ from (VBk3.out.step bk4).step BA)
    have VCk4 := (show Hid _ from (VCk3.out.step bk4).step BA)
    have VEk4 := (show Hid _ from (VEk3.out.step bk4).step BA)
    have VFk4 : Hid (VA (k4.alloc (.cells #[.int .i64 0, .int .u64 0, .int .i64 12] 37)) k4.heap.size [.int .i64 0, .int .u64 0, .int .i64 12] 37) := va_new k4 [.int .i64 0, .int .u64 0, .int .i64 12] 37
    clear BA bk4 HLk3a HDk3a HBk3a VAk3 VBk3 VCk3 VEk3
    go_wp2_with fail
    generalize k4.heap.size = pF at *
    generalize k4.alloc (.cells #[.int .i64 0, .int .u64 0, .int .i64 12] 37) = k4a at *
    refine (HTN.out _).mono ?_
    rintro e k5 ⟨rfl, bk5⟩
    have BA := (Below.refl k5.heap.size k5).alloc (Nat.le_refl _) (.cells #[.int .i64 0, .int .u64 0, .int .i64 0] 37)
    have HLk5a := (show Hid _ from (HLk4a.out.step bk5).step BA)
    have HDk5a := (show Hid _ from (HDk4a.out.step bk5).step BA)
    have HBk5a := (show Hid _ from (HBk4a.out.trans (bk5.mono HBk4a.out.size)).trans (BA.mono (by have := HBk4a.out.size; have := bk5.size; omega)))
    have VAk5 := (show Hid _ from (VAk4.out.step bk5).step BA)
    have VBk5 := (show Hid _ from (VBk4.out.step bk5).step BA)
    have VCk5 := (show Hid _ from (VCk4.out.step bk5).step BA)
    have VEk5 := (show Hid _ from (VEk4.out.step bk5).step BA)
    have VFk5 := (show Hid _ from (VFk4.out.step bk5).step BA)
    have VGk5 : Hid (VA (k5.alloc (.cells #[.int .i64 0, .int .u64 0, .int .i64 0] 37)) k5.heap.size [.int .i64 0, .int .u64 0, .int .i64 0] 37) := va_new k5 [.int .i64 0, .int .u64 0, .int .i64 0] 37
    clear BA bk5 HLk4a HDk4a HBk4a VAk4 VBk4 VCk4 VEk4 VFk4
    have a0 := VAk5.out.cell 0 (v := .int .i64 x) rfl
    have a1 := VAk5.out.cell 1 (v := .int .u64 y) rfl
    have a2 := VAk5.out.cell 2 (v := .int .i64 z) rfl
    have b0 := VBk5.out.cell 0 (v := .int .i64 x) rfl
    have b1 := VBk5.out.cell 1 (v := .int .u64 y) rfl
    have b2 := VBk5.out.cell 2 (v := .int .i64 z) rfl
    have c0 := VCk5.out.cell 0 (v := .int .i64 0) rfl
    have c1 := VCk5.out.cell 1 (v := .int .u64 0) rfl
    have c2 := VCk5.out.cell 2 (v := .int .i64 0) rfl
    have e0 := VEk5.out.cell 0 (v := .int .i64 0) rfl
    have e1 := VEk5.out.cell 1 (v := .int .u64 0) rfl
    have e2 := VEk5.out.cell 2 (v := .int .i64 0) rfl
    have f0 := VFk5.out.cell 0 (v := .int .i64 0) rfl
    have f1 := VFk5.out.cell 1 (v := .int .u64 0) rfl
    have f2 := VFk5.out.cell 2 (v := .int .i64 12) rfl
    have g0 := VGk5.out.cell 0 (v := .int .i64 0) rfl
    have g1 := VGk5.out.cell 1 (v := .int .u64 0) rfl
    have g2 := VGk5.out.cell 2 (v := .int .i64 0) rfl
    clear VAk5 VBk5 VCk5 VEk5 VFk5 VGk5
    go_wp2_with fail
    refine (trial_nil _).mono ?_
    rintro ee k6 ⟨rfl, hq6⟩
    obtain rfl := hq6.symm
    go_wp2_with fail
    refine (entries_nil _).mono ?_
    rintro ee k6 ⟨rfl, hq6⟩
    obtain rfl := hq6.symm
    go_wp2_with fail
    go_ret
    exact ⟨by simp, HBk5a.out⟩
end Go.Proofs.YtlgcbbnnldlooaaDoor
