/- ChartOrder: the law's walk. -/
import Derived.Test.YtlgcbbnnldlooaaDoorCtr
namespace Go.Proofs.YtlgcbbnnldlooaaDoor
open Go.RowKit Go.Maps
set_option linter.unusedVariables false

theorem umod (x m : Int) (h0 : 0 < m) (h1 : m ≤ 9000000000000000000) : ∃ k : Nat, IntKind.i64.wrap ((IntKind.u64.wrap x).tmod m) = (k : Int) ∧ (k : Int) < m := by
  have hu : 0 ≤ IntKind.u64.wrap x ∧ IntKind.u64.wrap x < 18446744073709551616 := by rw [IntKind.wrap_u64]; omega
  have h2 := Int.tmod_nonneg m hu.1
  have h3 := Int.tmod_lt_of_pos (IntKind.u64.wrap x) h0
  have e : IntKind.i64.wrap ((IntKind.u64.wrap x).tmod m) = (IntKind.u64.wrap x).tmod m := by
    generalize (IntKind.u64.wrap x).tmod m = z at *
    rw [IntKind.wrap_i64]
    omega
  exact ⟨((IntKind.u64.wrap x).tmod m).toNat, by rw [e, Int.toNat_of_nonneg h2], by rw [Int.toNat_of_nonneg h2]; exact h3⟩
theorem Sl.but {α : Type} {K : Kd α} {X : Nat → Prop} {w w' : World} {a : Option Addr} {n c : Nat} {xs : List α} (h : Sl K w (.slice a n c) xs) (k : But X w w') (hx : ∀ ad, a = some ad → ¬ X ad.block) : Sl K w' (.slice a n c) xs := by
  obtain ⟨a', c', e, h1, h2, h3⟩ := h
  cases e
  refine ⟨a, c, rfl, h1, h2, fun h0 => ?_⟩
  obtain ⟨b, off, ea, hb, hc⟩ := h3 h0
  exact ⟨b, off, ea, Nat.lt_of_lt_of_le hb k.size, fun i x hi j u hj => (World.cell?_of_block (w := w) (w' := w') (a := ⟨b, off + i * K.k + j, none⟩) (k.block b hb (hx _ ea))).trans (hc i x hi j u hj)⟩
theorem neg_ln (x : Ln) (hx : x.wf) (ho : x.ok = true) (w : World) : Calls Tryd.prog 21 #[.agg #[.int .i64 x.h, .int .u64 x.l, .int .i64 x.s]] w fun e w' => e = .returned (.tuple #[.agg #[.int .i64 (dhi (-x.cf)), .int .u64 (dlo (-x.cf)), .int .i64 x.s], .int .i64 0]) ∧ Below w.heap.size w w' := by
  obtain ⟨c, n, h1, h2, h3, hn, ic, ec, _⟩ := good_form hx ho
  rw [h1, h2, h3, ec]
  exact neg_ok c _ _ n w (IsD.self _) ic (by omega)
set_option maxHeartbeats 8000000 in
set_option maxRecDepth 100000 in
theorem order_walk (v vl : Value) (es : List (List Ln)) (en : List Ln) (i j : Int) (w : World) (h : EIn w v es) (k : LIn w vl en) (Lm : Lim w) :
    Calls Tryd.prog 7 #[v, vl, .int .i64 i, .int .i64 j] w fun e w' => e = .returned (.bool true) ∧ Below w.heap.size w w' := by
  obtain ⟨N, hN⟩ : ∃ N, N = es.length := ⟨_, rfl⟩
  obtain ⟨ta, tc, rfl, g1, g2⟩ : ∃ a c, v = .slice a N c ∧ N ≤ c ∧ c ≤ 9223372036854775807 := by obtain ⟨a, c, e, h1, h2, _⟩ := h; exact ⟨a, c, by rw [hN]; exact e, by rw [hN]; exact h1, h2⟩
  obtain ⟨n, hn⟩ : ∃ n, n = en.length := ⟨_, rfl⟩
  obtain ⟨na, nc, rfl, g3, g4⟩ : ∃ a c, vl = .slice a n c ∧ n ≤ c ∧ c ≤ 9223372036854775807 := by obtain ⟨a, c, e, h1, h2, _⟩ := k.sl; exact ⟨a, c, by rw [hn]; exact e, by rw [hn]; exact h1, h2⟩
  have HE := (show Hid _ from h)
  have HK := (show Hid _ from k)
  have HNE' := (show Hid _ from hN)
  have HNN := (show Hid _ from hn)
  have HLm := (show Hid _ from Lm)
  clear h k hN hn Lm
  go_enter Tryd.func7, Tryd.ntmps7
  go_wp2_with fail
  refine (cawake_ok _ HLm.out).mono ?_
  rintro e w1 ⟨rfl, b1⟩
  have HB1 := (show Hid _ from b1)
  clear b1
  go_wp2_with fail
  refine (cnew_ok _).mono ?_
  rintro e w2 ⟨⟨p, m, rfl, hp, hm, L2⟩, b2⟩
  have HPM0 : Hid (w.heap.size ≤ p ∧ w.heap.size ≤ m) := ⟨Nat.le_trans HB1.out.size hp, Nat.le_trans HB1.out.size hm⟩
  have HL2 := (show Hid _ from L2)
  have HB2 := (show Hid _ from HB1.out.trans (b2.mono HB1.out.size))
  clear hp hm L2 b2 HB1
  go_wp2_with fail
  refine (cnew_ok _).mono ?_
  rintro e w3 ⟨⟨p', m', rfl, hp, hm, L3⟩, b3⟩
  have HPM : Hid (w.heap.size ≤ p ∧ w.heap.size ≤ m ∧ w.heap.size ≤ p' ∧ w.heap.size ≤ m') := ⟨HPM0.out.1, HPM0.out.2, Nat.le_trans HB2.out.size hp, Nat.le_trans HB2.out.size hm⟩
  have HNE : Hid (p ≠ p' ∧ p ≠ m' ∧ m ≠ p' ∧ m ≠ m') := by
    have l1 := HL2.out.va.lt
    have l2 := HL2.out.map.lt
    exact ⟨by omega, by omega, by omega, by omega⟩
  have HL := (show Hid _ from HL2.out.step b3)
  have HM := (show Hid _ from L3)
  have HB3 := (show Hid _ from HB2.out.trans (b3.mono HB2.out.size))
  clear hp hm L3 b3 HB2 HL2 HPM0
  go_upto_block 0 with fail
  go_cut [] (fun wx => Hid (∃ b n, Led wx p m b n ∧ Led wx p' m' b n ∧ 0 ≤ n ∧ n ≤ 20) ∧ Hid (Below w.heap.size w wx))
  case first =>
    go_wp2_with fail
    go_loopw [27] (fun i wr => ∃ k : Nat, k ≤ N ∧ k ≤ 20 ∧ i = .int .i64 (k : Int) ∧ Hid (∃ b n, Led wr p m b n ∧ Led wr p' m' b n ∧ 0 ≤ n ∧ n ≤ (k : Int)) ∧ Hid (Below w.heap.size w wr)) (fun i _ => N - (intOf i).toNat)
    case atStart => exact ⟨0, by omega, by omega, rfl, ⟨_, 0, HL.out, HM.out, by omega, by omega⟩, HB3.out⟩
    case round =>
      obtain ⟨k, hk, hk20, rfl, HI, HBwr⟩ := hrel
      by_cases hkn : k = N
      · subst hkn
        go_wp2_with fail
        go_meet
        obtain ⟨b, n, L, L', n0, n1⟩ := HI.out
        exact ⟨⟨b, n, L, L', n0, by omega⟩, HBwr.out⟩
      have hk' : k < N := by omega
      obtain ⟨e, he⟩ : ∃ e, es[k]? = some e := ⟨es[k]'(by have := HNE'.out; omega), by simp⟩
      obtain ⟨bb, off, u, ea, hu0, hl⟩ := HE.out.at k e he
      cases ea
      have hu := (HBwr.out.cell (p := ⟨bb, off + k, none⟩) (World.block_lt_of_cell? w _ hu0)).trans hu0
      clear hu0
      obtain ⟨ua, uc, rfl, u1, u2, _⟩ := hl.sl.form
      have d1 : (0 : Int) ≤ (k : Int) := by omega
      have d2 : (k : Int) < (N : Int) := by omega
      have HLI := (show Hid _ from hl)
      clear hl he
      by_cases h20 : (20 : Int) ≤ (k : Int)
      · go_wp2_with fail
        go_meet
        obtain ⟨b, n, L, L', n0, n1⟩ := HI.out
        exact ⟨⟨b, n, L, L', n0, by omega⟩, HBwr.out⟩
      obtain ⟨b, n, L, L', n0, nk⟩ := HI.out
      have HLx := (show Hid _ from L)
      have HMx := (show Hid _ from L')
      have HN0 : Hid (0 ≤ n ∧ n ≤ (k : Int)) := ⟨n0, nk⟩
      clear L L' n0 nk HI
      have BA := (Below.refl wr.heap.size wr).alloc (Nat.le_refl _) (.cells #[] 39)
      have HBA := (show Hid _ from BA)
      have HOW := (show Hid _ from own_made LN wr)
      have HLA := (show Hid _ from (HLI.out.step HBwr.out).step BA)
      clear BA
      go_wp2_with (at_builtin; refine appSw (K := LN) (by rfl) _ _ rfl wr.heap.size [] e _ _ (by rfl) (by rfl) HOW.out HLA.out.sl HLA.out.no (by simp) (by have := HLI.out.sz; simp only [List.length_nil]; show (0 + e.length) * 40 ≤ _; omega) (by have := HLI.out.sz; simp only [List.length_nil]; omega) ?_; intro v4 w4 o4 b4 g4)
      have HBZ := (show Hid _ from HBA.out.trans b4)
      have HOZ := (show Hid _ from o4.sl)
      clear o4 b4 g4 HBA HLA HOW
      refine (post_ok p m b n _ e _ (HLx.out.step HBZ.out) (by have := HOZ.out; simpa using this) (HLI.out.wf) ((HLm.out.step HBwr.out).step HBZ.out) (by have := HN0.out; omega)).mono ?_
      rintro e w4p ⟨rfl, l4p, u4p⟩
      have N4p := (show Hid _ from l4p)
      have O4p := (show Hid _ from (HMx.out.step HBZ.out).but u4p (fun e => by have := HNE.out; omega) (fun e => by have := HNE.out; omega))
      have HBw4p := (show Hid _ from (HBwr.out.trans (HBZ.out.mono HBwr.out.size)).trans (u4p.below (by have := HBwr.out.size; have := HBZ.out.size; omega) (fun i hi => by have := HPM.out; omega)))
      clear l4p u4p HBZ HOZ
      have BA := (Below.refl w4p.heap.size w4p).alloc (Nat.le_refl _) (.cells #[] 39)
      have HBA := (show Hid _ from BA)
      have HOW := (show Hid _ from own_made LN w4p)
      have HLA := (show Hid _ from (HLI.out.step HBw4p.out).step BA)
      clear BA
      go_wp2_with (at_builtin; refine appSw (K := LN) (by rfl) _ _ rfl w4p.heap.size [] e _ _ (by rfl) (by rfl) HOW.out HLA.out.sl HLA.out.no (by simp) (by have := HLI.out.sz; simp only [List.length_nil]; show (0 + e.length) * 40 ≤ _; omega) (by have := HLI.out.sz; simp only [List.length_nil]; omega) ?_; intro v5 w5 o5 b5 g5)
      have HBZ := (show Hid _ from HBA.out.trans b5)
      have HOZ := (show Hid _ from o5.sl)
      clear o5 b5 g5 HBA HLA HOW
      refine (post_ok p' m' b n _ e _ (O4p.out.step HBZ.out) (by have := HOZ.out; simpa using this) (HLI.out.wf) ((HLm.out.step HBw4p.out).step HBZ.out) (by have := HN0.out; omega)).mono ?_
      rintro e w5p ⟨rfl, l5p, u5p⟩
      have N5p := (show Hid _ from l5p)
      have O5p := (show Hid _ from (N4p.out.step HBZ.out).but u5p (fun e => by have := HNE.out; omega) (fun e => by have := HNE.out; omega))
      have HBw5p := (show Hid _ from (HBw4p.out.trans (HBZ.out.mono HBw4p.out.size)).trans (u5p.below (by have := HBw4p.out.size; have := HBZ.out.size; omega) (fun i hi => by have := HPM.out; omega)))
      clear l5p u5p HBZ HOZ
      go_wp2_with fail
      refine ⟨⟨k + 1, by omega, by omega, by go_num, ⟨_, _, O5p.out, N5p.out, ?_, ?_⟩, HBw5p.out⟩, by simp [intOf]; omega⟩
      · have := HN0.out; unfold pcnt; split <;> omega
      · have := HN0.out; unfold pcnt; split <;> omega
  obtain ⟨HI, HBwc⟩ := hcut
  obtain ⟨b, nn, L, L', n0, n20⟩ := HI.out
  have HLc := (show Hid _ from L)
  have HMc := (show Hid _ from L')
  have HN0 : Hid (0 ≤ nn ∧ nn ≤ 20) := ⟨n0, n20⟩
  have HRNG := (show Hid _ from L.rng)
  clear L L' HI n0 n20
  have HLT : Hid (p < wc.heap.size ∧ m < wc.heap.size ∧ p' < wc.heap.size ∧ m' < wc.heap.size) := ⟨HLc.out.va.lt, HLc.out.map.lt, HMc.out.va.lt, HMc.out.map.lt⟩
  go_wp2_with fail
  refine (trial_ok p m _ nn _ HLc.out).mono ?_
  rintro e w4 ⟨⟨vw, rfl, ow⟩, b4⟩
  obtain ⟨wa, wcp, rfl, z1, z2⟩ := ow.form
  have HWL : Hid (∀ g, Value.ownBlock (.slice wa (trl b 32).length wcp) = some g → p < g ∧ m < g ∧ p' < g ∧ m' < g) := fun g hg => by have := ow.block g hg; have := HLT.out; omega
  have W4 := (show Hid _ from ow)
  have HL4 := (show Hid _ from HLc.out.step b4)
  have HM4 := (show Hid _ from HMc.out.step b4)
  have HBw4 := (show Hid _ from HBwc.out.trans (b4.mono HBwc.out.size))
  clear ow b4 HLc HMc HBwc
  have BA := (Below.refl w4.heap.size w4).alloc (Nat.le_refl _) (.cells #[] 39)
  have HBA := (show Hid _ from BA)
  have HOW := (show Hid _ from own_made LN w4)
  have HLA := (show Hid _ from (HK.out.step HBw4.out).step BA)
  clear BA
  go_upto_if 52 with (at_builtin; refine appSw (K := LN) (by rfl) _ _ rfl w4.heap.size [] en _ _ (by rfl) (by rfl) HOW.out HLA.out.sl HLA.out.no (by simp) (by have := HK.out.sz; simp only [List.length_nil]; show (0 + en.length) * 40 ≤ _; omega) (by have := HK.out.sz; simp only [List.length_nil]; omega) ?_; intro v5 w5 o5 b5 g5; rw [List.nil_append] at o5; obtain ⟨x5, c5, rfl, l5, m5⟩ := o5.form; rw [← HNN.out] at o5 l5 ⊢)
  have HB45 := HBA.out.trans b5
  have O5 := (show Hid _ from o5)
  have L5 := (show Hid _ from HL4.out.step HB45)
  have M5 := (show Hid _ from HM4.out.step HB45)
  have W5 := (show Hid _ from W4.out.step HB45)
  have HBw5 := (show Hid _ from HBw4.out.trans (HB45.mono HBw4.out.size))
  have HGG : Hid (w.heap.size ≤ w4.heap.size ∧ p < w4.heap.size ∧ m < w4.heap.size ∧ p' < w4.heap.size ∧ m' < w4.heap.size ∧ ∀ g, Value.ownBlock (.slice wa (trl b 32).length wcp) = some g → g < w4.heap.size) := ⟨HBw4.out.size, HL4.out.va.lt, HL4.out.map.lt, HM4.out.va.lt, HM4.out.map.lt, W4.out.lt⟩
  have HX5 : Hid (∀ ad, x5 = some ad → w4.heap.size ≤ ad.block) := fun ad e => by subst e; exact o5.block ad.block rfl
  clear HB45 o5 b5 g5 HOW HLA HBA HL4 HM4 W4 HBw4
  go_cut [2, 3] (fun s2 s3 wx => ∃ ls' : List Ln, Hid (ls'.Perm en) ∧ Hid (Sl LN wx (.slice x5 n c5) ls') ∧ Hid (Led wx p m b nn) ∧ Hid (Led wx p' m' b nn) ∧ Hid (Own LN wx wc.heap.size (.slice wa (trl b 32).length wcp) (trl b 32)) ∧ Hid (Below w.heap.size w wx))
  case first =>
    by_cases h0 : n = 0
    · have q0 : ¬ (0 : Int) < (n : Int) := by omega
      clear h0
      go_wp2_with fail
      go_meet
      exact ⟨en, List.Perm.refl _, O5.out.sl, L5.out, M5.out, W5.out, HBw5.out⟩
    have h0' : 0 < n := by omega
    have q0 : (0 : Int) < (n : Int) := by omega
    obtain ⟨ii, hii, hil⟩ := umod i (n : Int) q0 (by have := HK.out.sz; have := HNN.out; omega)
    obtain ⟨jj, hjj, hjl⟩ := umod j (n : Int) q0 (by have := HK.out.sz; have := HNN.out; omega)
    have HII := (show Hid _ from hii)
    have HJJ := (show Hid _ from hjj)
    have HWN : Hid (IntKind.u64.wrap (n : Int) = (n : Int)) := by
      have := HK.out.sz; have := HNN.out
      show IntKind.u64.wrap (n : Int) = (n : Int)
      rw [IntKind.wrap_u64]; omega
    clear hii hjj
    obtain ⟨g, rfl⟩ : ∃ g, x5 = some ⟨g, 0, none⟩ := by
      rcases O5.out.own.2 with ⟨e, e2⟩ | ⟨g, cap, cur, e, _⟩
      · have := HNN.out; omega
      · cases e; exact ⟨g, rfl⟩
    go_upto_region 14 with fail
    refine wp_region_noPanic ?_
    refine wp_region_held_drew (S := fun w' => Below w5.heap.size w5 w') (by kernel_rfl) ((Below.refl w5.heap.size w5).drew) (fun hHeld => ?_)
    refine takeD 0 53 (.int .i64 i) (by exact rfl) rfl (by kernel_rfl) (by kernel_rfl) (by kernel_rfl) (fun _ _ _ h => h) (Or.inl ⟨by rfl, ?_⟩) (by assumption) ?_
    · intro wq hS
      go_simp
    try simp only [Act.put, List.setIfInBounds_toArray, List.set_cons_zero, List.set_cons_succ]
    refine takeD 1 54 (.int .u64 (IntKind.u64.wrap i)) (by exact rfl) rfl (by kernel_rfl) (by kernel_rfl) (by kernel_rfl) (fun _ _ _ h => h) (Or.inl ⟨by rfl, ?_⟩) (by assumption) ?_
    · intro wq hS
      go_simp
    try simp only [Act.put, List.setIfInBounds_toArray, List.set_cons_zero, List.set_cons_succ]
    refine takeD 2 55 (.slice (some ⟨g, 0, none⟩) n c5) (by exact rfl) rfl (by kernel_rfl) (by kernel_rfl) (by kernel_rfl) (fun _ _ _ h => h) (Or.inl ⟨by rfl, ?_⟩) (by assumption) ?_
    · intro wq hS
      go_simp
    try simp only [Act.put, List.setIfInBounds_toArray, List.set_cons_zero, List.set_cons_succ]
    refine takeD 3 56 (.int .i64 (n : Int)) (by exact rfl) rfl (by kernel_rfl) (by kernel_rfl) (by kernel_rfl) (fun _ _ _ h => h) (Or.inl ⟨by rfl, ?_⟩) (by assumption) ?_
    · intro wq hS
      go_simp
    try simp only [Act.put, List.setIfInBounds_toArray, List.set_cons_zero, List.set_cons_succ]
    refine takeD 4 57 (.int .u64 (n : Int)) (by exact rfl) rfl (by kernel_rfl) (by kernel_rfl) (by kernel_rfl) (fun _ _ _ h => h) (Or.inl ⟨by rfl, ?_⟩) (by assumption) ?_
    · intro wq hS
      have q := HWN.out
      go_simp
    try simp only [Act.put, List.setIfInBounds_toArray, List.set_cons_zero, List.set_cons_succ]
    refine takeD 5 58 (.int .u64 ((IntKind.u64.wrap i).tmod (n : Int))) (by exact rfl) rfl (by kernel_rfl) (by kernel_rfl) (by kernel_rfl) (fun _ _ _ h => h) (Or.inl ⟨by rfl, ?_⟩) (by assumption) ?_
    · intro wq hS
      go_simp
    try simp only [Act.put, List.setIfInBounds_toArray, List.set_cons_zero, List.set_cons_succ]
    refine takeD 6 59 (.int .i64 (ii : Int)) (by exact rfl) rfl (by kernel_rfl) (by kernel_rfl) (by kernel_rfl) (fun _ _ _ h => h) (Or.inl ⟨by rfl, ?_⟩) (by assumption) ?_
    · intro wq hS
      have q := HII.out
      go_simp
    try simp only [Act.put, List.setIfInBounds_toArray, List.set_cons_zero, List.set_cons_succ]
    refine takeD 7 60 (.int .i64 j) (by exact rfl) rfl (by kernel_rfl) (by kernel_rfl) (by kernel_rfl) (fun _ _ _ h => h) (Or.inl ⟨by rfl, ?_⟩) (by assumption) ?_
    · intro wq hS
      go_simp
    try simp only [Act.put, List.setIfInBounds_toArray, List.set_cons_zero, List.set_cons_succ]
    refine takeD 8 61 (.int .u64 (IntKind.u64.wrap j)) (by exact rfl) rfl (by kernel_rfl) (by kernel_rfl) (by kernel_rfl) (fun _ _ _ h => h) (Or.inl ⟨by rfl, ?_⟩) (by assumption) ?_
    · intro wq hS
      go_simp
    try simp only [Act.put, List.setIfInBounds_toArray, List.set_cons_zero, List.set_cons_succ]
    refine takeD 9 62 (.slice (some ⟨g, 0, none⟩) n c5) (by exact rfl) rfl (by kernel_rfl) (by kernel_rfl) (by kernel_rfl) (fun _ _ _ h => h) (Or.inl ⟨by rfl, ?_⟩) (by assumption) ?_
    · intro wq hS
      go_simp
    try simp only [Act.put, List.setIfInBounds_toArray, List.set_cons_zero, List.set_cons_succ]
    refine takeD 10 63 (.int .i64 (n : Int)) (by exact rfl) rfl (by kernel_rfl) (by kernel_rfl) (by kernel_rfl) (fun _ _ _ h => h) (Or.inl ⟨by rfl, ?_⟩) (by assumption) ?_
    · intro wq hS
      go_simp
    try simp only [Act.put, List.setIfInBounds_toArray, List.set_cons_zero, List.set_cons_succ]
    refine takeD 11 64 (.int .u64 (n : Int)) (by exact rfl) rfl (by kernel_rfl) (by kernel_rfl) (by kernel_rfl) (fun _ _ _ h => h) (Or.inl ⟨by rfl, ?_⟩) (by assumption) ?_
    · intro wq hS
      have q := HWN.out
      go_simp
    try simp only [Act.put, List.setIfInBounds_toArray, List.set_cons_zero, List.set_cons_succ]
    refine takeD 12 65 (.int .u64 ((IntKind.u64.wrap j).tmod (n : Int))) (by exact rfl) rfl (by kernel_rfl) (by kernel_rfl) (by kernel_rfl) (fun _ _ _ h => h) (Or.inl ⟨by rfl, ?_⟩) (by assumption) ?_
    · intro wq hS
      go_simp
    try simp only [Act.put, List.setIfInBounds_toArray, List.set_cons_zero, List.set_cons_succ]
    refine takeD 13 66 (.int .i64 (jj : Int)) (by exact rfl) rfl (by kernel_rfl) (by kernel_rfl) (by kernel_rfl) (fun _ _ _ h => h) (Or.inl ⟨by rfl, ?_⟩) (by assumption) ?_
    · intro wq hS
      have q := HJJ.out
      go_simp
    try simp only [Act.put, List.setIfInBounds_toArray, List.set_cons_zero, List.set_cons_succ]
    refine takeD 14 2 (.int .i64 (ii : Int)) (by exact rfl) rfl (by kernel_rfl) (by kernel_rfl) (by kernel_rfl) (fun _ _ _ h => h) (Or.inl ⟨by rfl, ?_⟩) (by assumption) ?_
    · intro wq hS
      go_simp
    try simp only [Act.put, List.setIfInBounds_toArray, List.set_cons_zero, List.set_cons_succ]
    refine takeD 15 3 (.int .i64 (jj : Int)) (by exact rfl) rfl (by kernel_rfl) (by kernel_rfl) (by kernel_rfl) (fun _ _ _ h => h) (Or.inl ⟨by rfl, ?_⟩) (by assumption) ?_
    · intro wq hS
      go_simp
    try simp only [Act.put, List.setIfInBounds_toArray, List.set_cons_zero, List.set_cons_succ]
    clear hHeld
    refine wpAnyH_done (by kernel_rfl) ?_ _
    refine NoPanic.normal ?_
    go_upto_region 15 with fail
    obtain ⟨xi, hxi⟩ : ∃ x, en[ii]? = some x := ⟨en[ii]'(by have := HNN.out; omega), by simp⟩
    obtain ⟨xj, hxj⟩ : ∃ x, en[jj]? = some x := ⟨en[jj]'(by have := HNN.out; omega), by simp⟩
    have BD : Below w5.heap.size w5 w5.drew.drew := (Below.refl w5.heap.size w5).drew.drew
    have O7 := (show Hid _ from O5.out.step BD)
    have L7 := (show Hid _ from L5.out.step BD)
    have M7 := (show Hid _ from M5.out.step BD)
    have W7 := (show Hid _ from W5.out.step BD)
    have HB7 := (show Hid _ from HBw5.out.trans (BD.mono HBw5.out.size))
    have HGL : Hid (w4.heap.size ≤ g) := O5.out.block g rfl
    have HSW := (show Hid _ from swap_perm en ii jj xi xj hxi hxj)
    have HXI := (show Hid _ from hxi)
    have HXJ := (show Hid _ from hxj)
    clear BD O5 L5 M5 W5 HBw5 hxi hxj
    have e1 : (0 : Int) ≤ (ii : Int) := by omega
    have e2 : (0 : Int) ≤ (jj : Int) := by omega
    refine wp_region_noPanic ?_
    refine wp_region_held_drew (S := fun w' => True) (by kernel_rfl) trivial (fun hHeld => ?_)
    refine takeD 0 67 (.slice (some ⟨g, 0, none⟩) n c5) (by exact rfl) rfl (by kernel_rfl) (by kernel_rfl) (by kernel_rfl) (fun _ _ _ h => h) (Or.inl ⟨by rfl, ?_⟩) (by assumption) ?_
    · intro wq hS
      go_simp
    try simp only [Act.put, List.setIfInBounds_toArray, List.set_cons_zero, List.set_cons_succ]
    refine takeD 1 68 (.int .i64 (ii : Int)) (by exact rfl) rfl (by kernel_rfl) (by kernel_rfl) (by kernel_rfl) (fun _ _ _ h => h) (Or.inl ⟨by rfl, ?_⟩) (by assumption) ?_
    · intro wq hS
      go_simp
    try simp only [Act.put, List.setIfInBounds_toArray, List.set_cons_zero, List.set_cons_succ]
    refine takeD 2 69 (.slice (some ⟨g, 0, none⟩) n c5) (by exact rfl) rfl (by kernel_rfl) (by kernel_rfl) (by kernel_rfl) (fun _ _ _ h => h) (Or.inl ⟨by rfl, ?_⟩) (by assumption) ?_
    · intro wq hS
      go_simp
    try simp only [Act.put, List.setIfInBounds_toArray, List.set_cons_zero, List.set_cons_succ]
    refine takeD 3 70 (.int .i64 (jj : Int)) (by exact rfl) rfl (by kernel_rfl) (by kernel_rfl) (by kernel_rfl) (fun _ _ _ h => h) (Or.inl ⟨by rfl, ?_⟩) (by assumption) ?_
    · intro wq hS
      go_simp
    try simp only [Act.put, List.setIfInBounds_toArray, List.set_cons_zero, List.set_cons_succ]
    refine takeD 4 71 (.slice (some ⟨g, 0, none⟩) n c5) (by exact rfl) rfl (by kernel_rfl) (by kernel_rfl) (by kernel_rfl) (fun _ _ _ h => h) (Or.inl ⟨by rfl, ?_⟩) (by assumption) ?_
    · intro wq hS
      go_simp
    try simp only [Act.put, List.setIfInBounds_toArray, List.set_cons_zero, List.set_cons_succ]
    refine takeD 5 72 (.int .i64 (jj : Int)) (by exact rfl) rfl (by kernel_rfl) (by kernel_rfl) (by kernel_rfl) (fun _ _ _ h => h) (Or.inl ⟨by rfl, ?_⟩) (by assumption) ?_
    · intro wq hS
      go_simp
    try simp only [Act.put, List.setIfInBounds_toArray, List.set_cons_zero, List.set_cons_succ]
    refine takeD 6 73 (.pointer (some ⟨g, jj * 5, none⟩)) (by exact rfl) rfl (by kernel_rfl) (by kernel_rfl) (by kernel_rfl) (fun _ _ _ h => h) (Or.inl ⟨by rfl, ?_⟩) (by assumption) ?_
    · intro wq hS
      go_simp
    try simp only [Act.put, List.setIfInBounds_toArray, List.set_cons_zero, List.set_cons_succ]
    refine takeD 8 75 (.slice (some ⟨g, 0, none⟩) n c5) (by exact rfl) rfl (by kernel_rfl) (by kernel_rfl) (by kernel_rfl) (fun _ _ _ h => h) (Or.inl ⟨by rfl, ?_⟩) (by assumption) ?_
    · intro wq hS
      go_simp
    try simp only [Act.put, List.setIfInBounds_toArray, List.set_cons_zero, List.set_cons_succ]
    refine takeD 9 76 (.int .i64 (ii : Int)) (by exact rfl) rfl (by kernel_rfl) (by kernel_rfl) (by kernel_rfl) (fun _ _ _ h => h) (Or.inl ⟨by rfl, ?_⟩) (by assumption) ?_
    · intro wq hS
      go_simp
    try simp only [Act.put, List.setIfInBounds_toArray, List.set_cons_zero, List.set_cons_succ]
    refine takeD 10 77 (.pointer (some ⟨g, ii * 5, none⟩)) (by exact rfl) rfl (by kernel_rfl) (by kernel_rfl) (by kernel_rfl) (fun _ _ _ h => h) (Or.inl ⟨by rfl, ?_⟩) (by assumption) ?_
    · intro wq hS
      go_simp
    try simp only [Act.put, List.setIfInBounds_toArray, List.set_cons_zero, List.set_cons_succ]
    generalize w5.drew.drew = w7 at *
    clear hHeld
    refine wpAnyH_ready (rs := [7, 11]) (by kernel_rfl) (by simp) ?_
    refine AllReadyH.cons (by exact rfl) (fun K hK => ?_) (AllReadyH.cons (by exact rfl) (fun K hK => ?_) AllReadyH.nil)
    · obtain ⟨bg, og, eg, _, hcc⟩ := O7.out.sl.at jj xj HXJ.out
      cases eg
      have r0 : w7.cell? ⟨g, jj * 5, none⟩ = some (.int .i64 xj.code) := by have := hcc 0 _ rfl; rwa [Nat.zero_add] at this
      have r1 : w7.cell? ⟨g, jj * 5 + 1, none⟩ = some (.int .i64 xj.cur) := by have := hcc 1 _ rfl; rwa [Nat.zero_add] at this
      have r2 : w7.cell? ⟨g, jj * 5 + 2, none⟩ = some (.int .i64 xj.h) := by have := hcc 2 _ rfl; rwa [Nat.zero_add] at this
      have r3 : w7.cell? ⟨g, jj * 5 + 3, none⟩ = some (.int .u64 xj.l) := by have := hcc 3 _ rfl; rwa [Nat.zero_add] at this
      have r4 : w7.cell? ⟨g, jj * 5 + 4, none⟩ = some (.int .i64 xj.s) := by have := hcc 4 _ rfl; rwa [Nat.zero_add] at this
      clear hcc
      go_simp
      clear r0 r1 r2 r3 r4
      refine hK.out _ _ trivial (fun hHeld => ?_)
      clear hK K hHeld
      try simp only [Act.put, List.setIfInBounds_toArray, List.set_cons_zero, List.set_cons_succ]
      refine wpAnyH_ready (rs := [11]) (by kernel_rfl) (by simp) ?_
      refine AllReadyH.cons (by exact rfl) (fun K hK => ?_) AllReadyH.nil
      obtain ⟨bg, og, eg, _, hcc⟩ := O7.out.sl.at ii xi HXI.out
      cases eg
      have r0 : w7.cell? ⟨g, ii * 5, none⟩ = some (.int .i64 xi.code) := by have := hcc 0 _ rfl; rwa [Nat.zero_add] at this
      have r1 : w7.cell? ⟨g, ii * 5 + 1, none⟩ = some (.int .i64 xi.cur) := by have := hcc 1 _ rfl; rwa [Nat.zero_add] at this
      have r2 : w7.cell? ⟨g, ii * 5 + 2, none⟩ = some (.int .i64 xi.h) := by have := hcc 2 _ rfl; rwa [Nat.zero_add] at this
      have r3 : w7.cell? ⟨g, ii * 5 + 3, none⟩ = some (.int .u64 xi.l) := by have := hcc 3 _ rfl; rwa [Nat.zero_add] at this
      have r4 : w7.cell? ⟨g, ii * 5 + 4, none⟩ = some (.int .i64 xi.s) := by have := hcc 4 _ rfl; rwa [Nat.zero_add] at this
      clear hcc
      go_simp
      clear r0 r1 r2 r3 r4
      refine hK.out _ _ trivial (fun hHeld => ?_)
      clear hK K hHeld
      try simp only [Act.put, List.setIfInBounds_toArray, List.set_cons_zero, List.set_cons_succ]
      have hHeld : True := trivial
      refine takeD 12 79 (.pointer (some ⟨g, ii * 5, none⟩)) (by exact rfl) rfl (by kernel_rfl) (by kernel_rfl) (by kernel_rfl) (fun _ _ _ h => h) (Or.inl ⟨by rfl, ?_⟩) (by assumption) ?_
      · intro wq hS
        go_simp
      try simp only [Act.put, List.setIfInBounds_toArray, List.set_cons_zero, List.set_cons_succ]
      clear hHeld
      refine wpAnyH_ready (rs := [13]) (by kernel_rfl) (by simp) ?_
      refine AllReadyH.cons (by exact rfl) (fun K hK => ?_) AllReadyH.nil
      refine stMid (by rfl) (by rfl) 39 _ _ (by rfl) g (ii * 5) xj.enc (by rfl) (by rfl) (O7.out.there ii (by have := HNN.out; omega)) infoL5 (ln_one xj) ?_
      refine hK.out _ _ trivial (fun hHeld => ?_)
      clear hK K hHeld
      have hHeld : True := trivial
      refine takeD 14 80 (.pointer (some ⟨g, jj * 5, none⟩)) (by exact rfl) rfl (by kernel_rfl) (by kernel_rfl) (by kernel_rfl) (fun _ _ _ h => h) (Or.inl ⟨by rfl, ?_⟩) (by assumption) ?_
      · intro wq hS
        go_simp
      try simp only [Act.put, List.setIfInBounds_toArray, List.set_cons_zero, List.set_cons_succ]
      clear hHeld
      refine wpAnyH_ready (rs := [15]) (by kernel_rfl) (by simp) ?_
      refine AllReadyH.cons (by exact rfl) (fun K hK => ?_) AllReadyH.nil
      refine stMid (by rfl) (by rfl) 39 _ _ (by rfl) g (jj * 5) xi.enc (by rfl) (by rfl) (World.there_setCells (O7.out.there jj (by have := HNN.out; omega)) _ _ _) infoL5 (ln_one xi) ?_
      refine hK.out _ _ trivial (fun hHeld => ?_)
      clear hK K hHeld
      refine wpAnyH_done (by kernel_rfl) ?_ _
      refine NoPanic.normal ?_
      have S1 := O7.out.sl.set ii xj (O7.out.there ii (by have := HNN.out; omega))
      have S2 := S1.set jj xi (World.there_setCells (O7.out.there jj (by have := HNN.out; omega)) _ _ _)
      have U := (setCells_but w7 g (ii * 5) xj.enc).trans (setCells_but _ g (jj * 5) xi.enc) (fun _ _ e => e)
      have L8 := L7.out.but U (fun (e : p = g) => by have := HGG.out; have := HGL.out; omega) (fun (e : m = g) => by have := HGG.out; have := HGL.out; omega)
      have M8 := M7.out.but U (fun (e : p' = g) => by have := HGG.out; have := HGL.out; omega) (fun (e : m' = g) => by have := HGG.out; have := HGL.out; omega)
      have W8 := W7.out.but U (fun gg hgg (e : gg = g) => by have := HGG.out.2.2.2.2.2 gg hgg; have := HGL.out; omega)
      have B8 := HB7.out.trans (U.below HB7.out.size (fun i (hi : i = g) => by have := HGG.out.1; have := HGL.out; omega))
      clear U S1
      have HS2 := (show Hid _ from S2)
      have HL8 := (show Hid _ from L8)
      have HM8 := (show Hid _ from M8)
      have HW8 := (show Hid _ from W8)
      have HB8 := (show Hid _ from B8)
      clear S2 L8 M8 W8 B8
      go_wp2_with fail
      go_meet
      exact ⟨_, HSW.out, HS2.out, HL8.out, HM8.out, HW8.out, HB8.out⟩
    · obtain ⟨bg, og, eg, _, hcc⟩ := O7.out.sl.at ii xi HXI.out
      cases eg
      have r0 : w7.cell? ⟨g, ii * 5, none⟩ = some (.int .i64 xi.code) := by have := hcc 0 _ rfl; rwa [Nat.zero_add] at this
      have r1 : w7.cell? ⟨g, ii * 5 + 1, none⟩ = some (.int .i64 xi.cur) := by have := hcc 1 _ rfl; rwa [Nat.zero_add] at this
      have r2 : w7.cell? ⟨g, ii * 5 + 2, none⟩ = some (.int .i64 xi.h) := by have := hcc 2 _ rfl; rwa [Nat.zero_add] at this
      have r3 : w7.cell? ⟨g, ii * 5 + 3, none⟩ = some (.int .u64 xi.l) := by have := hcc 3 _ rfl; rwa [Nat.zero_add] at this
      have r4 : w7.cell? ⟨g, ii * 5 + 4, none⟩ = some (.int .i64 xi.s) := by have := hcc 4 _ rfl; rwa [Nat.zero_add] at this
      clear hcc
      go_simp
      clear r0 r1 r2 r3 r4
      refine hK.out _ _ trivial (fun hHeld => ?_)
      clear hK K hHeld
      try simp only [Act.put, List.setIfInBounds_toArray, List.set_cons_zero, List.set_cons_succ]
      refine wpAnyH_ready (rs := [7]) (by kernel_rfl) (by simp) ?_
      refine AllReadyH.cons (by exact rfl) (fun K hK => ?_) AllReadyH.nil
      obtain ⟨bg, og, eg, _, hcc⟩ := O7.out.sl.at jj xj HXJ.out
      cases eg
      have r0 : w7.cell? ⟨g, jj * 5, none⟩ = some (.int .i64 xj.code) := by have := hcc 0 _ rfl; rwa [Nat.zero_add] at this
      have r1 : w7.cell? ⟨g, jj * 5 + 1, none⟩ = some (.int .i64 xj.cur) := by have := hcc 1 _ rfl; rwa [Nat.zero_add] at this
      have r2 : w7.cell? ⟨g, jj * 5 + 2, none⟩ = some (.int .i64 xj.h) := by have := hcc 2 _ rfl; rwa [Nat.zero_add] at this
      have r3 : w7.cell? ⟨g, jj * 5 + 3, none⟩ = some (.int .u64 xj.l) := by have := hcc 3 _ rfl; rwa [Nat.zero_add] at this
      have r4 : w7.cell? ⟨g, jj * 5 + 4, none⟩ = some (.int .i64 xj.s) := by have := hcc 4 _ rfl; rwa [Nat.zero_add] at this
      clear hcc
      go_simp
      clear r0 r1 r2 r3 r4
      refine hK.out _ _ trivial (fun hHeld => ?_)
      clear hK K hHeld
      try simp only [Act.put, List.setIfInBounds_toArray, List.set_cons_zero, List.set_cons_succ]
      have hHeld : True := trivial
      refine takeD 12 79 (.pointer (some ⟨g, ii * 5, none⟩)) (by exact rfl) rfl (by kernel_rfl) (by kernel_rfl) (by kernel_rfl) (fun _ _ _ h => h) (Or.inl ⟨by rfl, ?_⟩) (by assumption) ?_
      · intro wq hS
        go_simp
      try simp only [Act.put, List.setIfInBounds_toArray, List.set_cons_zero, List.set_cons_succ]
      clear hHeld
      refine wpAnyH_ready (rs := [13]) (by kernel_rfl) (by simp) ?_
      refine AllReadyH.cons (by exact rfl) (fun K hK => ?_) AllReadyH.nil
      refine stMid (by rfl) (by rfl) 39 _ _ (by rfl) g (ii * 5) xj.enc (by rfl) (by rfl) (O7.out.there ii (by have := HNN.out; omega)) infoL5 (ln_one xj) ?_
      refine hK.out _ _ trivial (fun hHeld => ?_)
      clear hK K hHeld
      have hHeld : True := trivial
      refine takeD 14 80 (.pointer (some ⟨g, jj * 5, none⟩)) (by exact rfl) rfl (by kernel_rfl) (by kernel_rfl) (by kernel_rfl) (fun _ _ _ h => h) (Or.inl ⟨by rfl, ?_⟩) (by assumption) ?_
      · intro wq hS
        go_simp
      try simp only [Act.put, List.setIfInBounds_toArray, List.set_cons_zero, List.set_cons_succ]
      clear hHeld
      refine wpAnyH_ready (rs := [15]) (by kernel_rfl) (by simp) ?_
      refine AllReadyH.cons (by exact rfl) (fun K hK => ?_) AllReadyH.nil
      refine stMid (by rfl) (by rfl) 39 _ _ (by rfl) g (jj * 5) xi.enc (by rfl) (by rfl) (World.there_setCells (O7.out.there jj (by have := HNN.out; omega)) _ _ _) infoL5 (ln_one xi) ?_
      refine hK.out _ _ trivial (fun hHeld => ?_)
      clear hK K hHeld
      refine wpAnyH_done (by kernel_rfl) ?_ _
      refine NoPanic.normal ?_
      have S1 := O7.out.sl.set ii xj (O7.out.there ii (by have := HNN.out; omega))
      have S2 := S1.set jj xi (World.there_setCells (O7.out.there jj (by have := HNN.out; omega)) _ _ _)
      have U := (setCells_but w7 g (ii * 5) xj.enc).trans (setCells_but _ g (jj * 5) xi.enc) (fun _ _ e => e)
      have L8 := L7.out.but U (fun (e : p = g) => by have := HGG.out; have := HGL.out; omega) (fun (e : m = g) => by have := HGG.out; have := HGL.out; omega)
      have M8 := M7.out.but U (fun (e : p' = g) => by have := HGG.out; have := HGL.out; omega) (fun (e : m' = g) => by have := HGG.out; have := HGL.out; omega)
      have W8 := W7.out.but U (fun gg hgg (e : gg = g) => by have := HGG.out.2.2.2.2.2 gg hgg; have := HGL.out; omega)
      have B8 := HB7.out.trans (U.below HB7.out.size (fun i (hi : i = g) => by have := HGG.out.1; have := HGL.out; omega))
      clear U S1
      have HS2 := (show Hid _ from S2)
      have HL8 := (show Hid _ from L8)
      have HM8 := (show Hid _ from M8)
      have HW8 := (show Hid _ from W8)
      have HB8 := (show Hid _ from B8)
      clear S2 L8 M8 W8 B8
      go_wp2_with fail
      go_meet
      exact ⟨_, HSW.out, HS2.out, HL8.out, HM8.out, HW8.out, HB8.out⟩
  obtain ⟨ls', HPRM, HSL, HLd, HMd, HWd, HBwc⟩ := hcut
  have BA := (Below.refl wc.heap.size wc).alloc (Nat.le_refl _) (.cells #[] 39)
  have HBA := (show Hid _ from BA)
  have HOW := (show Hid _ from own_made LN wc)
  have HLA := (show Hid _ from (HK.out.step HBwc.out).step BA)
  clear BA
  go_wp2_with (at_builtin; refine appSw (K := LN) (by rfl) _ _ rfl wc.heap.size [] en _ _ (by rfl) (by rfl) HOW.out HLA.out.sl HLA.out.no (by simp) (by have := HK.out.sz; simp only [List.length_nil]; show (0 + en.length) * 40 ≤ _; omega) (by have := HK.out.sz; simp only [List.length_nil]; omega) ?_; intro v6 w6 o6 b6 g6)
  have HBZ := (show Hid _ from HBA.out.trans b6)
  have HOZ := (show Hid _ from o6.sl)
  clear o6 b6 g6 HBA HLA HOW
  refine (post_ok p m b nn _ en _ (HLd.out.step HBZ.out) (by have := HOZ.out; simpa using this) (HK.out.wf) ((HLm.out.step HBwc.out).step HBZ.out) (by have := HN0.out; omega)).mono ?_
  rintro e w6p ⟨rfl, l6p, u6p⟩
  have N6p := (show Hid _ from l6p)
  have O6p := (show Hid _ from (HMd.out.step HBZ.out).but u6p (fun e => by have := HNE.out; omega) (fun e => by have := HNE.out; omega))
  have HWd6p := (show Hid _ from (HWd.out.step HBZ.out).but u6p (fun g hg e => by have := HWL.out g hg; omega))
  have HBw6p := (show Hid _ from (HBwc.out.trans (HBZ.out.mono HBwc.out.size)).trans (u6p.below (by have := HBwc.out.size; have := HBZ.out.size; omega) (fun i hi => by have := HPM.out; omega)))
  have HSLZ := (show Hid _ from (HSL.out.step HBZ.out).but u6p (fun ad e1 e2 => by have := HX5.out ad e1; have := HGG.out; omega))
  clear l6p u6p HBZ HOZ
  have HSL6 := (show Hid _ from HSLZ.out)
  obtain ⟨q, hq⟩ : ∃ q, q = perr b en := ⟨_, rfl⟩
  rw [← hq]
  have HQ := (show Hid _ from hq)
  clear hq
  go_wp2_with fail
  refine (post_ok p' m' b nn _ ls' _ O6p.out HSL6.out (fun x hx => HK.out.wf x (HPRM.out.mem_iff.1 hx)) (HLm.out.step HBw6p.out) (by have := HN0.out; omega)).mono ?_
  rintro e w7 ⟨rfl, l7, u7⟩
  have hpp := perr_perm b HPRM.out
  rw [hpp.1, ← HQ.out]
  rw [hpp.2, show pcnt b ls' nn = pcnt b en nn by unfold pcnt; rw [hpp.1]] at l7
  have B7 := (show Hid _ from l7)
  have A7 := (show Hid _ from N6p.out.but u7 (fun e => by have := HNE.out; omega) (fun e => by have := HNE.out; omega))
  have W7 := (show Hid _ from HWd6p.out.but u7 (fun g hg e => by have := HWL.out g hg; omega))
  have HBw7 := (show Hid _ from HBw6p.out.trans (u7.below HBw6p.out.size (fun i hi => by have := HPM.out; omega)))
  have rr : (q != q) = false := by simp
  clear l7 u7 hpp O6p N6p HWd6p HBw6p HSL6 HSLZ HSL
  go_wp2_with fail
  refine (trial_ok p m _ (pcnt b en nn) _ A7.out).mono ?_
  rintro e w8 ⟨⟨v8, rfl, o8⟩, b8⟩
  have T8 := (show Hid _ from o8.sl)
  have A8 := (show Hid _ from A7.out.step b8)
  have B8 := (show Hid _ from B7.out.step b8)
  have W8 := (show Hid _ from W7.out.step b8)
  have HBw8 := (show Hid _ from HBw7.out.trans (b8.mono HBw7.out.size))
  clear o8 b8
  go_wp2_with fail
  refine (trial_ok p' m' _ (pcnt b en nn) _ B8.out).mono ?_
  rintro e w9 ⟨⟨v9, rfl, o9⟩, b9⟩
  have T9 := (show Hid _ from o9.sl)
  have A9 := (show Hid _ from A8.out.step b9)
  have W9 := (show Hid _ from W8.out.step b9)
  have T8' := (show Hid _ from T8.out.step b9)
  have HBw9 := (show Hid _ from HBw8.out.trans (b9.mono HBw8.out.size))
  clear o9 b9
  go_wp2_with fail
  refine (same_yes _ _ _ _ T8'.out T9.out).mono ?_
  rintro e w10 ⟨rfl, b10⟩
  have A10 := (show Hid _ from A9.out.step b10)
  have W10 := (show Hid _ from W9.out.step b10)
  have HBw10 := (show Hid _ from HBw9.out.trans (b10.mono HBw9.out.size))
  clear b10 rr
  by_cases hq0 : q = 0
  · have f1 : (q != 0) = false := by simpa using hq0
    have HP0 : Hid (perr b en = 0) := by rw [← HQ.out]; exact hq0
    clear hq0
    have HC0 := (show Hid _ from (perr_inv HP0.out).1)
    have HG : Hid (∀ x ∈ en, x.wf ∧ x.ok = true) := fun x hx => ⟨HK.out.wf x hx, ((cherr_0 HC0.out).1 x hx).2⟩
    have HL16 : Hid (n ≤ 16) := by rw [HNN.out]; exact (cherr_0 HC0.out).2
    have HK10 := (show Hid _ from HK.out.step HBw10.out)
    have BL : Hid (w.heap.size ≤ w10.heap.size) := HBw10.out.size
    go_wp2_with fail
    go_loopw [16, 107] (fun l i wr => ∃ k : Nat, k ≤ n ∧ i = .int .i64 (k : Int) ∧ Hid (Own LN wr w10.heap.size l ((en.take k).map Ln.neg)) ∧ Hid (Below w10.heap.size w10 wr)) (fun _ i _ => n - (intOf i).toNat)
    case atStart => exact ⟨0, by omega, rfl, own_nil _ _ _, Below.refl _ _⟩
    case round =>
      obtain ⟨k, hk, rfl, HO, HBk⟩ := hrel
      by_cases hkn : k = n
      · subst hkn
        have ho := HO.out
        rw [HNN.out, List.take_length] at ho
        have HO' := (show Hid _ from ho.sl)
        have A11 := (show Hid _ from A10.out.step HBk.out)
        have W11 := (show Hid _ from W10.out.step HBk.out)
        have HB11 := (show Hid _ from HBw10.out.trans (HBk.out.mono HBw10.out.size))
        have hpb := post_back (b := b) HRNG.out HP0.out
        clear ho
        go_wp2_with fail
        refine (post_ok p m (pst b en) (pcnt b en nn) _ (en.map Ln.neg) _ A11.out HO'.out (fun x hx => by
          obtain ⟨y, hy, rfl⟩ := List.mem_map.1 hx
          exact lneg_wf (HG.out y hy).1 (HG.out y hy).2) (HLm.out.step HB11.out) (by have := HN0.out; unfold pcnt; split <;> omega)).mono ?_
        rintro e w12 ⟨rfl, l12, u12⟩
        rw [hpb.1]
        rw [hpb.2] at l12
        have A12 := (show Hid _ from l12)
        have W12 := (show Hid _ from W11.out.but u12 (fun g hg e => by have := HWL.out g hg; omega))
        have HBw12 := (show Hid _ from HB11.out.trans (u12.below HB11.out.size (fun i hi => by have := HPM.out; omega)))
        clear l12 u12
        go_wp2_with fail
        refine (trial_ok p m _ _ _ A12.out).mono ?_
        rintro e w13 ⟨⟨v13, rfl, o13⟩, b13⟩
        have T13 := (show Hid _ from o13.sl)
        have W13 := (show Hid _ from W12.out.step b13)
        have HBw13 := (show Hid _ from HBw12.out.trans (b13.mono HBw12.out.size))
        clear o13 b13
        go_wp2_with fail
        refine (same_yes _ _ _ _ T13.out W13.out.sl).mono ?_
        rintro e w14 ⟨rfl, b14⟩
        have HB14 := (show Hid _ from HBw13.out.trans (b14.mono HBw13.out.size))
        clear b14
        go_wp2_with fail
        go_ret
        exact ⟨rfl, HB14.out⟩
      have hk' : k < n := by omega
      obtain ⟨x, hx⟩ : ∃ x, en[k]? = some x := ⟨en[k]'(by have := HNN.out; omega), by simp⟩
      have hgx := HG.out x (List.mem_of_getElem? hx)
      obtain ⟨bb, off, ee, hb, hc⟩ := (HK10.out.sl.step HBk.out).at k x hx
      cases ee
      have c0 : wr.cell? ⟨bb, off + k * 5, none⟩ = some (.int .i64 x.code) := hc 0 _ rfl
      have c1 : wr.cell? ⟨bb, off + k * 5 + 1, none⟩ = some (.int .i64 x.cur) := hc 1 _ rfl
      have c2 : wr.cell? ⟨bb, off + k * 5 + 2, none⟩ = some (.int .i64 x.h) := hc 2 _ rfl
      have c3 : wr.cell? ⟨bb, off + k * 5 + 3, none⟩ = some (.int .u64 x.l) := hc 3 _ rfl
      have c4 : wr.cell? ⟨bb, off + k * 5 + 4, none⟩ = some (.int .i64 x.s) := hc 4 _ rfl
      have d1 : (0 : Int) ≤ (k : Int) := by omega
      have d2 : (k : Int) < (n : Int) := by omega
      have HNG := (show Hid _ from fun w => neg_ln x hgx.1 hgx.2 w)
      have HTS : Hid ((en.take (k + 1)).map Ln.neg = (en.take k).map Ln.neg ++ [x.neg]) := (show _ = _ by rw [take_snoc hx]; simp)
      have HV0 : Hid (VA (wr.alloc (.cells #[.int .i64 x.code, .int .i64 x.cur, .int .i64 x.h, .int .u64 x.l, .int .i64 x.s] 39)) wr.heap.size x.enc 39) := va_new wr x.enc 39
      have HLTK : Hid (w10.heap.size ≤ wr.heap.size) := HBk.out.size
      clear hc hb hx hgx
      go_wp2_with fail
      refine (HNG.out _).mono ?_
      rintro e w11 ⟨rfl, b11⟩
      have V1 := HV0.out.step b11
      have b11' := below_over b11
      have O1 := (show Hid _ from HO.out.step b11')
      have B1 := (show Hid _ from HBk.out.trans (b11'.mono HBk.out.size))
      have BN := (Below.refl w11.heap.size w11).alloc (Nat.le_refl _) (.cells #[.int .i64 (dhi (-x.cf)), .int .u64 (dlo (-x.cf)), .int .i64 x.s] 37)
      have V2 := (show Hid _ from V1.step BN)
      have O2 := (show Hid _ from O1.out.step BN)
      have B2 := (show Hid _ from B1.out.trans (BN.mono B1.out.size))
      have HQV : Hid (∀ gg, Value.ownBlock _ = some gg → gg < wr.heap.size) := fun gg hgg => HO.out.lt gg hgg
      clear b11 b11' c0 c1 c2 c3 c4 V1 BN HO HBk HV0 O1 B1
      generalize wr.heap.size = qv at *
      have HNEG0 : Hid ([.int .i64 x.code, .int .i64 x.cur, .int .i64 (dhi (-x.cf)), .int .u64 (dlo (-x.cf)), .int .i64 x.s] = x.neg.enc) := rfl
      generalize dhi (-x.cf) = nh at *
      generalize dlo (-x.cf) = nl at *
      go_upto_region 28 with fail
      have a2 := V2.out.cell 2 (v := .int .i64 x.h) rfl
      have a3 := V2.out.free 2
      have Va := V2.out.set 2 (.int .i64 nh)
      have a4 := Va.cell 3 (v := .int .u64 x.l) rfl
      have a5 := Va.free 3
      have Vb := Va.set 3 (.int .u64 nl)
      have a6 := Vb.cell 4 (v := .int .i64 x.s) rfl
      have a7 := Vb.free 4
      have V3 : Hid (VA _ qv [.int .i64 x.code, .int .i64 x.cur, .int .i64 nh, .int .u64 nl, .int .i64 x.s] 39) := Vb.set 4 (.int .i64 x.s)
      have U3 := (((upd_set _ qv 2 (.int .i64 nh)).trans (upd_set _ qv 3 (.int .u64 nl))).trans (upd_set (World.setCell (World.setCell (w11.alloc (.cells #[.int .i64 nh, .int .u64 nl, .int .i64 x.s] 37)) ⟨qv, 2, none⟩ (.int .i64 nh)) ⟨qv, 3, none⟩ (.int .u64 nl)) qv 4 (.int .i64 x.s))).but
      have O3 := (show Hid _ from O2.out.but U3 (fun gg hgg (e : gg = qv) => by have := HQV.out gg hgg; omega))
      have B3 := (show Hid _ from B2.out.trans (U3.below B2.out.size (fun i (hi : i = qv) => by have := HLTK.out; omega)))
      have HL3 : Hid (((en.take k).map Ln.neg).length ≤ 16) := (show _ ≤ _ by rw [List.length_map, List.length_take]; have := HL16.out; have := HNN.out; omega)
      have HNEG : Hid ([.int .i64 x.code, .int .i64 x.cur, .int .i64 nh, .int .u64 nl, .int .i64 x.s] = x.neg.enc) := HNEG0.out
      clear Va Vb U3
      go_upto_region 29 with fail
      clear a2 a3 a4 a5 a6 a7 V2 O2 B2
      generalize World.setCell (World.setCell (World.setCell (w11.alloc (.cells #[.int .i64 nh, .int .u64 nl, .int .i64 x.s] 37)) ⟨qv, 2, none⟩ (.int .i64 nh)) ⟨qv, 3, none⟩ (.int .u64 nl)) ⟨qv, 4, none⟩ (.int .i64 x.s) = w13 at *
      go_wp2_with (first | (refine ldA rfl 39 _ rfl qv (by rfl) _ 39 V3.out _ Tryd.underlying39 rfl infoL5 ?_) | (at_builtin; refine appOne (K := LN) rfl _ _ rfl w10.heap.size ((en.take k).map Ln.neg) _ x.neg (by rfl) (by rfl) O3.out B3.out.size (by have := HL3.out; show (_ + 1) * 40 ≤ _; omega) (by have := HL3.out; omega) _ (congrArg List.toArray HNEG.out) ?_; intro v12 w12 o12 b12))
      refine ⟨⟨k + 1, by omega, by go_num, ?_, B3.out.trans b12⟩, by simp [intOf]; omega⟩
      rw [HTS.out]
      exact o12
  · have f1 : (q != 0) = true := by simpa using hq0
    have hpn : perr b en ≠ 0 := by rw [← HQ.out]; exact hq0
    rw [pst_no hpn] at A10
    clear hq0
    go_wp2_with fail
    refine (trial_ok p m _ _ _ A10.out).mono ?_
    rintro e w11 ⟨⟨v11, rfl, o11⟩, b11⟩
    have T11 := (show Hid _ from o11.sl)
    have W11 := (show Hid _ from W10.out.step b11)
    have HBw11 := (show Hid _ from HBw10.out.trans (b11.mono HBw10.out.size))
    clear o11 b11
    go_wp2_with fail
    refine (same_yes _ _ _ _ T11.out W11.out.sl).mono ?_
    rintro e w12 ⟨rfl, b12⟩
    have HB12 := (show Hid _ from HBw11.out.trans (b12.mono HBw11.out.size))
    clear b12
    go_wp2_with fail
    go_ret
    exact ⟨rfl, HB12.out⟩
end Go.Proofs.YtlgcbbnnldlooaaDoor
