/- ChartPosts: the law's walk. -/
import Derived.Test.YtlgcbbnnldlooaaDoorCtwc
import Derived.Test.YtlgcbbnnldlooaaDoorRwb
namespace Go.Proofs.YtlgcbbnnldlooaaDoor
open Go.RowKit Go.Maps
set_option linter.unusedVariables false

theorem dl_new {w : World} {d : Nat} (h : VA w d (zint 36 ++ [.int .i64 0]) 33) : DL w d (fun _ _ => 0) 0 :=
  ⟨fun c u _ => (show -M36 ≤ 0 ∧ (0 : Int) ≤ M36 by decide), (ib_zero h (by intro v hv; simp at hv; subst hv; rfl)).congr (fun i _ => by unfold lf; split <;> rfl)⟩
theorem DL.but {X : Nat → Prop} {w w' : World} {d : Nat} {b : Int → Int → Int} {n : Int} (h : DL w d b n) (k : But X w w') (hd : ¬ X d) (ku : KeepU w w') : DL w' d b n := ⟨h.rng, h.ib.mv (k.block d h.ib.lt hd) ku⟩
/-- what Post changes holds no digits -/
theorem Led.keepU {w w' : World} {p m : Nat} {b : Int → Int → Int} {n : Int} (h : Led w p m b n) (k : But (fun i => i = p ∨ i = m) w w') : KeepU w w' := by
  refine ⟨k.size, fun i cur fr hi => k.block i (Array.getElem?_eq_some_iff.1 hi).1 ?_⟩
  rintro (rfl | rfl)
  · rw [h.va.blk] at hi
    simp only [Option.some.injEq, Obj.cells.injEq] at hi
    exact absurd hi.2.1 (by decide)
  · obtain ⟨f, ⟨D, ⟨es, clock, hb, _⟩, _⟩, _⟩ := h.map.ex
    rw [hb] at hi
    cases hi
set_option maxHeartbeats 8000000 in
set_option maxRecDepth 100000 in
theorem posts_walk (v : Value) (es : List (List Ln)) (w : World) (h : EIn w v es) (Lm : Lim w) :
    Calls Tryd.prog 3 #[v] w fun e w' => e = .returned (.bool true) ∧ Below w.heap.size w w' := by
  obtain ⟨N, hN⟩ : ∃ N, N = es.length := ⟨_, rfl⟩
  obtain ⟨ta, tc, rfl, g1, g2⟩ : ∃ a c, v = .slice a N c ∧ N ≤ c ∧ c ≤ 9223372036854775807 := by obtain ⟨a, c, e, h1, h2, _⟩ := h; exact ⟨a, c, by rw [hN]; exact e, by rw [hN]; exact h1, h2⟩
  have HE := (show Hid _ from h)
  have HNE := (show Hid _ from hN)
  have HLm := (show Hid _ from Lm)
  clear h hN Lm
  go_enter Tryd.func3, Tryd.ntmps3
  go_wp2_with fail
  refine (cawake_ok _ HLm.out).mono ?_
  rintro e w1 ⟨rfl, b1⟩
  have HB1 := (show Hid _ from b1)
  clear b1
  go_wp2_with fail
  refine (cnew_ok _).mono ?_
  rintro e w2 ⟨⟨p, m, rfl, hp, hm, L2⟩, b2⟩
  have HPM : Hid (w.heap.size ≤ p ∧ w.heap.size ≤ m) := ⟨Nat.le_trans HB1.out.size hp, Nat.le_trans HB1.out.size hm⟩
  have HLT : Hid (p < w2.heap.size ∧ m < w2.heap.size) := ⟨L2.va.lt, L2.map.lt⟩
  have HB2 := (show Hid _ from HB1.out.trans (b2.mono HB1.out.size))
  have BA := (Below.refl w2.heap.size w2).alloc (Nat.le_refl _) (.cells Tryd.zeroCells33 33)
  have v3 := va_new w2 (zint 36 ++ [.int .i64 0]) 33
  rw [show (zint 36 ++ [Value.int .i64 0]).toArray = Tryd.zeroCells33 by kernel_rfl] at v3
  have HD3 := (show Hid _ from dl_new v3)
  have HL3 := (show Hid _ from L2.step BA)
  have HB3 := (show Hid _ from HB2.out.trans (BA.mono HB2.out.size))
  clear hp hm L2 b2 HB1 BA v3
  go_wp2_with fail
  have HNE2 : Hid (p ≠ w2.heap.size ∧ m ≠ w2.heap.size ∧ w.heap.size ≤ w2.heap.size) := ⟨by have := HLT.out; omega, by have := HLT.out; omega, HB2.out.size⟩
  clear HLT HB2
  generalize w2.heap.size = d at *
  generalize w2.alloc (.cells Tryd.zeroCells33 33) = w3 at *
  go_loopw [16] (fun i wr => ∃ k : Nat, k ≤ N ∧ k ≤ 60 ∧ i = .int .i64 (k : Int) ∧ Hid (∃ b n, Led wr p m b n ∧ DL wr d b n ∧ 0 ≤ n ∧ n ≤ (k : Int)) ∧ Hid (Below w.heap.size w wr)) (fun i _ => N - (intOf i).toNat)
  case atStart => exact ⟨0, by omega, by omega, rfl, ⟨_, 0, HL3.out, HD3.out, by omega, by omega⟩, HB3.out⟩
  case round =>
    obtain ⟨k, hk, hk60, rfl, HI, HB⟩ := hrel
    by_cases hkn : k = N
    · subst hkn
      go_wp2_with fail
      go_ret
      exact ⟨rfl, HB.out⟩
    have hk' : k < N := by omega
    obtain ⟨e, he⟩ : ∃ e, es[k]? = some e := ⟨es[k]'(by have := HNE.out; omega), by simp⟩
    obtain ⟨bb, off, u, ea, hu0, hl⟩ := HE.out.at k e he
    cases ea
    have hu := (HB.out.cell (p := ⟨bb, off + k, none⟩) (World.block_lt_of_cell? w _ hu0)).trans hu0
    clear hu0
    obtain ⟨ne, hne⟩ : ∃ ne, ne = e.length := ⟨_, rfl⟩
    obtain ⟨ua, uc, rfl, u1, u2⟩ : ∃ a c, u = .slice a ne c ∧ ne ≤ c ∧ c ≤ 9223372036854775807 := by obtain ⟨a, c, e', h1, h2, _⟩ := hl.sl; exact ⟨a, c, by rw [hne]; exact e', by rw [hne]; exact h1, h2⟩
    have HNEe := (show Hid _ from hne)
    have d1 : (0 : Int) ≤ (k : Int) := by omega
    have d2 : (k : Int) < (N : Int) := by omega
    have HLI := (show Hid _ from hl)
    clear hl he hne
    by_cases h60 : (60 : Int) ≤ (k : Int)
    · go_wp2_with fail
      go_ret
      exact ⟨rfl, HB.out⟩
    obtain ⟨b, n, L, D, n0, nk⟩ := HI.out
    have HL := (show Hid _ from L)
    have HD := (show Hid _ from D)
    have HN0 : Hid (0 ≤ n ∧ n ≤ (k : Int)) := ⟨n0, nk⟩
    have HPD : Hid (p < wr.heap.size ∧ m < wr.heap.size ∧ d < wr.heap.size) := ⟨L.va.lt, L.map.lt, D.ib.lt⟩
    clear L D n0 nk HI
    have BA := (Below.refl wr.heap.size wr).alloc (Nat.le_refl _) (.cells #[] 39)
    have HBA := (show Hid _ from BA)
    have HOW := (show Hid _ from own_made LN wr)
    have HLA := (show Hid _ from (HLI.out.step HB.out).step BA)
    have HSZ : Hid (e.length * 40 ≤ 140737488351232) := HLI.out.sz
    clear BA
    go_upto_region 9 with (first | (at_builtin; refine appSw (K := LN) (by rfl) _ _ rfl wr.heap.size [] e _ _ (by rfl) (by rfl) HOW.out HLA.out.sl HLA.out.no (by simp) (by have := HSZ.out; simp only [List.length_nil]; show (0 + e.length) * 40 ≤ _; omega) (by have := HSZ.out; simp only [List.length_nil]; omega) ?_; intro v5 w5 o5 b5 g5; rw [List.nil_append] at o5; have HO5 := (show Hid _ from o5); have HB5 := (show Hid _ from HBA.out.trans b5); clear o5 b5 g5) | (at_builtin; refine appOne (K := LN) rfl _ _ rfl wr.heap.size e _ ⟨77, 0, 0, 0, 0⟩ (by rfl) (by rfl) HO5.out HB5.out.size (by have := HSZ.out; show (e.length + 1) * 40 ≤ _; omega) (by have := HSZ.out; omega) _ rfl ?_; intro v6 w6 o6 b6))
    obtain ⟨g, c6, rfl, hg6, hc6⟩ : ∃ g c, v6 = .slice (some ⟨g, 0, none⟩) (ne + 1) c ∧ wr.heap.size ≤ g ∧ ne + 1 ≤ c := by
      have hb := o6.block
      obtain ⟨x, c, e', h1, h2⟩ := o6.form
      have hlen : (e ++ [(⟨77, 0, 0, 0, 0⟩ : Ln)]).length = ne + 1 := by rw [List.length_append, HNEe.out]; rfl
      rcases o6.own.2 with ⟨_, e2⟩ | ⟨g, cap, cur, e2, hbb, _⟩
      · rw [hlen] at e2; cases e2
      · rw [e2] at e'
        cases e'
        rw [hlen] at e2 h1
        exact ⟨g, _, e2, hbb, h1⟩
    have HO6 := (show Hid _ from o6)
    have HB6 := (show Hid _ from HB5.out.trans b6)
    have HGL : Hid (wr.heap.size ≤ g) := hg6
    clear o6 b6 HBA HOW HLA HO5 HB5 hg6
    have e1 : (0 : Int) ≤ (ne : Int) := by omega
    have e2 : (ne : Int) ≤ (c6 : Int) := by omega
    have e3 : (ne : Int) < (ne : Int) + 1 := by omega
    have HL6 := (show Hid _ from HL.out.step HB6.out)
    have HD6 := (show Hid _ from HD.out.step HB6.out)
    have HW6 := (show Hid _ from HB.out.trans (HB6.out.mono HB.out.size))
    have HF6 : Hid (Sl LN w6 (.slice (some ⟨g, 0, none⟩) ne c6) e) := by
      have := HO6.out.sl.front
      rw [← HNEe.out] at this
      exact this
    clear HL HD HB6
    go_wp2_with fail
    refine (post_ok p m b n _ e _ HL6.out HF6.out HLI.out.wf (HLm.out.step HW6.out) (by have := HN0.out; omega)).mono ?_
    rintro ee w7 ⟨rfl, l7, k7⟩
    have HL7 := (show Hid _ from l7)
    have HD7 := (show Hid _ from HD6.out.but k7 (fun e => by have := HNE2.out; omega) (HL6.out.keepU k7))
    have HO7 := (show Hid _ from HO6.out.but k7 (fun gg hgg e => by
      have hq : g = gg := by simpa [Value.ownBlock] using hgg
      have := HGL.out; have := HPD.out; omega))
    have HW7 := (show Hid _ from HW6.out.trans (k7.below HW6.out.size (fun i hi => by have := HPM.out; omega)))
    obtain ⟨q, hq⟩ : ∃ q, q = perr b e := ⟨_, rfl⟩
    rw [← hq]
    have HQ := (show Hid _ from hq)
    clear l7 k7 hq HL6 HD6 HO6 HW6 HF6
    go_wp2_with fail
    refine (dpost_ok d b n _ e _ HD7.out (HLI.out.step HW7.out) (by have := HN0.out; omega)).mono ?_
    rintro ee w8 ⟨rfl, d8, k8⟩
    rw [← HQ.out]
    have rr : (q != q) = false := by simp
    have HL8 := (show Hid _ from HL7.out.but k8 (fun e => by have := HNE2.out; omega) (fun e => by have := HNE2.out; omega))
    have HD8 := (show Hid _ from d8)
    have HO8 := (show Hid _ from HO7.out.but k8 (fun gg hgg e => by
      have hq : g = gg := by simpa [Value.ownBlock] using hgg
      have := HGL.out; have := HPD.out; omega))
    have HW8 := (show Hid _ from HW7.out.trans (k8.below HW7.out.size (fun i hi => by have := HNE2.out; omega)))
    have HF8 : Hid (Sl LN w8 (.slice (some ⟨g, 0, none⟩) ne c6) e) := by
      have := HO8.out.sl.front
      rw [← HNEe.out] at this
      exact this
    clear d8 k8 HL7 HD7 HO7 HW7
    go_wp2_with fail
    refine (same_yes _ _ _ _ HF8.out (HLI.out.step HW8.out).sl).mono ?_
    rintro ee w9 ⟨rfl, b9⟩
    have HO9 := (show Hid _ from HO8.out.step b9)
    have HL9 := (show Hid _ from HL8.out.step b9)
    have HD9 := (show Hid _ from HD8.out.step b9)
    have HW9 := (show Hid _ from HW8.out.trans (b9.mono HW8.out.size))
    obtain ⟨bg, og, eg, _, hcc⟩ := HO9.out.sl.at ne ⟨77, 0, 0, 0, 0⟩ (by rw [HNEe.out]; simp)
    cases eg
    have c77 : w9.cell? ⟨g, ne * 5, none⟩ = some (.int .i64 77) := by have := hcc 0 _ rfl; rwa [Nat.zero_add] at this
    clear b9 hcc HL8 HD8 HO8 HW8 HF8 HO9
    go_wp2_with fail
    refine (alike_ok p m d _ _ _ HL9.out HD9.out).mono ?_
    rintro ee w10 ⟨rfl, b10⟩
    have HLa := (show Hid _ from HL9.out.step b10)
    have HDa := (show Hid _ from HD9.out.step b10)
    have HWa := (show Hid _ from HW9.out.trans (b10.mono HW9.out.size))
    clear b10 HL9 HD9 HW9 c77 rr
    go_wp2_with fail
    refine ⟨⟨k + 1, by omega, by omega, by go_num, ⟨_, _, HLa.out, HDa.out, ?_, ?_⟩, HWa.out⟩, by simp [intOf]; omega⟩
    · have := HN0.out; unfold pcnt; split <;> omega
    · have := HN0.out; unfold pcnt; split <;> omega
end Go.Proofs.YtlgcbbnnldlooaaDoor
