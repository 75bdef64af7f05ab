/- ChartParts: the law's walk. -/
import Derived.Test.YtlgcbbnnldlooaaDoorCtn
import Derived.Test.YtlgcbbnnldlooaaDoorRwb
namespace Go.Proofs.YtlgcbbnnldlooaaDoor
open Go.RowKit Go.Maps
set_option linter.unusedVariables false

theorem LIn.take {w : World} {a : Option Addr} {n c : Nat} {ls : List Ln} (h : LIn w (.slice a n c) ls) (k : Nat) (hk : k ≤ n) : LIn w (.slice a k c) (ls.take k) := by
  have hl : n = ls.length := by obtain ⟨a', c', e, _⟩ := h.sl.form; cases e; rfl
  have h1 : Sl LN w (.slice a n c) (ls.take k ++ ls.drop k) := by rw [List.take_append_drop]; exact h.sl
  have h2 := h1.front
  have hlen : (ls.take k).length = k := by rw [List.length_take]; omega
  rw [hlen] at h2
  exact ⟨h2, fun x hx => h.wf x (List.mem_of_mem_take hx), fun n' c' e => by cases e; exact h.no _ _ rfl, by rw [hlen]; have := h.sz; omega⟩
theorem sat_app (a b : List Ln) (c u : Int) : sat (a ++ b) c u = sat a c u + sat b c u := by simp [sat]
theorem sau_app (a b : List Ln) (u : Int) : sau (a ++ b) u = sau a u + sau b u := by simp [sau]
theorem cherr_of {ls : List Ln} (h : ∀ x ∈ ls, x.pl = true ∧ x.ok = true) (hl : ls.length ≤ 16) : cherr ls = 0 := by
  unfold cherr
  rw [if_neg, if_neg (by omega), if_neg]
  · simp only [Bool.not_eq_true, List.any_eq_false]
    intro x hx; rw [(h x hx).2]; simp
  · simp only [Bool.not_eq_true, List.any_eq_false]
    intro x hx; rw [(h x hx).1]; simp
/-- two entries that are posted one behind the other can be posted as one, and leave the same -/
theorem post_parts {b : Int → Int → Int} {x y : List Ln} (hx : x.length ≤ 8) (hy : y.length ≤ 8) (h1 : perr b x = 0) (h2 : perr (pst b x) y = 0) : perr b (x ++ y) = 0 ∧ pst b (x ++ y) = pst (pst b x) y := by
  obtain ⟨c1, r1, b1⟩ := perr_inv h1
  obtain ⟨c2, r2, b2⟩ := perr_inv h2
  have e1 : pst b x = fun c u => b c u + sat x c u := if_pos h1
  have e2 : pst (pst b x) y = fun c u => b c u + sat x c u + sat y c u := by
    rw [show pst (pst b x) y = fun c u => pst b x c u + sat y c u from if_pos h2, e1]
  have hp : perr b (x ++ y) = 0 := by
    refine perr_0 (cherr_of ?_ (by simp; omega)) ?_ ?_
    · intro z hz
      rcases List.mem_append.1 hz with hz | hz
      · exact (cherr_0 c1).1 z hz
      · exact (cherr_0 c2).1 z hz
    · refine rbad_no (fun c u hv => ?_)
      cases e : out36 (b c u + sat (x ++ y) c u)
      · rfl
      · rw [sat_app, ← Int.add_assoc] at e
        have : rbad (pst b x) y = true := rbad_yes hv (by rw [e1]; exact e)
        rw [r2] at this
        cases this
    · have q1 := of_decide_eq_true b1
      have q2 := of_decide_eq_true b2
      refine decide_eq_true ?_
      simp only [sau_app]
      omega
  refine ⟨hp, ?_⟩
  rw [e2, show pst b (x ++ y) = fun c u => b c u + sat (x ++ y) c u from if_pos hp]
  funext c u
  rw [sat_app, Int.add_assoc]
set_option maxHeartbeats 8000000 in
set_option maxRecDepth 100000 in
theorem parts_walk (va vb : Value) (la lb : List Ln) (w : World) (h : LIn w va la) (k : LIn w vb lb) (Lm : Lim w) :
    Calls Tryd.prog 8 #[va, vb] w fun e w' => e = .returned (.bool true) ∧ Below w.heap.size w w' := by
  obtain ⟨na, hna⟩ : ∃ n, n = la.length := ⟨_, rfl⟩
  obtain ⟨nb, hnb⟩ : ∃ n, n = lb.length := ⟨_, rfl⟩
  obtain ⟨aa, ca, rfl, g1, g2⟩ : ∃ a c, va = .slice a na c ∧ na ≤ c ∧ c ≤ 9223372036854775807 := by obtain ⟨a, c, e, h1, h2, _⟩ := h.sl; exact ⟨a, c, by rw [hna]; exact e, by rw [hna]; exact h1, h2⟩
  obtain ⟨ab, cb, rfl, g3, g4⟩ : ∃ a c, vb = .slice a nb c ∧ nb ≤ c ∧ c ≤ 9223372036854775807 := by obtain ⟨a, c, e, h1, h2, _⟩ := k.sl; exact ⟨a, c, by rw [hnb]; exact e, by rw [hnb]; exact h1, h2⟩
  obtain ⟨ka, HKA⟩ : ∃ ka : Nat, Hid ((ka = na ∧ na ≤ 8) ∨ (ka = 8 ∧ 8 < na)) := by
    by_cases e : na ≤ 8
    · exact ⟨na, Or.inl ⟨rfl, e⟩⟩
    · exact ⟨8, Or.inr ⟨rfl, by omega⟩⟩
  obtain ⟨kb, HKB⟩ : ∃ kb : Nat, Hid ((kb = nb ∧ nb ≤ 8) ∨ (kb = 8 ∧ 8 < nb)) := by
    by_cases e : nb ≤ 8
    · exact ⟨nb, Or.inl ⟨rfl, e⟩⟩
    · exact ⟨8, Or.inr ⟨rfl, by omega⟩⟩
  have HA := (show Hid _ from h.take ka (by have := HKA.out; omega))
  have HB := (show Hid _ from k.take kb (by have := HKB.out; omega))
  have ha8 : (la.take ka).length ≤ 8 := by rw [List.length_take]; have := HKA.out; omega
  have hb8 : (lb.take kb).length ≤ 8 := by rw [List.length_take]; have := HKB.out; omega
  have hka : (la.take ka).length = ka := by rw [List.length_take]; have := HKA.out; omega
  have hkb : (lb.take kb).length = kb := by rw [List.length_take]; have := HKB.out; omega
  have HLm := (show Hid _ from Lm)
  clear h k Lm hna hnb
  generalize la.take ka = xa at *
  generalize lb.take kb = xb at *
  have H8 : Hid (xa.length ≤ 8 ∧ xb.length ≤ 8 ∧ xa.length = ka ∧ xb.length = kb) := ⟨ha8, hb8, hka, hkb⟩
  have d1 : (0 : Int) ≤ (ka : Int) := by omega
  have d2 : (ka : Int) ≤ (ca : Int) := by have := HKA.out; omega
  have d4 : (0 : Int) ≤ (kb : Int) := by omega
  have d5 : (kb : Int) ≤ (cb : Int) := by have := HKB.out; omega
  clear ha8 hb8 hka hkb
  go_enter Tryd.func8, Tryd.ntmps8
  go_wp2_with fail
  refine (cawake_ok _ HLm.out).mono ?_
  rintro e w1 ⟨rfl, b1⟩
  have HB1 := (show Hid _ from b1)
  clear b1
  go_wp2_with fail
  refine (cnew_ok _).mono ?_
  rintro e w2 ⟨⟨p, m, rfl, hp, hm, L2⟩, b2⟩
  have HPM : Hid (w.heap.size ≤ p ∧ w.heap.size ≤ m) := ⟨Nat.le_trans HB1.out.size hp, Nat.le_trans HB1.out.size hm⟩
  have HL2 := (show Hid _ from L2)
  have HB2 := (show Hid _ from HB1.out.trans (b2.mono HB1.out.size))
  clear hp hm L2 b2 HB1
  go_wp2_with fail
  refine (cnew_ok _).mono ?_
  rintro e w3 ⟨⟨p', m', rfl, hp, hm, L3⟩, b3⟩
  have HPM' : Hid (w.heap.size ≤ p' ∧ w.heap.size ≤ m') := ⟨Nat.le_trans HB2.out.size hp, Nat.le_trans HB2.out.size hm⟩
  have HNE : Hid (p ≠ p' ∧ p ≠ m' ∧ m ≠ p' ∧ m ≠ m') := by
    have l1 := HL2.out.va.lt
    have l2 := HL2.out.map.lt
    exact ⟨by omega, by omega, by omega, by omega⟩
  have HL := (show Hid _ from HL2.out.step b3)
  have HM := (show Hid _ from L3)
  have HB3 := (show Hid _ from (HB2.out.trans (b3.mono HB2.out.size)).drew)
  have HL := (show Hid _ from HL.out.step (Below.refl _ _).drew)
  have HM := (show Hid _ from HM.out.step (Below.refl _ _).drew)
  clear hp hm L3 b3 HB2 HL2
  go_upto_region 4 with fail
  refine wp_region_noPanic ?_
  refine wp_region_held_drew (S := fun w' => Below w3.heap.size w3 w') (by kernel_rfl) ((Below.refl w3.heap.size w3).drew) (fun hHeld => ?_)
  refine takeD 0 11 (.slice aa na ca) (by exact rfl) rfl (by kernel_rfl) (by kernel_rfl) (by kernel_rfl) (fun _ _ _ h => h) (Or.inl ⟨by rfl, ?_⟩) (by assumption) ?_
  · intro wq hS
    go_simp
  try simp only [Act.put, List.setIfInBounds_toArray, List.set_cons_zero, List.set_cons_succ]
  refine takeD 1 12 (.slice aa na ca) (by exact rfl) rfl (by kernel_rfl) (by kernel_rfl) (by kernel_rfl) (fun _ _ _ h => h) (Or.inl ⟨by rfl, ?_⟩) (by assumption) ?_
  · intro wq hS
    go_simp
  try simp only [Act.put, List.setIfInBounds_toArray, List.set_cons_zero, List.set_cons_succ]
  refine takeD 2 13 (.int .i64 (na : Int)) (by exact rfl) rfl (by kernel_rfl) (by kernel_rfl) (by kernel_rfl) (fun _ _ _ h => h) (Or.inl ⟨by rfl, ?_⟩) (by assumption) ?_
  · intro wq hS
    go_simp
  try simp only [Act.put, List.setIfInBounds_toArray, List.set_cons_zero, List.set_cons_succ]
  refine takeD 3 14 (.int .i64 (ka : Int)) (by exact rfl) rfl (by kernel_rfl) (by kernel_rfl) (by kernel_rfl) (fun _ _ _ h => h) (Or.inl ⟨by rfl, ?_⟩) (by assumption) ?_
  · intro wq hS
    rcases HKA.out with ⟨e1, e2⟩ | ⟨e1, e2⟩
    · have d3 : ((8 : Int) < (na : Int)) = False := eq_false (by omega)
      rw [e1]
      go_simp
    · have d3 : ((8 : Int) < (na : Int)) = True := eq_true (by omega)
      rw [e1]
      go_simp
  try simp only [Act.put, List.setIfInBounds_toArray, List.set_cons_zero, List.set_cons_succ]
  refine takeD 4 15 (.slice aa ka ca) (by exact rfl) rfl (by kernel_rfl) (by kernel_rfl) (by kernel_rfl) (fun _ _ _ h => h) (Or.inl ⟨by rfl, ?_⟩) (by assumption) ?_
  · intro wq hS
    go_simp
  try simp only [Act.put, List.setIfInBounds_toArray, List.set_cons_zero, List.set_cons_succ]
  refine takeD 5 16 (.slice ab nb cb) (by exact rfl) rfl (by kernel_rfl) (by kernel_rfl) (by kernel_rfl) (fun _ _ _ h => h) (Or.inl ⟨by rfl, ?_⟩) (by assumption) ?_
  · intro wq hS
    go_simp
  try simp only [Act.put, List.setIfInBounds_toArray, List.set_cons_zero, List.set_cons_succ]
  refine takeD 6 17 (.slice ab nb cb) (by exact rfl) rfl (by kernel_rfl) (by kernel_rfl) (by kernel_rfl) (fun _ _ _ h => h) (Or.inl ⟨by rfl, ?_⟩) (by assumption) ?_
  · intro wq hS
    go_simp
  try simp only [Act.put, List.setIfInBounds_toArray, List.set_cons_zero, List.set_cons_succ]
  refine takeD 7 18 (.int .i64 (nb : Int)) (by exact rfl) rfl (by kernel_rfl) (by kernel_rfl) (by kernel_rfl) (fun _ _ _ h => h) (Or.inl ⟨by rfl, ?_⟩) (by assumption) ?_
  · intro wq hS
    go_simp
  try simp only [Act.put, List.setIfInBounds_toArray, List.set_cons_zero, List.set_cons_succ]
  refine takeD 8 19 (.int .i64 (kb : Int)) (by exact rfl) rfl (by kernel_rfl) (by kernel_rfl) (by kernel_rfl) (fun _ _ _ h => h) (Or.inl ⟨by rfl, ?_⟩) (by assumption) ?_
  · intro wq hS
    rcases HKB.out with ⟨e1, e2⟩ | ⟨e1, e2⟩
    · have d3 : ((8 : Int) < (nb : Int)) = False := eq_false (by omega)
      rw [e1]
      go_simp
    · have d3 : ((8 : Int) < (nb : Int)) = True := eq_true (by omega)
      rw [e1]
      go_simp
  try simp only [Act.put, List.setIfInBounds_toArray, List.set_cons_zero, List.set_cons_succ]
  refine takeD 9 20 (.slice ab kb cb) (by exact rfl) rfl (by kernel_rfl) (by kernel_rfl) (by kernel_rfl) (fun _ _ _ h => h) (Or.inl ⟨by rfl, ?_⟩) (by assumption) ?_
  · intro wq hS
    go_simp
  try simp only [Act.put, List.setIfInBounds_toArray, List.set_cons_zero, List.set_cons_succ]
  refine takeD 10 0 (.slice aa ka ca) (by exact rfl) rfl (by kernel_rfl) (by kernel_rfl) (by kernel_rfl) (fun _ _ _ h => h) (Or.inl ⟨by rfl, ?_⟩) (by assumption) ?_
  · intro wq hS
    go_simp
  try simp only [Act.put, List.setIfInBounds_toArray, List.set_cons_zero]
  refine takeD 11 1 (.slice ab kb cb) (by exact rfl) rfl (by kernel_rfl) (by kernel_rfl) (by kernel_rfl) (fun _ _ _ h => h) (Or.inl ⟨by rfl, ?_⟩) (by assumption) ?_
  · intro wq hS
    go_simp
  try simp only [Act.put, List.setIfInBounds_toArray, List.set_cons_zero, List.set_cons_succ]
  clear hHeld
  refine wpAnyH_done (by kernel_rfl) ?_ _
  refine NoPanic.normal ?_
  obtain ⟨oa, ob, hoa, hob⟩ : ∃ oa ob : Unit, oa = () ∧ ob = () := ⟨(), (), rfl, rfl⟩
  clear oa ob hoa hob
  generalize w3.drew = w4 at *
  have HBw4 := (show Hid _ from HB3.out)
  clear HB3
  have BA := (Below.refl w4.heap.size w4).alloc (Nat.le_refl _) (.cells #[] 39)
  have HBA := (show Hid _ from BA)
  have HOW := (show Hid _ from own_made LN w4)
  have HLA := (show Hid _ from (HA.out.step HBw4.out).step BA)
  clear BA
  go_wp2_with (at_builtin; refine appSw (K := LN) (by rfl) _ _ rfl w4.heap.size [] xa _ _ (by rfl) (by rfl) HOW.out HLA.out.sl HLA.out.no (by simp) (by have := H8.out; simp only [List.length_nil]; show (0 + xa.length) * 40 ≤ _; omega) (by have := H8.out; simp only [List.length_nil]; omega) ?_; intro v5 w5 o5 b5 g5)
  have HBZ := (show Hid _ from HBA.out.trans b5)
  have HOZ := (show Hid _ from o5.sl)
  clear o5 b5 g5 HBA HLA HOW
  refine (post_ok p m (fun _ _ => 0) 0 _ xa _ (HL.out.step HBZ.out) (by have := HOZ.out; simpa using this) (fun z hz => HA.out.wf z hz) ((HLm.out.step HBw4.out).step HBZ.out) (by decide)).mono ?_
  rintro e w5p ⟨rfl, l5p, u5p⟩
  have N5p := (show Hid _ from l5p)
  have O5p := (show Hid _ from (HM.out.step HBZ.out).but u5p (fun e => by have := HNE.out; omega) (fun e => by have := HNE.out; omega))
  have HBw5p := (show Hid _ from (HBw4.out.trans (HBZ.out.mono HBw4.out.size)).trans (u5p.below (by have := HBw4.out.size; have := HBZ.out.size; omega) (fun i hi => by have := HPM.out; have := HPM'.out; omega)))
  clear l5p u5p HBZ HOZ
  obtain ⟨q1, hq1⟩ : ∃ q, q = perr (fun _ _ => 0) xa := ⟨_, rfl⟩
  rw [← hq1]
  by_cases e1 : q1 = 0
  · have f1 : (q1 != 0) = false := by simpa using e1
    have HQ1 : Hid (perr (fun _ _ => 0) xa = 0) := by rw [← hq1]; exact e1
    rw [show pcnt (fun _ _ => 0) xa 0 = 1 by unfold pcnt; rw [HQ1.out]; rfl] at N5p
    clear hq1 e1
    have BA := (Below.refl w5p.heap.size w5p).alloc (Nat.le_refl _) (.cells #[] 39)
    have HBA := (show Hid _ from BA)
    have HOW := (show Hid _ from own_made LN w5p)
    have HLA := (show Hid _ from (HB.out.step HBw5p.out).step BA)
    clear BA
    go_wp2_with (at_builtin; refine appSw (K := LN) (by rfl) _ _ rfl w5p.heap.size [] xb _ _ (by rfl) (by rfl) HOW.out HLA.out.sl HLA.out.no (by simp) (by have := H8.out; simp only [List.length_nil]; show (0 + xb.length) * 40 ≤ _; omega) (by have := H8.out; simp only [List.length_nil]; omega) ?_; intro v6 w6 o6 b6 g6)
    have HBZ := (show Hid _ from HBA.out.trans b6)
    have HOZ := (show Hid _ from o6.sl)
    clear o6 b6 g6 HBA HLA HOW
    refine (post_ok p m (pst (fun _ _ => 0) xa) 1 _ xb _ (N5p.out.step HBZ.out) (by have := HOZ.out; simpa using this) (fun z hz => HB.out.wf z hz) ((HLm.out.step HBw5p.out).step HBZ.out) (by decide)).mono ?_
    rintro e w6p ⟨rfl, l6p, u6p⟩
    have N6p := (show Hid _ from l6p)
    have O6p := (show Hid _ from (O5p.out.step HBZ.out).but u6p (fun e => by have := HNE.out; omega) (fun e => by have := HNE.out; omega))
    have HBw6p := (show Hid _ from (HBw5p.out.trans (HBZ.out.mono HBw5p.out.size)).trans (u6p.below (by have := HBw5p.out.size; have := HBZ.out.size; omega) (fun i hi => by have := HPM.out; have := HPM'.out; omega)))
    clear l6p u6p HBZ HOZ
    obtain ⟨q2, hq2⟩ : ∃ q, q = perr (pst (fun _ _ => 0) xa) xb := ⟨_, rfl⟩
    rw [← hq2]
    by_cases e2 : q2 = 0
    · have f2 : (q2 != 0) = false := by simpa using e2
      have HQ2 : Hid (perr (pst (fun _ _ => 0) xa) xb = 0) := by rw [← hq2]; exact e2
      rw [show pcnt (pst (fun _ _ => 0) xa) xb 1 = 2 by unfold pcnt; rw [HQ2.out]; rfl] at N6p
      clear hq2 e2
      have BA := (Below.refl w6p.heap.size w6p).alloc (Nat.le_refl _) (.cells #[] 39)
      have HBA := (show Hid _ from BA)
      have HOW := (show Hid _ from own_made LN w6p)
      have HLA := (show Hid _ from (HA.out.step HBw6p.out).step BA)
      clear BA
      go_wp2_with (first | (at_builtin; refine appSw (K := LN) (by rfl) _ _ rfl w6p.heap.size [] xa _ _ (by rfl) (by rfl) HOW.out HLA.out.sl HLA.out.no (by simp) (by have := H8.out; simp only [List.length_nil]; show (0 + xa.length) * 40 ≤ _; omega) (by have := H8.out; simp only [List.length_nil]; omega) ?_; intro v7a w7a o7a b7a g7a; have HOWa := (show Hid _ from o7a); have HBZa := (show Hid _ from HBA.out.trans b7a); have HLAa := (show Hid _ from (HB.out.step HBw6p.out).step HBZa.out); clear o7a b7a g7a) | (at_builtin; refine appSw (K := LN) (by rfl) _ _ rfl w6p.heap.size ([] ++ xa) xb _ _ (by rfl) (by rfl) HOWa.out HLAa.out.sl HLAa.out.no HBZa.out.size (by have := H8.out; simp only [List.nil_append]; show (xa.length + xb.length) * 40 ≤ _; omega) (by have := H8.out; simp only [List.nil_append]; omega) ?_; intro v7 w7 o7 b7 g7))
      have HBZ := (show Hid _ from HBZa.out.trans b7)
      have HOZ := (show Hid _ from o7.sl)
      clear o7 b7 g7 HBA HLA HOW HOWa HBZa HLAa
      refine (post_ok p' m' (fun _ _ => 0) 0 _ (xa ++ xb) _ (O6p.out.step HBZ.out) (by have := HOZ.out; simpa using this) (fun z hz => (List.mem_append.1 hz).elim (fun h => HA.out.wf z h) (fun h => HB.out.wf z h)) ((HLm.out.step HBw6p.out).step HBZ.out) (by decide)).mono ?_
      rintro e w7p ⟨rfl, l7p, u7p⟩
      have N7p := (show Hid _ from l7p)
      have O7p := (show Hid _ from (N6p.out.step HBZ.out).but u7p (fun e => by have := HNE.out; omega) (fun e => by have := HNE.out; omega))
      have HBw7p := (show Hid _ from (HBw6p.out.trans (HBZ.out.mono HBw6p.out.size)).trans (u7p.below (by have := HBw6p.out.size; have := HBZ.out.size; omega) (fun i hi => by have := HPM.out; have := HPM'.out; omega)))
      clear l7p u7p HBZ HOZ
      have HPP := (show Hid _ from post_parts H8.out.1 H8.out.2.1 HQ1.out HQ2.out)
      rw [show pcnt (fun _ _ => 0) (xa ++ xb) 0 = 1 by unfold pcnt; rw [HPP.out.1]; rfl] at N7p
      rw [HPP.out.1]
      go_wp2_with fail
      refine (trial_ok p m _ 2 _ O7p.out).mono ?_
      rintro e w8 ⟨⟨v8, rfl, o8⟩, b8⟩
      have HO8 := (show Hid _ from o8.sl)
      have N8 := (show Hid _ from N7p.out.step b8)
      have O8 := (show Hid _ from O7p.out.step b8)
      have HBw8 := (show Hid _ from HBw7p.out.trans (b8.mono HBw7p.out.size))
      clear o8 b8
      go_wp2_with fail
      refine (trial_ok p' m' _ 1 _ N8.out).mono ?_
      rintro e w9 ⟨⟨v9, rfl, o9⟩, b9⟩
      have HO9 := (show Hid _ from o9.sl)
      have HP8 := (show Hid _ from HO8.out.step b9)
      have N9 := (show Hid _ from N8.out.step b9)
      have O9 := (show Hid _ from O8.out.step b9)
      have HBw9 := (show Hid _ from HBw8.out.trans (b9.mono HBw8.out.size))
      clear o9 b9 HO8
      rw [HPP.out.2] at HO9
      go_wp2_with fail
      refine (same_yes _ _ _ _ HP8.out HO9.out).mono ?_
      rintro e w10 ⟨rfl, b10⟩
      have N10 := (show Hid _ from N9.out.step b10)
      have O10 := (show Hid _ from O9.out.step b10)
      have HBw10 := (show Hid _ from HBw9.out.trans (b10.mono HBw9.out.size))
      clear b10
      go_wp2_with fail
      refine (entries_ok p m _ 2 _ O10.out).mono ?_
      rintro e w11 ⟨rfl, hq⟩
      obtain rfl := hq.symm
      go_wp2_with fail
      refine (entries_ok p' m' _ 1 _ N10.out).mono ?_
      rintro e w11 ⟨rfl, hq⟩
      obtain rfl := hq.symm
      go_wp2_with fail
      go_ret
      exact ⟨rfl, HBw10.out⟩
    · have f2 : (q2 != 0) = true := by simpa using e2
      clear hq2 e2
      go_wp2_with fail
      go_ret
      exact ⟨rfl, HBw6p.out⟩
  · have f1 : (q1 != 0) = true := by simpa using e1
    clear hq1 e1
    go_wp2_with fail
    go_ret
    exact ⟨rfl, HBw5p.out⟩
end Go.Proofs.YtlgcbbnnldlooaaDoor
