/- The document's decimals: the contract of Rounded. -/
import Derived.Test.YteohncnjjgoemaaGreatDoorM2
import Derived.Deep.DeepCutAuto
namespace Go.Proofs.YteohncnjjgoemaaGreatDoor
open Go.RowKit
set_option linter.unusedVariables false
attribute [local go_sem ↓] Go.wp_at_zero Go.wp_at_succ

/-- The rounded quotient's size. -/
def rnd (neg : Bool) (n d mode : Nat) : Nat := n / d + (if away neg (n / d) (n % d) d mode then 1 else 0)
theorem rnd_exact (neg : Bool) (n d mode : Nat) (h : n % d = 0) : rnd neg n d mode = n / d := by simp [rnd, away, h]
theorem two (w : World) (a b e f : Value) (T : TypeId) :
    V2 ((w.alloc (.cells #[a, b] T)).alloc (.cells #[e, f] T)) w.heap.size a b T ∧ V2 ((w.alloc (.cells #[a, b] T)).alloc (.cells #[e, f] T)) (w.heap.size + 1) e f T ∧
    Below w.heap.size w ((w.alloc (.cells #[a, b] T)).alloc (.cells #[e, f] T)) := by
  refine ⟨(v2_new w a b T).alloc _, ?_, bel_al (bel_al (Below.refl _ _) _) _⟩
  have := v2_new (w.alloc (.cells #[a, b] T)) e f T
  rw [size_al] at this
  exact this
theorem V2.keep {w : World} {q : Nat} {x y : Value} {T : TypeId} (h : V2 w q x y T) {p : Nat} (hp : q ≠ p) (c d : Value) : V2 ((w.setCell ⟨p, 0, none⟩ c).setCell ⟨p, 1, none⟩ d) q x y T := by
  have h1 : (w.setCell ⟨p, 0, none⟩ c).heap[q]? = w.heap[q]? := Below.heap_setCell _ _ _ _ hp
  have h2 : ((w.setCell ⟨p, 0, none⟩ c).setCell ⟨p, 1, none⟩ d).heap[q]? = (w.setCell ⟨p, 0, none⟩ c).heap[q]? := Below.heap_setCell _ _ _ _ hp
  exact ⟨by rw [h2, h1]; exact h.blk⟩
theorem len_zero {w : World} {a : Option Addr} {n c : Nat} (h : Nm w (.slice a n c) 0) : n = 0 := by
  obtain ⟨ds, ⟨_, a', c', e, _⟩, hn, hv⟩ := h
  cases e
  exact hn.zero.1 hv
theorem len_some {w : World} {a : Option Addr} {n c x : Nat} (h : Nm w (.slice a n c) x) (hx : 0 < x) : 0 < n := by
  obtain ⟨ds, ⟨_, a', c', e, _⟩, hn, hv⟩ := h
  cases e
  by_cases h0 : ds.length = 0
  · have := hn.zero.2 h0; omega
  · omega
/-- the lowest digit says whether a number is odd -/
theorem odd_of {w : World} {a : Option Addr} {n c x : Nat} (h : Nm w (.slice a n c) x) (hx : 0 < x) : 0 < n ∧ ∃ b off e, a = some ⟨b, off, none⟩ ∧ w.cell? ⟨b, off, none⟩ = some (.int .u64 e) ∧ 0 ≤ e ∧ e ≤ 4294967295 ∧ (e % 2 == 1) = decide (x % 2 = 1) := by
  have hn0 := len_some h hx
  obtain ⟨ds, ⟨_, a', c', e', _, f⟩, hn, hv⟩ := h
  cases e'
  obtain ⟨b, off, rfl, _, hc⟩ := f hn0
  refine ⟨hn0, b, off, dg ds 0, rfl, hc 0 hn0, (dg_bd hn.sm 0).1, (dg_bd hn.sm 0).2, ?_⟩
  have hm : x % 2 = ds.getD 0 0 % 2 := by
    rw [← hv]
    cases ds with
    | nil => simp at hn0
    | cons d ds => simp [val]; omega
  rw [Bool.eq_iff_iff]
  simp only [beq_iff_eq, decide_eq_true_eq]
  unfold dg
  omega
theorem rnd_up {m : Bool} {x y mode : Nat} (h : away m (x / y) (x % y) y mode = true) : rnd m x y mode = x / y + 1 := by unfold rnd; rw [h]; rfl
theorem rnd_down {m : Bool} {x y mode : Nat} (h : away m (x / y) (x % y) y mode = false) : rnd m x y mode = x / y := by unfold rnd; rw [h]; rfl
theorem away_of {m : Bool} {q r d : Nat} (h : 0 < r) : away m q r d 0 = false ∧ away m q r d 1 = true ∧ away m q r d 2 = m ∧ away m q r d 3 = !m ∧ away m q r d 4 = decide (0 ≤ cmpN (r + r) d) ∧ away m q r d 5 = decide (0 < cmpN (r + r) d) ∧
    away m q r d 6 = (decide (0 < cmpN (r + r) d) || (decide (cmpN (r + r) d = 0) && decide (q % 2 = 1))) := by
  have h0 : ¬ r = 0 := by omega
  unfold away
  simp only [h0, if_false, true_and]
  unfold cmpN
  rcases (show r + r < d ∨ r + r = d ∨ d < r + r by omega) with h | h | h
  · have h1 : ¬ d < r + r := by omega
    have h2 : ¬ r + r = d := by omega
    simp [h, h1, h2]
  · have h1 : ¬ d < r + r := by omega
    have h2 : ¬ r + r < d := by omega
    simp [h]
  · have h1 : ¬ r + r < d := by omega
    have h2 : ¬ r + r = d := by omega
    simp [h, h1, h2]
set_option maxHeartbeats 2000000 in
set_option maxRecDepth 100000 in
theorem rounded_none (v u : Value) (m : Bool) (x y mode : Nat) (w : World) (h : Wn w v m x) (h2 : Nm w u y) (hx : Md x) (hy : Md y) (hy0 : 0 < y) (h0 : x % y = 0) :
    Calls Tryz.prog 51 #[v, u, .int .i64 mode] w fun e w' => (∃ r, e = .returned r ∧ Wn w' r m (x / y)) ∧ Below w.heap.size w w' := by
  obtain ⟨s, rfl, hn⟩ := h
  obtain ⟨sa, sn, sc, rfl⟩ := hn.form
  obtain ⟨ua, un, uc, rfl⟩ := h2.form
  have HX : Hid (Md x) := hx
  have HY : Hid (Md y) := hy
  obtain ⟨A, R, hW⟩ := two w (.bool m) (.slice sa sn sc) (.bool false) (.slice none 0 0) 84
  have N1 := hn.step hW
  have N2 := h2.step hW
  clear hx hy hn h2
  go_enter Tryz.func51, Tryz.ntmps51
  go_wp2_with fail
  refine (lquo_ok _ _ x y _ N1 N2 HX.out HY.out hy0).mono ?_
  rintro e w2 ⟨⟨q, r, rfl, hq, hr⟩, hb⟩
  obtain ⟨qa, qn, qc, rfl⟩ := hq.form
  obtain ⟨ra, rn, rc, rfl⟩ := hr.form
  replace A := A.step hb
  replace R := R.step hb
  replace N2 := N2.step hb
  replace hW := hW.trans (hb.mono hW.size)
  clear hb N1
  obtain ⟨p, hp⟩ : ∃ p, p = w.heap.size := ⟨_, rfl⟩
  have HP : Hid (p = w.heap.size) := hp
  rw [← hp] at A R
  rw [← hp]
  clear hp
  have a0 := A.c0
  have lA := A.lt
  have lR := R.lt
  have hz : rn = 0 := len_zero (by rw [h0] at hr; exact hr)
  subst hz
  have r0 := R.c0
  have r1 := R.c1
  have f0 := R.free 0
  have f1 := R.free 1
  have HA := (show Hid _ from A)
  have HR := (show Hid _ from R)
  have HQ := (show Hid _ from hq)
  have HW := (show Hid _ from hW)
  clear A R hq hr N2 hW
  go_wp2_with fail
  have hF := (HQ.out.put HR.out (by decide) (.bool m) (.slice qa qn qc)).alloc (.cells #[.bool m, .slice qa qn qc] 84)
  have hB := bel_al (bel_put HW.out (p := p + 1) (by have := HP.out; omega) (.bool m) (.slice qa qn qc)) (.cells #[.bool m, .slice qa qn qc] 84)
  have V := ((HR.out.set0 (.bool m)).set1 (.slice qa qn qc)).alloc (.cells #[.bool m, .slice qa qn qc] 84)
  have c0 := V.c0
  have c1 := V.c1
  refine bodyPost_ret (v := .agg #[.bool m, .slice qa qn qc]) (by simp [results, Tryz.results51, go_sem, *]) rfl ⟨⟨_, rfl, wn_mk hF⟩, hB⟩
set_option maxHeartbeats 2000000 in
set_option maxRecDepth 100000 in
theorem rounded_some (v u : Value) (m : Bool) (x y mode : Nat) (w : World) (h : Wn w v m x) (h2 : Nm w u y) (hx : Md x) (hy : Md y) (hy0 : 0 < y) (h0 : 0 < x % y) (hm : mode ≤ 6) :
    Calls Tryz.prog 51 #[v, u, .int .i64 mode] w fun e w' => (∃ r, e = .returned r ∧ Wn w' r m (rnd m x y mode)) ∧ Below w.heap.size w w' := by
  obtain ⟨s, rfl, hn⟩ := h
  obtain ⟨sa, sn, sc, rfl⟩ := hn.form
  obtain ⟨ua, un, uc, rfl⟩ := h2.form
  have HX : Hid (Md x) := hx
  have HY : Hid (Md y) := hy
  obtain ⟨A, R, hW⟩ := two w (.bool m) (.slice sa sn sc) (.bool false) (.slice none 0 0) 84
  have N1 := hn.step hW
  have N2 := h2.step hW
  clear hx hy hn h2
  go_enter Tryz.func51, Tryz.ntmps51
  go_wp2_with fail
  refine (lquo_ok _ _ x y _ N1 N2 HX.out HY.out hy0).mono ?_
  rintro e w2 ⟨⟨q, r, rfl, hq, hr⟩, hb⟩
  obtain ⟨qa, qn, qc, rfl⟩ := hq.form
  obtain ⟨ra, rn, rc, rfl⟩ := hr.form
  replace A := A.step hb
  replace R := R.step hb
  replace N2 := N2.step hb
  replace hW := hW.trans (hb.mono hW.size)
  clear hb N1
  obtain ⟨p, hp⟩ : ∃ p, p = w.heap.size := ⟨_, rfl⟩
  have HP : Hid (p = w.heap.size) := hp
  rw [← hp] at A R
  rw [← hp]
  clear hp
  have a0 := A.c0
  have lA := A.lt
  have lR := R.lt
  have hz := len_some hr h0
  have hz' : ((rn : Int) == 0) = false := by rw [beq_eq_false_iff_ne]; omega
  go_upto_region 5 with fail
  have D := v2_new w2 (.bool m) (.slice qa qn qc) 84
  replace A := A.alloc (.cells #[.bool m, .slice qa qn qc] 84)
  replace R := R.alloc (.cells #[.bool m, .slice qa qn qc] 84)
  replace hq := hq.alloc (.cells #[.bool m, .slice qa qn qc] 84)
  replace hr := hr.alloc (.cells #[.bool m, .slice qa qn qc] 84)
  replace N2 := N2.alloc (.cells #[.bool m, .slice qa qn qc] 84)
  replace hW := bel_al hW (.cells #[.bool m, .slice qa qn qc] 84)
  generalize w2.alloc (.cells #[.bool m, .slice qa qn qc] 84) = W at *
  obtain ⟨d, hd⟩ : ∃ d, d = w2.heap.size := ⟨_, rfl⟩
  rw [← hd] at D lA lR
  rw [← hd]
  clear hd
  clear hz hz'
  go_cut [10] (fun up wx => ∃ uu oa on' oc, up = .pointer (some ⟨uu, 0, none⟩) ∧ p + 1 < uu ∧ Below w.heap.size w wx ∧ V2 wx p (.bool m) (.slice sa sn sc) 84 ∧ V2 wx (p + 1) (.bool false) (.slice none 0 0) 84 ∧ V2 wx d (.bool m) (.slice qa qn qc) 84 ∧ V2 wx uu (.bool m) (.slice oa on' oc) 84 ∧ Nm wx (.slice qa qn qc) (x / y) ∧ Nm wx (.slice ra rn rc) (x % y) ∧ Nm wx (.slice ua un uc) y ∧ Nm wx (.slice oa on' oc) (x / y + 1))
  case first =>
    have lA' := A.lt
    have lR' := R.lt
    have lD' := D.lt
    have hqm : Hid (Md (x / y)) := md_le HX.out (Nat.div_le_self _ _)
    go_region_held3 (fun w' => w'.cell? ⟨p, 0, none⟩ = some (.bool m))
      (first | exact A.c0 | exact A.drew.c0 | exact A3.c0 | exact A4.c0 | exact (A.drew.alloc _).c0 | exact (A3.alloc _).c0 | exact (A4.alloc _).c0 | exact (cell_put (by omega)).trans A4.c0)
      (first
        | (go_at_call 37; refine (word_ok 1 _ (by omega) (by omega)).mono ?_; rintro e w3 ⟨⟨o, rfl, ho⟩, hb3⟩; have A3 := A.drew.step hb3; have R3 := R.drew.step hb3; have D3 := D.drew.step hb3; have q3 := hq.drew.step hb3; have r3 := hr.drew.step hb3; have y3 := N2.drew.step hb3; have hW3 := hW.trans ((bel_of_drew hb3).mono hW.size); have lA3 := A3.lt; have lR3 := R3.lt; have lD3 := D3.lt)
        | (go_at_call 37; refine (word_ok 1 _ (by omega) (by omega)).mono ?_; rintro e w3 ⟨⟨o, rfl, ho⟩, hb3⟩; have A3 := (A.drew.alloc _).step hb3; have R3 := (R.drew.alloc _).step hb3; have D3 := (D.drew.alloc _).step hb3; have q3 := (hq.drew.alloc _).step hb3; have r3 := (hr.drew.alloc _).step hb3; have y3 := (N2.drew.alloc _).step hb3; have U3 : V2 w3 W.heap.size (.bool false) (.slice none 0 0) 84 := (v2_new W.drew (.bool false) (.slice none 0 0) 84).step hb3; have hW3 := hW.trans ((bel_of_drew (bel_over hb3)).mono hW.size); have lA3 := A3.lt; have lR3 := R3.lt; have lD3 := D3.lt)
        | (go_at_call 48; refine (plus_ok _ _ (x / y) 1 _ q3 ho hqm.out (md_of (k := 1) (by decide) (by omega))).mono ?_; rintro e w4 ⟨⟨o4, rfl, ho4⟩, hb4⟩; obtain ⟨oa, on', oc, rfl⟩ := ho4.form; have U4 := U3.step hb4; have A4 := A3.step hb4; have R4 := R3.step hb4; have D4 := D3.step hb4; have q4 := q3.step hb4; have r4 := r3.step hb4; have y4 := y3.step hb4; have hW4 := hW3.trans (hb4.mono hW3.size); have u0 := U4.c0; have u1 := U4.c1; have g0 := U4.free 0; have g1 := U4.free 1)
        | (go_at_call 48; refine (plus_ok _ _ (x / y) 1 _ q3 ho hqm.out (md_of (k := 1) (by decide) (by omega))).mono ?_; rintro e w4 ⟨⟨o4, rfl, ho4⟩, hb4⟩; obtain ⟨oa, on', oc, rfl⟩ := ho4.form; have A4 := A3.step hb4; have R4 := R3.step hb4; have D4 := D3.step hb4; have q4 := q3.step hb4; have r4 := r3.step hb4; have y4 := y3.step hb4; have hW4 := hW3.trans (hb4.mono hW3.size))
        | (go_at_call 48; refine (plus_ok _ _ (x / y) 1 _ (q3.alloc _) (ho.alloc _) hqm.out (md_of (k := 1) (by decide) (by omega))).mono ?_; rintro e w4 ⟨⟨o4, rfl, ho4⟩, hb4⟩; obtain ⟨oa, on', oc, rfl⟩ := ho4.form; have U4 := (v2_new w3 (.bool false) (.slice none 0 0) 84).step hb4; have A4 := (A3.alloc _).step hb4; have R4 := (R3.alloc _).step hb4; have D4 := (D3.alloc _).step hb4; have q4 := (q3.alloc _).step hb4; have r4 := (r3.alloc _).step hb4; have y4 := (y3.alloc _).step hb4; have hW4 := hW3.trans ((bel_over hb4).mono hW3.size); have u0 := U4.c0; have u1 := U4.c1; have g0 := U4.free 0; have g1 := U4.free 1))
    all_goals
      first
        | (have U5 : V2 ((w4.setCell ⟨w3.heap.size, 0, none⟩ (.bool m)).setCell ⟨w3.heap.size, 1, none⟩ (.slice oa on' oc)) w3.heap.size (.bool m) (.slice oa on' oc) 84 := (U4.set0 (.bool m)).set1 (.slice oa on' oc)
           have l5 := lR3
           have A5 := A4.keep (p := w3.heap.size) (by omega) (.bool m) (.slice oa on' oc)
           have R5 := R4.keep (p := w3.heap.size) (by omega) (.bool m) (.slice oa on' oc)
           have D5 := D4.keep (p := w3.heap.size) (by omega) (.bool m) (.slice oa on' oc)
           have r5 := r4.put U4 (by decide) (.bool m) (.slice oa on' oc)
           have q5 := q4.put U4 (by decide) (.bool m) (.slice oa on' oc)
           have y5 := y4.put U4 (by decide) (.bool m) (.slice oa on' oc)
           have o5 := ho4.put U4 (by decide) (.bool m) (.slice oa on' oc)
           have hW5 := bel_put hW4 (p := w3.heap.size) (by have := hW3.size; omega) (.bool m) (.slice oa on' oc)
           go_wp2_with fail
           go_meet
           exact ⟨_, oa, on', oc, rfl, l5, hW5, A5, R5, D5, U5, q5, r5, y5, o5⟩)
        | (have U5 : V2 ((w4.setCell ⟨W.heap.size, 0, none⟩ (.bool m)).setCell ⟨W.heap.size, 1, none⟩ (.slice oa on' oc)) W.heap.size (.bool m) (.slice oa on' oc) 84 := (U4.set0 (.bool m)).set1 (.slice oa on' oc)
           have l5 := lR'
           have A5 := A4.keep (p := W.heap.size) (by omega) (.bool m) (.slice oa on' oc)
           have R5 := R4.keep (p := W.heap.size) (by omega) (.bool m) (.slice oa on' oc)
           have D5 := D4.keep (p := W.heap.size) (by omega) (.bool m) (.slice oa on' oc)
           have r5 := r4.put U4 (by decide) (.bool m) (.slice oa on' oc)
           have q5 := q4.put U4 (by decide) (.bool m) (.slice oa on' oc)
           have y5 := y4.put U4 (by decide) (.bool m) (.slice oa on' oc)
           have o5 := ho4.put U4 (by decide) (.bool m) (.slice oa on' oc)
           have hW5 := bel_put hW4 (p := W.heap.size) (by have := hW.size; omega) (.bool m) (.slice oa on' oc)
           go_wp2_with fail
           go_meet
           exact ⟨_, oa, on', oc, rfl, l5, hW5, A5, R5, D5, U5, q5, r5, y5, o5⟩)
        | (have U5 := v2_new w4 (.bool m) (.slice oa on' oc) 84
           have A5 := A4.alloc (.cells #[.bool m, .slice oa on' oc] 84)
           have R5 := R4.alloc (.cells #[.bool m, .slice oa on' oc] 84)
           have D5 := D4.alloc (.cells #[.bool m, .slice oa on' oc] 84)
           have r5 := r4.alloc (.cells #[.bool m, .slice oa on' oc] 84)
           have q5 := q4.alloc (.cells #[.bool m, .slice oa on' oc] 84)
           have y5 := y4.alloc (.cells #[.bool m, .slice oa on' oc] 84)
           have o5 := ho4.alloc (.cells #[.bool m, .slice oa on' oc] 84)
           have hW5 := bel_al hW4 (.cells #[.bool m, .slice oa on' oc] 84)
           have l5 := R4.lt
           go_wp2_with fail
           go_meet
           exact ⟨_, oa, on', oc, rfl, l5, hW5, A5, R5, D5, U5, q5, r5, y5, o5⟩)
  case rest =>
    clear A R D hq hr N2 hW a0
    obtain ⟨uu, oa, on', oc, rfl, l5, hW5, A5, R5, D5, U5, q5, r5, y5, o5⟩ := hcut
    have hrm : Hid (Md (x % y)) := md_le HY.out (Nat.le_of_lt (Nat.mod_lt _ hy0))
    go_wp2_with fail
    refine (plus_ok _ _ (x % y) (x % y) _ r5 r5 hrm.out hrm.out).mono ?_
    rintro e w6 ⟨⟨tt, rfl, ht⟩, hb6⟩
    replace A5 := A5.step hb6
    replace R5 := R5.step hb6
    replace D5 := D5.step hb6
    replace U5 := U5.step hb6
    replace q5 := q5.step hb6
    replace y5 := y5.step hb6
    replace o5 := o5.step hb6
    replace hW5 := hW5.trans (hb6.mono hW5.size)
    clear hb6 r5
    go_wp2_with fail
    refine (compare_ok _ _ (x % y + x % y) y _ ht y5).mono ?_
    rintro e w7 ⟨rfl, hb7⟩
    replace A5 := A5.step hb7
    replace R5 := R5.step hb7
    replace D5 := D5.step hb7
    replace U5 := U5.step hb7
    replace q5 := q5.step hb7
    replace o5 := o5.step hb7
    replace hW5 := hW5.trans (hb7.mono hW5.size)
    clear hb7 ht y5
    have aw := away_of (m := m) (q := x / y) (d := y) h0
    have AW := (show Hid _ from aw)
    clear aw
    have hcb := cmpN_bd (x % y + x % y) y
    generalize cmpN (x % y + x % y) y = cc at *
    obtain ⟨ob, hob⟩ : ∃ ob, ob = decide (x / y % 2 = 1) := ⟨_, rfl⟩
    rw [← hob] at AW
    have a0 := A5.c0
    have d0 := D5.c0
    have d1 := D5.c1
    have u0 := U5.c0
    have u1 := U5.c1
    have r0 := R5.c0
    have r1 := R5.c1
    have f0 := R5.free 0
    have f1 := R5.free 1
    have HRR := (show Hid _ from R5)
    have HQQ := (show Hid _ from q5)
    have HOO := (show Hid _ from o5)
    have HWW := (show Hid _ from hW5)
    clear A5 D5 U5 R5 o5 hW5
    by_cases hq0 : x / y = 0
    · have hqn : qn = 0 := len_zero (by rw [hq0] at q5; exact q5)
      have hob2 : ob = false := by rw [hob, hq0]; rfl
      subst hqn
      subst hob2
      clear hob q5
      rcases (show mode = 0 ∨ mode = 1 ∨ mode = 2 ∨ mode = 3 ∨ mode = 4 ∨ mode = 5 ∨ mode = 6 by omega) with rfl | rfl | rfl | rfl | rfl | rfl | rfl
      · have HA : Hid (away m (x / y) (x % y) y 0 = false) := AW.out.1
        go_wp2_with fail
        have V := (HRR.out.set0 (.bool m)).set1 (.slice qa 0 qc)
        have hF := HQQ.out.put HRR.out (by decide) (.bool m) (.slice qa 0 qc)
        have hB := bel_put HWW.out (p := p + 1) (by have := HP.out; omega) (.bool m) (.slice qa 0 qc)
        have c0 := V.c0
        have c1 := V.c1
        refine bodyPost_ret (v := .agg #[.bool m, (.slice qa 0 qc)]) (by simp [results, Tryz.results51, go_sem, c0, c1]) rfl ⟨⟨_, rfl, wn_mk (by rw [rnd_down HA.out]; exact hF)⟩, hB⟩
      · have HA : Hid (away m (x / y) (x % y) y 1 = true) := AW.out.2.1
        go_wp2_with fail
        have V := (HRR.out.set0 (.bool m)).set1 (.slice oa on' oc)
        have hF := HOO.out.put HRR.out (by decide) (.bool m) (.slice oa on' oc)
        have hB := bel_put HWW.out (p := p + 1) (by have := HP.out; omega) (.bool m) (.slice oa on' oc)
        have c0 := V.c0
        have c1 := V.c1
        refine bodyPost_ret (v := .agg #[.bool m, (.slice oa on' oc)]) (by simp [results, Tryz.results51, go_sem, c0, c1]) rfl ⟨⟨_, rfl, wn_mk (by rw [rnd_up HA.out]; exact hF)⟩, hB⟩
      · cases m
        · have HA : Hid (away false (x / y) (x % y) y 2 = false) := AW.out.2.2.1
          go_wp2_with fail
          have V := (HRR.out.set0 (.bool false)).set1 (.slice qa 0 qc)
          have hF := HQQ.out.put HRR.out (by decide) (.bool false) (.slice qa 0 qc)
          have hB := bel_put HWW.out (p := p + 1) (by have := HP.out; omega) (.bool false) (.slice qa 0 qc)
          have c0 := V.c0
          have c1 := V.c1
          refine bodyPost_ret (v := .agg #[.bool false, (.slice qa 0 qc)]) (by simp [results, Tryz.results51, go_sem, c0, c1]) rfl ⟨⟨_, rfl, wn_mk (by rw [rnd_down HA.out]; exact hF)⟩, hB⟩
        · have HA : Hid (away true (x / y) (x % y) y 2 = true) := AW.out.2.2.1
          go_wp2_with fail
          have V := (HRR.out.set0 (.bool true)).set1 (.slice oa on' oc)
          have hF := HOO.out.put HRR.out (by decide) (.bool true) (.slice oa on' oc)
          have hB := bel_put HWW.out (p := p + 1) (by have := HP.out; omega) (.bool true) (.slice oa on' oc)
          have c0 := V.c0
          have c1 := V.c1
          refine bodyPost_ret (v := .agg #[.bool true, (.slice oa on' oc)]) (by simp [results, Tryz.results51, go_sem, c0, c1]) rfl ⟨⟨_, rfl, wn_mk (by rw [rnd_up HA.out]; exact hF)⟩, hB⟩
      · cases m
        · have HA : Hid (away false (x / y) (x % y) y 3 = true) := AW.out.2.2.2.1
          go_wp2_with fail
          have V := (HRR.out.set0 (.bool false)).set1 (.slice oa on' oc)
          have hF := HOO.out.put HRR.out (by decide) (.bool false) (.slice oa on' oc)
          have hB := bel_put HWW.out (p := p + 1) (by have := HP.out; omega) (.bool false) (.slice oa on' oc)
          have c0 := V.c0
          have c1 := V.c1
          refine bodyPost_ret (v := .agg #[.bool false, (.slice oa on' oc)]) (by simp [results, Tryz.results51, go_sem, c0, c1]) rfl ⟨⟨_, rfl, wn_mk (by rw [rnd_up HA.out]; exact hF)⟩, hB⟩
        · have HA : Hid (away true (x / y) (x % y) y 3 = false) := AW.out.2.2.2.1
          go_wp2_with fail
          have V := (HRR.out.set0 (.bool true)).set1 (.slice qa 0 qc)
          have hF := HQQ.out.put HRR.out (by decide) (.bool true) (.slice qa 0 qc)
          have hB := bel_put HWW.out (p := p + 1) (by have := HP.out; omega) (.bool true) (.slice qa 0 qc)
          have c0 := V.c0
          have c1 := V.c1
          refine bodyPost_ret (v := .agg #[.bool true, (.slice qa 0 qc)]) (by simp [results, Tryz.results51, go_sem, c0, c1]) rfl ⟨⟨_, rfl, wn_mk (by rw [rnd_down HA.out]; exact hF)⟩, hB⟩
      · by_cases hc : 0 ≤ cc
        · have HA : Hid (away m (x / y) (x % y) y 4 = true) := AW.out.2.2.2.2.1.trans (decide_eq_true hc)
          go_wp2_with fail
          have V := (HRR.out.set0 (.bool m)).set1 (.slice oa on' oc)
          have hF := HOO.out.put HRR.out (by decide) (.bool m) (.slice oa on' oc)
          have hB := bel_put HWW.out (p := p + 1) (by have := HP.out; omega) (.bool m) (.slice oa on' oc)
          have c0 := V.c0
          have c1 := V.c1
          refine bodyPost_ret (v := .agg #[.bool m, (.slice oa on' oc)]) (by simp [results, Tryz.results51, go_sem, c0, c1]) rfl ⟨⟨_, rfl, wn_mk (by rw [rnd_up HA.out]; exact hF)⟩, hB⟩
        · have HA : Hid (away m (x / y) (x % y) y 4 = false) := AW.out.2.2.2.2.1.trans (decide_eq_false hc)
          go_wp2_with fail
          have V := (HRR.out.set0 (.bool m)).set1 (.slice qa 0 qc)
          have hF := HQQ.out.put HRR.out (by decide) (.bool m) (.slice qa 0 qc)
          have hB := bel_put HWW.out (p := p + 1) (by have := HP.out; omega) (.bool m) (.slice qa 0 qc)
          have c0 := V.c0
          have c1 := V.c1
          refine bodyPost_ret (v := .agg #[.bool m, (.slice qa 0 qc)]) (by simp [results, Tryz.results51, go_sem, c0, c1]) rfl ⟨⟨_, rfl, wn_mk (by rw [rnd_down HA.out]; exact hF)⟩, hB⟩
      · by_cases hc : 0 < cc
        · have HA : Hid (away m (x / y) (x % y) y 5 = true) := AW.out.2.2.2.2.2.1.trans (decide_eq_true hc)
          go_wp2_with fail
          have V := (HRR.out.set0 (.bool m)).set1 (.slice oa on' oc)
          have hF := HOO.out.put HRR.out (by decide) (.bool m) (.slice oa on' oc)
          have hB := bel_put HWW.out (p := p + 1) (by have := HP.out; omega) (.bool m) (.slice oa on' oc)
          have c0 := V.c0
          have c1 := V.c1
          refine bodyPost_ret (v := .agg #[.bool m, (.slice oa on' oc)]) (by simp [results, Tryz.results51, go_sem, c0, c1]) rfl ⟨⟨_, rfl, wn_mk (by rw [rnd_up HA.out]; exact hF)⟩, hB⟩
        · have HA : Hid (away m (x / y) (x % y) y 5 = false) := AW.out.2.2.2.2.2.1.trans (decide_eq_false hc)
          go_wp2_with fail
          have V := (HRR.out.set0 (.bool m)).set1 (.slice qa 0 qc)
          have hF := HQQ.out.put HRR.out (by decide) (.bool m) (.slice qa 0 qc)
          have hB := bel_put HWW.out (p := p + 1) (by have := HP.out; omega) (.bool m) (.slice qa 0 qc)
          have c0 := V.c0
          have c1 := V.c1
          refine bodyPost_ret (v := .agg #[.bool m, (.slice qa 0 qc)]) (by simp [results, Tryz.results51, go_sem, c0, c1]) rfl ⟨⟨_, rfl, wn_mk (by rw [rnd_down HA.out]; exact hF)⟩, hB⟩
      · by_cases hc : 0 < cc
        · have t1 : decide (0 < cc) = true := decide_eq_true hc
          have HA : Hid (away m (x / y) (x % y) y 6 = true) := AW.out.2.2.2.2.2.2.trans (by rw [decide_eq_true hc]; rfl)
          go_wp2_with fail
          have V := (HRR.out.set0 (.bool m)).set1 (.slice oa on' oc)
          have hF := HOO.out.put HRR.out (by decide) (.bool m) (.slice oa on' oc)
          have hB := bel_put HWW.out (p := p + 1) (by have := HP.out; omega) (.bool m) (.slice oa on' oc)
          have c0 := V.c0
          have c1 := V.c1
          refine bodyPost_ret (v := .agg #[.bool m, (.slice oa on' oc)]) (by simp [results, Tryz.results51, go_sem, c0, c1]) rfl ⟨⟨_, rfl, wn_mk (by rw [rnd_up HA.out]; exact hF)⟩, hB⟩
        · have t1 : decide (0 < cc) = false := decide_eq_false hc
          by_cases hc0 : cc = 0
          · subst hc0
            have HA : Hid (away m (x / y) (x % y) y 6 = false) := AW.out.2.2.2.2.2.2.trans (by simp)
            go_wp2_with fail
            have V := (HRR.out.set0 (.bool m)).set1 (.slice qa 0 qc)
            have hF := HQQ.out.put HRR.out (by decide) (.bool m) (.slice qa 0 qc)
            have hB := bel_put HWW.out (p := p + 1) (by have := HP.out; omega) (.bool m) (.slice qa 0 qc)
            have c0 := V.c0
            have c1 := V.c1
            refine bodyPost_ret (v := .agg #[.bool m, (.slice qa 0 qc)]) (by simp [results, Tryz.results51, go_sem, c0, c1]) rfl ⟨⟨_, rfl, wn_mk (by rw [rnd_down HA.out]; exact hF)⟩, hB⟩
          · have t2 : (cc == 0) = false := by simp [hc0]
            have HA : Hid (away m (x / y) (x % y) y 6 = false) := AW.out.2.2.2.2.2.2.trans (by simp [hc, hc0])
            go_wp2_with fail
            have V := (HRR.out.set0 (.bool m)).set1 (.slice qa 0 qc)
            have hF := HQQ.out.put HRR.out (by decide) (.bool m) (.slice qa 0 qc)
            have hB := bel_put HWW.out (p := p + 1) (by have := HP.out; omega) (.bool m) (.slice qa 0 qc)
            have c0 := V.c0
            have c1 := V.c1
            refine bodyPost_ret (v := .agg #[.bool m, (.slice qa 0 qc)]) (by simp [results, Tryz.results51, go_sem, c0, c1]) rfl ⟨⟨_, rfl, wn_mk (by rw [rnd_down HA.out]; exact hF)⟩, hB⟩
    · obtain ⟨hqn, eb, eoff, ee, rfl, hec, he0, he1, hee⟩ := odd_of q5 (Nat.pos_of_ne_zero hq0)
      rw [← hob] at hee
      have hqn' : (0 : Int) < qn := by omega
      clear hob q5
      rcases (show mode = 0 ∨ mode = 1 ∨ mode = 2 ∨ mode = 3 ∨ mode = 4 ∨ mode = 5 ∨ mode = 6 by omega) with rfl | rfl | rfl | rfl | rfl | rfl | rfl
      · have HA : Hid (away m (x / y) (x % y) y 0 = false) := AW.out.1
        go_wp2_with fail
        have V := (HRR.out.set0 (.bool m)).set1 (.slice (some ⟨eb, eoff, none⟩) qn qc)
        have hF := HQQ.out.put HRR.out (by decide) (.bool m) (.slice (some ⟨eb, eoff, none⟩) qn qc)
        have hB := bel_put HWW.out (p := p + 1) (by have := HP.out; omega) (.bool m) (.slice (some ⟨eb, eoff, none⟩) qn qc)
        have c0 := V.c0
        have c1 := V.c1
        refine bodyPost_ret (v := .agg #[.bool m, (.slice (some ⟨eb, eoff, none⟩) qn qc)]) (by simp [results, Tryz.results51, go_sem, c0, c1]) rfl ⟨⟨_, rfl, wn_mk (by rw [rnd_down HA.out]; exact hF)⟩, hB⟩
      · have HA : Hid (away m (x / y) (x % y) y 1 = true) := AW.out.2.1
        go_wp2_with fail
        have V := (HRR.out.set0 (.bool m)).set1 (.slice oa on' oc)
        have hF := HOO.out.put HRR.out (by decide) (.bool m) (.slice oa on' oc)
        have hB := bel_put HWW.out (p := p + 1) (by have := HP.out; omega) (.bool m) (.slice oa on' oc)
        have c0 := V.c0
        have c1 := V.c1
        refine bodyPost_ret (v := .agg #[.bool m, (.slice oa on' oc)]) (by simp [results, Tryz.results51, go_sem, c0, c1]) rfl ⟨⟨_, rfl, wn_mk (by rw [rnd_up HA.out]; exact hF)⟩, hB⟩
      · cases m
        · have HA : Hid (away false (x / y) (x % y) y 2 = false) := AW.out.2.2.1
          go_wp2_with fail
          have V := (HRR.out.set0 (.bool false)).set1 (.slice (some ⟨eb, eoff, none⟩) qn qc)
          have hF := HQQ.out.put HRR.out (by decide) (.bool false) (.slice (some ⟨eb, eoff, none⟩) qn qc)
          have hB := bel_put HWW.out (p := p + 1) (by have := HP.out; omega) (.bool false) (.slice (some ⟨eb, eoff, none⟩) qn qc)
          have c0 := V.c0
          have c1 := V.c1
          refine bodyPost_ret (v := .agg #[.bool false, (.slice (some ⟨eb, eoff, none⟩) qn qc)]) (by simp [results, Tryz.results51, go_sem, c0, c1]) rfl ⟨⟨_, rfl, wn_mk (by rw [rnd_down HA.out]; exact hF)⟩, hB⟩
        · have HA : Hid (away true (x / y) (x % y) y 2 = true) := AW.out.2.2.1
          go_wp2_with fail
          have V := (HRR.out.set0 (.bool true)).set1 (.slice oa on' oc)
          have hF := HOO.out.put HRR.out (by decide) (.bool true) (.slice oa on' oc)
          have hB := bel_put HWW.out (p := p + 1) (by have := HP.out; omega) (.bool true) (.slice oa on' oc)
          have c0 := V.c0
          have c1 := V.c1
          refine bodyPost_ret (v := .agg #[.bool true, (.slice oa on' oc)]) (by simp [results, Tryz.results51, go_sem, c0, c1]) rfl ⟨⟨_, rfl, wn_mk (by rw [rnd_up HA.out]; exact hF)⟩, hB⟩
      · cases m
        · have HA : Hid (away false (x / y) (x % y) y 3 = true) := AW.out.2.2.2.1
          go_wp2_with fail
          have V := (HRR.out.set0 (.bool false)).set1 (.slice oa on' oc)
          have hF := HOO.out.put HRR.out (by decide) (.bool false) (.slice oa on' oc)
          have hB := bel_put HWW.out (p := p + 1) (by have := HP.out; omega) (.bool false) (.slice oa on' oc)
          have c0 := V.c0
          have c1 := V.c1
          refine bodyPost_ret (v := .agg #[.bool false, (.slice oa on' oc)]) (by simp [results, Tryz.results51, go_sem, c0, c1]) rfl ⟨⟨_, rfl, wn_mk (by rw [rnd_up HA.out]; exact hF)⟩, hB⟩
        · have HA : Hid (away true (x / y) (x % y) y 3 = false) := AW.out.2.2.2.1
          go_wp2_with fail
          have V := (HRR.out.set0 (.bool true)).set1 (.slice (some ⟨eb, eoff, none⟩) qn qc)
          have hF := HQQ.out.put HRR.out (by decide) (.bool true) (.slice (some ⟨eb, eoff, none⟩) qn qc)
          have hB := bel_put HWW.out (p := p + 1) (by have := HP.out; omega) (.bool true) (.slice (some ⟨eb, eoff, none⟩) qn qc)
          have c0 := V.c0
          have c1 := V.c1
          refine bodyPost_ret (v := .agg #[.bool true, (.slice (some ⟨eb, eoff, none⟩) qn qc)]) (by simp [results, Tryz.results51, go_sem, c0, c1]) rfl ⟨⟨_, rfl, wn_mk (by rw [rnd_down HA.out]; exact hF)⟩, hB⟩
      · by_cases hc : 0 ≤ cc
        · have HA : Hid (away m (x / y) (x % y) y 4 = true) := AW.out.2.2.2.2.1.trans (decide_eq_true hc)
          go_wp2_with fail
          have V := (HRR.out.set0 (.bool m)).set1 (.slice oa on' oc)
          have hF := HOO.out.put HRR.out (by decide) (.bool m) (.slice oa on' oc)
          have hB := bel_put HWW.out (p := p + 1) (by have := HP.out; omega) (.bool m) (.slice oa on' oc)
          have c0 := V.c0
          have c1 := V.c1
          refine bodyPost_ret (v := .agg #[.bool m, (.slice oa on' oc)]) (by simp [results, Tryz.results51, go_sem, c0, c1]) rfl ⟨⟨_, rfl, wn_mk (by rw [rnd_up HA.out]; exact hF)⟩, hB⟩
        · have HA : Hid (away m (x / y) (x % y) y 4 = false) := AW.out.2.2.2.2.1.trans (decide_eq_false hc)
          go_wp2_with fail
          have V := (HRR.out.set0 (.bool m)).set1 (.slice (some ⟨eb, eoff, none⟩) qn qc)
          have hF := HQQ.out.put HRR.out (by decide) (.bool m) (.slice (some ⟨eb, eoff, none⟩) qn qc)
          have hB := bel_put HWW.out (p := p + 1) (by have := HP.out; omega) (.bool m) (.slice (some ⟨eb, eoff, none⟩) qn qc)
          have c0 := V.c0
          have c1 := V.c1
          refine bodyPost_ret (v := .agg #[.bool m, (.slice (some ⟨eb, eoff, none⟩) qn qc)]) (by simp [results, Tryz.results51, go_sem, c0, c1]) rfl ⟨⟨_, rfl, wn_mk (by rw [rnd_down HA.out]; exact hF)⟩, hB⟩
      · by_cases hc : 0 < cc
        · have HA : Hid (away m (x / y) (x % y) y 5 = true) := AW.out.2.2.2.2.2.1.trans (decide_eq_true hc)
          go_wp2_with fail
          have V := (HRR.out.set0 (.bool m)).set1 (.slice oa on' oc)
          have hF := HOO.out.put HRR.out (by decide) (.bool m) (.slice oa on' oc)
          have hB := bel_put HWW.out (p := p + 1) (by have := HP.out; omega) (.bool m) (.slice oa on' oc)
          have c0 := V.c0
          have c1 := V.c1
          refine bodyPost_ret (v := .agg #[.bool m, (.slice oa on' oc)]) (by simp [results, Tryz.results51, go_sem, c0, c1]) rfl ⟨⟨_, rfl, wn_mk (by rw [rnd_up HA.out]; exact hF)⟩, hB⟩
        · have HA : Hid (away m (x / y) (x % y) y 5 = false) := AW.out.2.2.2.2.2.1.trans (decide_eq_false hc)
          go_wp2_with fail
          have V := (HRR.out.set0 (.bool m)).set1 (.slice (some ⟨eb, eoff, none⟩) qn qc)
          have hF := HQQ.out.put HRR.out (by decide) (.bool m) (.slice (some ⟨eb, eoff, none⟩) qn qc)
          have hB := bel_put HWW.out (p := p + 1) (by have := HP.out; omega) (.bool m) (.slice (some ⟨eb, eoff, none⟩) qn qc)
          have c0 := V.c0
          have c1 := V.c1
          refine bodyPost_ret (v := .agg #[.bool m, (.slice (some ⟨eb, eoff, none⟩) qn qc)]) (by simp [results, Tryz.results51, go_sem, c0, c1]) rfl ⟨⟨_, rfl, wn_mk (by rw [rnd_down HA.out]; exact hF)⟩, hB⟩
      · by_cases hc : 0 < cc
        · have t1 : decide (0 < cc) = true := decide_eq_true hc
          have HA : Hid (away m (x / y) (x % y) y 6 = true) := AW.out.2.2.2.2.2.2.trans (by rw [decide_eq_true hc]; rfl)
          go_wp2_with fail
          have V := (HRR.out.set0 (.bool m)).set1 (.slice oa on' oc)
          have hF := HOO.out.put HRR.out (by decide) (.bool m) (.slice oa on' oc)
          have hB := bel_put HWW.out (p := p + 1) (by have := HP.out; omega) (.bool m) (.slice oa on' oc)
          have c0 := V.c0
          have c1 := V.c1
          refine bodyPost_ret (v := .agg #[.bool m, (.slice oa on' oc)]) (by simp [results, Tryz.results51, go_sem, c0, c1]) rfl ⟨⟨_, rfl, wn_mk (by rw [rnd_up HA.out]; exact hF)⟩, hB⟩
        · have t1 : decide (0 < cc) = false := decide_eq_false hc
          by_cases hc0 : cc = 0
          · subst hc0
            cases ob
            · have HA : Hid (away m (x / y) (x % y) y 6 = false) := AW.out.2.2.2.2.2.2.trans (by simp)
              go_wp2_with fail
              have V := (HRR.out.set0 (.bool m)).set1 (.slice (some ⟨eb, eoff, none⟩) qn qc)
              have hF := HQQ.out.put HRR.out (by decide) (.bool m) (.slice (some ⟨eb, eoff, none⟩) qn qc)
              have hB := bel_put HWW.out (p := p + 1) (by have := HP.out; omega) (.bool m) (.slice (some ⟨eb, eoff, none⟩) qn qc)
              have c0 := V.c0
              have c1 := V.c1
              refine bodyPost_ret (v := .agg #[.bool m, (.slice (some ⟨eb, eoff, none⟩) qn qc)]) (by simp [results, Tryz.results51, go_sem, c0, c1]) rfl ⟨⟨_, rfl, wn_mk (by rw [rnd_down HA.out]; exact hF)⟩, hB⟩
            · have HA : Hid (away m (x / y) (x % y) y 6 = true) := AW.out.2.2.2.2.2.2.trans (by simp)
              go_wp2_with fail
              have V := (HRR.out.set0 (.bool m)).set1 (.slice oa on' oc)
              have hF := HOO.out.put HRR.out (by decide) (.bool m) (.slice oa on' oc)
              have hB := bel_put HWW.out (p := p + 1) (by have := HP.out; omega) (.bool m) (.slice oa on' oc)
              have c0 := V.c0
              have c1 := V.c1
              refine bodyPost_ret (v := .agg #[.bool m, (.slice oa on' oc)]) (by simp [results, Tryz.results51, go_sem, c0, c1]) rfl ⟨⟨_, rfl, wn_mk (by rw [rnd_up HA.out]; exact hF)⟩, hB⟩
          · have t2 : (cc == 0) = false := by simp [hc0]
            have HA : Hid (away m (x / y) (x % y) y 6 = false) := AW.out.2.2.2.2.2.2.trans (by simp [hc, hc0])
            go_wp2_with fail
            have V := (HRR.out.set0 (.bool m)).set1 (.slice (some ⟨eb, eoff, none⟩) qn qc)
            have hF := HQQ.out.put HRR.out (by decide) (.bool m) (.slice (some ⟨eb, eoff, none⟩) qn qc)
            have hB := bel_put HWW.out (p := p + 1) (by have := HP.out; omega) (.bool m) (.slice (some ⟨eb, eoff, none⟩) qn qc)
            have c0 := V.c0
            have c1 := V.c1
            refine bodyPost_ret (v := .agg #[.bool m, (.slice (some ⟨eb, eoff, none⟩) qn qc)]) (by simp [results, Tryz.results51, go_sem, c0, c1]) rfl ⟨⟨_, rfl, wn_mk (by rw [rnd_down HA.out]; exact hF)⟩, hB⟩

end Go.Proofs.YteohncnjjgoemaaGreatDoor
