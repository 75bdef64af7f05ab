/- chart: a row's element is stored; entries in another order; opposite entries. -/
import Derived.Test.YtlgcbbnnldlooaaDoorCtq
import Derived.Deep.Upon
namespace Go.Proofs.YtlgcbbnnldlooaaDoor
open Go.RowKit Go.Maps
set_option linter.unusedVariables false

/-- what is there of a row of the call's own -/
theorem Own.there {α : Type} {K : Kd α} {w : World} {B g c : Nat} {n : Nat} {xs : List α} (h : Own K w B (.slice (some ⟨g, 0, none⟩) n c) xs) (i : Nat) (hi : i < xs.length) : w.there g (i * K.k) K.k := by
  rcases h.own.2 with ⟨e, _⟩ | ⟨g', cap, cur, e, hb, hg, hcap, hcm, hcs, htk⟩
  · cases e
  · cases e
    intro j hj
    have hlt : i * K.k + j < cur.size := by
      rw [hcs]
      have h1 : (i + 1) * K.k ≤ c * K.k := Nat.mul_le_mul_right _ (by omega)
      rw [Nat.add_mul, Nat.one_mul] at h1
      omega
    refine ⟨?_, frozen_of_row w g (i * K.k + j) _ _ hg⟩
    rw [cell_of_row w g (i * K.k + j) _ _ _ hg]
    simp [hlt]
theorem setCells_but (w : World) (g o : Nat) (vs : List Value) : But (fun i => i = g) w (w.setCells g o vs) := by
  induction vs generalizing w o with
  | nil => exact But.refl _ _
  | cons v r ih => exact ((upd_set w g o v).but).trans (ih (w.setCell ⟨g, o, none⟩ v) (o + 1)) (fun _ _ e => e)
/-- an element is stored -/
theorem Sl.set {α : Type} {K : Kd α} {w : World} {g n c : Nat} {xs : List α} (h : Sl K w (.slice (some ⟨g, 0, none⟩) n c) xs) (i : Nat) (x : α) (ht : w.there g (i * K.k) K.k) : Sl K (w.setCells g (i * K.k) (K.enc x)) (.slice (some ⟨g, 0, none⟩) n c) (xs.set i x) := by
  obtain ⟨a', c', e, h1, h2, h3⟩ := h
  cases e
  refine ⟨some ⟨g, 0, none⟩, c, by rw [List.length_set], by rw [List.length_set]; exact h1, h2, fun h0 => ?_⟩
  rw [List.length_set] at h0
  obtain ⟨b, off, ea, hb, hx⟩ := h3 h0
  cases ea
  refine ⟨g, 0, rfl, Nat.lt_of_lt_of_le hb (setCells_but w g _ _).size, fun j y hj l u hu => ?_⟩
  have hlk : l < K.k := by rw [← K.len y]; exact (List.getElem?_eq_some_iff.1 hu).1
  rw [Nat.zero_add]
  by_cases e : j = i
  · subst e
    rw [List.getElem?_set_self' ] at hj
    have hy : x = y := by
      cases q : xs[j]? with
      | none => rw [q] at hj; cases hj
      | some z => rw [q] at hj; simpa using hj
    subst hy
    exact World.rangeAt_setCells_same w g (j * K.k) (K.enc x) (by rw [K.len]; exact ht) l u hu
  · rw [List.getElem?_set_ne (fun q => e q.symm)] at hj
    rw [World.cell?_setCells_out g (K.enc x) (i * K.k) w ⟨g, j * K.k + l, none⟩ (fun _ _ => ?_)]
    · have := hx j y hj l u hu
      rwa [Nat.zero_add] at this
    · show j * K.k + l < i * K.k ∨ i * K.k + (K.enc x).length ≤ j * K.k + l
      rw [K.len]
      rcases Nat.lt_or_ge j i with q | q
      · left
        have := Nat.mul_le_mul_right K.k (show j + 1 ≤ i from q)
        rw [Nat.add_mul, Nat.one_mul] at this
        omega
      · right
        have := Nat.mul_le_mul_right K.k (show i + 1 ≤ j by omega)
        rw [Nat.add_mul, Nat.one_mul] at this
        omega
/-- a struct is stored into a row's middle, in a region that draws its order -/
theorem stMid {w : World} {y : Nat → Option Bool} {o : Oper} {a : Act} {Q : Exit → Act → World → Prop} {K : Act → World → Prop} {k0 : Prop} (hgd : Region.wanted o y = true) (hd : o.dst = none) (ty : TypeId) (x z : Operand) (ho : o.op = .store ty x z)
    (b of : Nat) (cs : List Value) (hx : a.eval x = .pointer (some ⟨b, of, none⟩)) (hy : a.eval z = .agg cs.toArray) (ht : w.there b of cs.length) (hi : (Tryd.prog.info? ty).map (·.size) = some cs.length) (h1 : ∀ v ∈ cs, v.oneCell' = true)
    (h : K a (w.setCells b of cs)) : if Region.wanted o y = true then o.wp Tryd.prog a w K Q else k0 := by
  rw [if_pos hgd]
  refine wp_store_mid ty x z ho b of cs.toArray hx hy (by simpa using ht) (by simpa using hi) (all_oneCell_toArray h1) ?_
  rw [hd]
  exact h
/-- swapped is in another order -/
theorem swap_perm {α : Type} (l : List α) (i j : Nat) (x y : α) (hi : l[i]? = some x) (hj : l[j]? = some y) : ((l.set i y).set j x).Perm l := by
  have hil : i < l.length := (List.getElem?_eq_some_iff.1 hi).1
  have hjl : j < l.length := (List.getElem?_eq_some_iff.1 hj).1
  have ex : l[i] = x := by simpa [hil] using hi
  have ey : l[j] = y := by simpa [hjl] using hj
  have e : (l.set i y).set j x = ((l.toArray.swap i j (by simpa using hil) (by simpa using hjl))).toList := by
    rw [Array.swap_def]
    simp [ex, ey]
  rw [e]
  exact (Array.swap_perm (by simpa using hil) (by simpa using hjl)).toList
theorem sum_perm {l m : List Int} (h : l.Perm m) : l.sum = m.sum := by
  induction h with
  | nil => rfl
  | cons x _ ih => simp [ih]
  | swap x y l => simp; omega
  | trans _ _ h1 h2 => exact h1.trans h2
theorem sat_perm {l m : List Ln} (h : l.Perm m) (c u : Int) : sat l c u = sat m c u := sum_perm (h.map _)
theorem sau_perm {l m : List Ln} (h : l.Perm m) (u : Int) : sau l u = sau m u := sum_perm (h.map _)
theorem perr_perm (b : Int → Int → Int) {l m : List Ln} (h : l.Perm m) : perr b l = perr b m ∧ pst b l = pst b m := by
  have hc : cherr l = cherr m := by
    unfold cherr
    rw [h.any_eq, h.any_eq, h.length_eq]
  have hs : (fun c u => b c u + sat l c u) = fun c u => b c u + sat m c u := by funext c u; rw [sat_perm h]
  have hr : rbad b l = rbad b m := by
    unfold rbad
    congr 1
    funext a
    rw [sat_perm h]
  have hb : bal l = bal m := by unfold bal; simp only [sau_perm h]
  have hp : perr b l = perr b m := by unfold perr; rw [hc, hr, hb]
  refine ⟨hp, ?_⟩
  unfold pst
  rw [hp, hs]
/-- the opposite line -/
def Ln.neg (x : Ln) : Ln := ⟨x.code, x.cur, dhi (-x.cf), dlo (-x.cf), x.s⟩
theorem lneg_cf (x : Ln) : x.neg.cf = -x.cf := cf_of (s := 0) rfl rfl
theorem lneg_un (x : Ln) : x.neg.un = -x.un := by
  unfold Ln.un
  rw [lneg_cf, Int.neg_mul]
  rfl
theorem lneg_pl (x : Ln) : x.neg.pl = x.pl := rfl
theorem lneg_ok (x : Ln) : x.neg.ok = x.ok := by
  unfold Ln.ok far
  rw [lneg_cf]
  show (decide (0 ≤ x.s ∧ x.s ≤ 12) && _) = _
  congr 2
  refine decide_eq_decide.2 ?_
  show (M20 * 10 ^ x.s.toNat < -x.cf ∨ -x.cf < -(M20 * 10 ^ x.s.toNat)) ↔ _
  omega
theorem lneg_wf {x : Ln} (h : x.wf) (ho : x.ok = true) : x.neg.wf := by
  obtain ⟨c, n, _, _, _, _, ic, ec, _⟩ := good_form h ho
  have h1 := dlo_bd (-x.cf)
  have hi : -9223372036854775808 ≤ dhi (-x.cf) ∧ dhi (-x.cf) ≤ 9223372036854775807 := by
    rw [ec]
    have h2 := ic.lo
    have h3 := ic.hi
    unfold M127 at h2 h3
    unfold dhi
    omega
  exact ⟨h.code, h.cur, WalkArith.wf_i64 hi, by simpa [Ln.neg, Lit.wf, IntKind.min, IntKind.max, IntKind.signed, IntKind.bits] using h1, h.s⟩
theorem sat_neg (ls : List Ln) (c u : Int) : sat (ls.map Ln.neg) c u = -sat ls c u := by
  induction ls with
  | nil => rfl
  | cons x ls ih =>
    simp only [sat, List.map_cons, List.sum_cons] at ih ⊢
    rw [ih, lneg_un]
    show (if x.code = c ∧ x.cur = u then -x.un else 0) + _ = _
    split <;> omega
theorem sau_neg (ls : List Ln) (u : Int) : sau (ls.map Ln.neg) u = -sau ls u := by
  induction ls with
  | nil => rfl
  | cons x ls ih =>
    simp only [sau, List.map_cons, List.sum_cons] at ih ⊢
    rw [ih, lneg_un]
    show (if x.cur = u then -x.un else 0) + _ = _
    split <;> omega
theorem post_back {b : Int → Int → Int} (hb : ∀ c u, Va c u → -M36 ≤ b c u ∧ b c u ≤ M36) {ls : List Ln} (h : perr b ls = 0) : perr (pst b ls) (ls.map Ln.neg) = 0 ∧ pst (pst b ls) (ls.map Ln.neg) = b := by
  obtain ⟨c1, r1, b1⟩ := perr_inv h
  have e1 : pst b ls = fun c u => b c u + sat ls c u := if_pos h
  have hp : perr (pst b ls) (ls.map Ln.neg) = 0 := by
    refine perr_0 (cherr_of ?_ (by simpa using (cherr_0 c1).2)) ?_ ?_
    · intro z hz
      obtain ⟨y, hy, rfl⟩ := List.mem_map.1 hz
      rw [lneg_pl, lneg_ok]
      exact (cherr_0 c1).1 y hy
    · refine rbad_no (fun c u hv => ?_)
      rw [e1, sat_neg]
      have := hb c u hv
      refine decide_eq_false ?_
      show ¬ (M36 < b c u + sat ls c u + -sat ls c u ∨ b c u + sat ls c u + -sat ls c u < -M36)
      omega
    · have q1 := of_decide_eq_true b1
      refine decide_eq_true ?_
      simp only [sau_neg]
      omega
  refine ⟨hp, ?_⟩
  rw [show pst (pst b ls) (ls.map Ln.neg) = fun c u => pst b ls c u + sat (ls.map Ln.neg) c u from if_pos hp, e1]
  funext c u
  rw [sat_neg]
  show b c u + sat ls c u + -sat ls c u = b c u
  omega
end Go.Proofs.YtlgcbbnnldlooaaDoor
