/- prod: ProdPlays: what stands while tiers that are not the catalogue's are written over. -/
import Derived.Test.YtgbphbeafomabaaHi
namespace Go.Proofs.Ytgbphbeafomabaa
open Go.RowKit Go.Shelf
set_option linter.unusedVariables false

/-- nothing changed, or only in block q of tiers -/
def Chg (q : Nat) (w w' : World) : Prop := w' = w ∨ (T36 w q ∧ Upd q w w')
theorem Chg.refl (q : Nat) (w : World) : Chg q w w := Or.inl rfl
/-- block q holds room for m tiers -/
def QB (w : World) (q m : Nat) : Prop := ∃ cs : Array Value, w.heap[q]? = some (Obj.cells cs 36 (0, 0)) ∧ 2 * m ≤ cs.size
theorem QB.t36 {w : World} {q m : Nat} (h : QB w q m) : T36 w q := by
  obtain ⟨cs, e, _⟩ := h
  exact ⟨cs, _, e⟩
theorem QB.lt {w : World} {q m : Nat} (h : QB w q m) : q < w.heap.size := by
  obtain ⟨cs, e, _⟩ := h
  exact (Array.getElem?_eq_some_iff.1 e).1
theorem QB.set {w : World} {q m i : Nat} (h : QB w q m) (u : Value) : QB (w.setCell ⟨q, i, none⟩ u) q m := by
  obtain ⟨cs, e, hs⟩ := h
  exact ⟨_, Go.heap_setCell_same w q i _ _ u e, by simpa using hs⟩
theorem QB.cell {w : World} {q m i : Nat} (h : QB w q m) (hi : i < 2 * m) : ∃ u, w.cell? ⟨q, i, none⟩ = some u := by
  obtain ⟨cs, e, hs⟩ := h
  rw [cell_of_row w q i cs 36 (0, 0) e]
  exact ⟨cs[i]'(by omega), Array.getElem?_eq_getElem (by omega)⟩
theorem QB.free {w : World} {q m : Nat} (h : QB w q m) (i : Nat) : w.frozen? ⟨q, i, none⟩ = false := by
  obtain ⟨cs, e, hs⟩ := h
  exact frozen_of_row w q i _ _ e
theorem QB.step {w w' : World} {q m : Nat} (h : QB w q m) (k : Below w.heap.size w w') : QB w' q m := by
  have hl := h.lt
  obtain ⟨cs, e, hs⟩ := h
  exact ⟨cs, (k.block q hl).trans e, hs⟩
theorem Chg.set {q i : Nat} {w w' : World} {m : Nat} (h : Chg q w w') (hq : QB w' q m) (u : Value) : Chg q w (w'.setCell ⟨q, i, none⟩ u) := by
  rcases h with rfl | ⟨t, k⟩
  · exact Or.inr ⟨hq.t36, upd_set _ _ _ _⟩
  · exact Or.inr ⟨t, k.trans (upd_set _ _ _ _)⟩
theorem VA.chg {w w' : World} {p q : Nat} {cs : List Value} {T : TypeId} (h : VA w p cs T) (k : Chg q w w') (hT : T ≠ 36) : VA w' p cs T := by
  rcases k with rfl | ⟨⟨ds, fr, e⟩, k⟩
  · exact h
  · refine h.upd k ?_
    rintro rfl
    rw [h.blk] at e
    injection e with e
    injection e with _ e
    exact hT e
theorem bel_chg {B q : Nat} {w0 w w' : World} (h : Below B w0 w) (k : Chg q w w') (hq : B ≤ q) : Below B w0 w' := by
  rcases k with rfl | ⟨_, k⟩
  · exact h
  · exact k.bel h hq
theorem Chg.size {q : Nat} {w w' : World} (k : Chg q w w') : w'.heap.size = w.heap.size := by
  rcases k with rfl | ⟨_, k⟩
  · rfl
  · exact k.size
theorem OwnT.chg {w w' : World} {B q : Nat} {v : Value} {ts : List (Int × Int)} (h : OwnT w B v ts) (k : Chg q w w') (hq : v.ownBlock ≠ some q) : OwnT w' B v ts := by
  rcases k with rfl | ⟨_, k⟩
  · exact h
  · exact h.upd' k hq
theorem OwnP.chg {w w' : World} {B q : Nat} {T : TypeId} {v : Value} {cs : List (PV × Value)} (h : OwnP w B T v cs) (k : Chg q w w') (hT : T ≠ 36) : OwnP w' B T v cs := by
  rcases k with rfl | ⟨⟨ds, fr, e⟩, k⟩
  · exact h
  · refine ⟨h.form, h.own.1, ?_⟩
    rcases h.own.2 with h2 | ⟨g, cap, cur, e1, hb, hg, r⟩
    · exact Or.inl h2
    · refine Or.inr ⟨g, cap, cur, e1, hb, (k.block g ?_).trans hg, r⟩
      rintro rfl
      rw [hg] at e
      injection e with e
      injection e with _ e
      exact hT e
theorem Ty.chg {w w' : World} {b q : Nat} (h : Ty w b) (k : Chg q w w') (hq : b ≠ q) : Ty w' b := by
  rcases k with rfl | ⟨_, k⟩
  · exact h
  · obtain ⟨cs, T, fr, e, r⟩ := h
    exact ⟨cs, T, fr, (k.block b hq).trans e, r⟩
/-- the catalogue and the document's list agree; their blocks are none of X -/
structure Agr (w : World) (p B : Nat) (dv : Value) (vs : List PV) (X : Nat → Prop) : Prop where
  cat : ∃ S, Cat w p B S vs ∧ ∀ b, S b → b < w.heap.size ∧ ¬ X b
  dl : ∃ S, Dl w S dv vs ∧ ∀ b, S b → Ty w b ∧ ¬ X b
  rise : Rise vs
theorem Agr.fresh {w : World} {p B : Nat} {dv : Value} {vs : List PV} {X Y : Nat → Prop} (h : Agr w p B dv vs X) (hY : ∀ b, Y b → w.heap.size ≤ b) : Agr w p B dv vs Y := by
  obtain ⟨⟨S, c, hS⟩, ⟨D, l, hD⟩, r⟩ := h
  exact ⟨⟨S, c, fun b hb => ⟨(hS b hb).1, fun hy => absurd (hY b hy) (by have := (hS b hb).1; omega)⟩⟩, ⟨D, l, fun b hb => ⟨(hD b hb).1, fun hy => absurd (hY b hy) (by have := (hD b hb).1.lt; omega)⟩⟩, r⟩
theorem Agr.step {w w' : World} {p B : Nat} {dv : Value} {vs : List PV} {X : Nat → Prop} (h : Agr w p B dv vs X) (k : Below w.heap.size w w') : Agr w' p B dv vs X := by
  obtain ⟨⟨S, c, hS⟩, ⟨D, l, hD⟩, r⟩ := h
  exact ⟨⟨S, c.step k, fun b hb => ⟨Nat.lt_of_lt_of_le (hS b hb).1 k.size, (hS b hb).2⟩⟩, ⟨D, l.step k, fun b hb => ⟨(hD b hb).1.step k, (hD b hb).2⟩⟩, r⟩
theorem Agr.chg {w w' : World} {p B q : Nat} {dv : Value} {vs : List PV} {X : Nat → Prop} (h : Agr w p B dv vs X) (k : Chg q w w') (hq : X q) : Agr w' p B dv vs X := by
  obtain ⟨⟨S, c, hS⟩, ⟨D, l, hD⟩, r⟩ := h
  have hz := k.size
  have k' := k
  rcases k with rfl | ⟨t, k⟩
  · exact ⟨⟨S, c, hS⟩, ⟨D, l, hD⟩, r⟩
  · refine ⟨⟨S, c.upd k (fun e => (hS q e).2 hq) t, fun b hb => ⟨by rw [hz]; exact (hS b hb).1, (hS b hb).2⟩⟩, ⟨D, l.upd k (fun e => (hD q e).2 hq), fun b hb => ⟨(hD b hb).1.chg k' (fun e => (hD q (e ▸ hb)).2 hq), (hD b hb).2⟩⟩, r⟩
/-- a version is added to both -/
theorem inv_next {w6 w7 w8 : World} {p B q : Nat} {S D : Nat → Prop} {dv v' : Value} {vs : List PV} {x : PV} (hq : q < w6.heap.size) (h67 : w6.heap.size ≤ w7.heap.size) (b8 : Below w7.heap.size w7 w8)
    (hc : (addE vs x = 0 ∧ Cat w7 p B (fun k => S k ∨ w6.heap.size ≤ k) (vs ++ [x])) ∨ (addE vs x ≠ 0 ∧ Cat w7 p B S vs)) (hS : ∀ b, S b → b < w6.heap.size ∧ ¬ b = q)
    (hl : Dl w7 D dv vs) (hD : ∀ b, D b → Ty w7 b ∧ ¬ b = q) (hr : Rise vs) (hf : ∀ y ∈ vs, y.day ≤ 3652059)
    (h1 : addE vs x ≠ 0 → v' = dv) (h2 : addE vs x = 0 → Dl w8 (fun b => D b ∨ (w7.heap.size ≤ b ∧ Ty w8 b)) v' (vs ++ [x])) : ∃ us, Agr w8 p B v' us (· = q) := by
  rcases hc with ⟨h0, c⟩ | ⟨h0, c⟩
  · refine ⟨vs ++ [x], ⟨_, (c.bound).step b8, fun b hb => ⟨Nat.lt_of_lt_of_le hb.2 b8.size, fun e => ?_⟩⟩, ⟨_, h2 h0, fun b hb => ?_⟩, ?_⟩
    · rcases hb.1 with h | h
      · exact (hS b h).2 e
      · omega
    · rcases hb with h | h
      · exact ⟨(hD b h).1.step b8, (hD b h).2⟩
      · exact ⟨h.2, fun e => by omega⟩
    · refine rise_snoc hr hf ?_
      unfold addE at h0
      by_cases e : chk x ≠ 0
      · rw [if_pos e] at h0
        exact absurd h0 e
      · rw [if_neg e] at h0
        by_cases e2 : fol vs x ≠ 0
        · rw [if_pos e2] at h0
          exact absurd h0 e2
        · exact Classical.not_not.1 e2
  · refine ⟨vs, ⟨S, c.step b8, fun b hb => ⟨by have := (hS b hb).1; have := b8.size; omega, (hS b hb).2⟩⟩, ⟨D, ?_, fun b hb => ⟨(hD b hb).1.step b8, (hD b hb).2⟩⟩, hr⟩
    rw [h1 h0]
    exact hl.step b8
theorem OwnT.qb {w : World} {B : Nat} {g n cap : Nat} {ts : List (Int × Int)} (h : OwnT w B (.slice (some ⟨g, 0, none⟩) n cap) ts) : QB w g ts.length := by
  rcases h.own.2 with ⟨e, _⟩ | ⟨q, cap, cur, e, hb, hg, hc, _, hs, _⟩
  · cases e
  · cases e
    exact ⟨cur, hg, by omega⟩
theorem QB.mono {w : World} {q m m' : Nat} (h : QB w q m) (hm : m' ≤ m) : QB w q m' := by
  obtain ⟨cs, e, hs⟩ := h
  exact ⟨cs, e, by omega⟩
theorem QB.there {w : World} {q m j : Nat} (h : QB w q m) (hj : j < m) : w.there q (j * 2) 2 := fun i hi => by
  obtain ⟨u, hu⟩ := h.cell (i := j * 2 + i) (by omega)
  exact ⟨by rw [hu]; rfl, h.free _⟩
theorem QB.set2 {w : World} {q m o : Nat} (h : QB w q m) (a b : Value) : QB (w.setCells q o [a, b]) q m := (h.set (i := o) a).set (i := o + 1) b
theorem Chg.set2 {q o : Nat} {w w' : World} {m : Nat} (h : Chg q w w') (hq : QB w' q m) (a b : Value) : Chg q w (w'.setCells q o [a, b]) := (h.set (i := o) hq a).set (i := o + 1) (hq.set a) b
theorem infoT2 : (Try.prog.info? 36).map (·.size) = some 2 := by kernel_rfl
/-- tiers of the call's own, to be written over: the block, if there are any, and one that is nobody's, if not -/
theorem OwnT.tw {w : World} {B : Nat} {v : Value} {ts : List (Int × Int)} (h : OwnT w B v ts) (hB : B ≤ w.heap.size) : ∃ a c g, v = .slice a ts.length c ∧ ts.length ≤ c ∧ c ≤ 9223372036854775807 ∧ B ≤ g ∧ (v.ownBlock = some g ∨ w.heap.size ≤ g) ∧ (0 < ts.length → a = some ⟨g, 0, none⟩ ∧ QB w g ts.length) := by
  rcases h.own.2 with ⟨rfl, h0⟩ | ⟨q, cap, cur, rfl, hb, hg, hc, hm, hs, _⟩
  · exact ⟨none, 0, w.heap.size, by rw [h0], by omega, by omega, hB, Or.inr (Nat.le_refl _), fun h => by omega⟩
  · exact ⟨_, cap, q, rfl, hc, by unfold maxLen at hm; omega, hb, Or.inl rfl, fun _ => ⟨rfl, cur, hg, by omega⟩⟩
theorem OwnP.at {w : World} {B : Nat} {T : TypeId} {a : Option Addr} {n c : Nat} {cs : List (PV × Value)} (h : OwnP w B T (.slice a n c) cs) (k : Nat) (hk : k < n) : ∃ b, a = some ⟨b, 0, none⟩ ∧ ∃ hk : k < cs.length, ∀ j u, (cs[k].1.cells cs[k].2)[j]? = some u → w.cell? ⟨b, k * 9 + j, none⟩ = some u := by
  have ho := h.own
  rcases h.own.2 with ⟨e, h0⟩ | ⟨g, cap, cur, e, hb, hg, _⟩
  · cases e
    omega
  · cases e
    refine ⟨g, rfl, hk, fun j u hj => ?_⟩
    have hj9 : j < 9 := by
      have := (List.getElem?_eq_some_iff.1 hj).1
      simpa [PV.len] using this
    rw [ho.cellAt (k * 9 + j) (by omega)]
    exact pcs_get cs k hk j u hj
/-- what At and DocAt answer, in one -/
def AtS (vs : List PV) (id day : Int) (z : PV) (er : Int) : Prop :=
  (wi day 1 3652059 = false ∧ z = zeroV ∧ er = 1) ∨ (wi day 1 3652059 = true ∧ hold vs id day = none ∧ z = zeroV ∧ er = 7) ∨ (wi day 1 3652059 = true ∧ hold vs id day = some z ∧ er = 0)
theorem atS_of {w : World} {B : Nat} {vs : List PV} {id day : Int} {e : Ending} (h : AtAns w B vs id day e) : ∃ z tv er, e = .returned (.tuple #[.agg (z.cells tv).toArray, .int .i64 er]) ∧ OwnT w B tv z.ts ∧ AtS vs id day z er := by
  rcases h with ⟨h, rfl⟩ | ⟨h, h2, rfl⟩ | ⟨h, x, v, _, h2, rfl, o⟩
  · exact ⟨zeroV, _, 1, rfl, ownT_nil _ _, Or.inl ⟨h, rfl, rfl⟩⟩
  · exact ⟨zeroV, _, 7, rfl, ownT_nil _ _, Or.inr (Or.inl ⟨h, h2, rfl, rfl⟩)⟩
  · exact ⟨x, v, 0, rfl, o, Or.inr (Or.inr ⟨h, h2, rfl⟩)⟩
theorem atS_doc {w : World} {S : Nat → Prop} {vs : List PV} {id day er : Int} {z : PV} {e : Ending} (h : DAns w S vs id day e) (k : AtS vs id day z er) : ∃ tv, e = .returned (.tuple #[.agg (z.cells tv).toArray, .int .i64 er]) ∧ Tr w tv z.ts := by
  rcases h with ⟨h, rfl⟩ | ⟨h, h2, rfl⟩ | ⟨h, x, v, h2, rfl, o, _⟩
  · rcases k with ⟨_, rfl, rfl⟩ | ⟨g, _⟩ | ⟨g, _⟩
    · exact ⟨_, rfl, tr_nil _⟩
    · rw [h] at g; cases g
    · rw [h] at g; cases g
  · rcases k with ⟨g, _⟩ | ⟨_, _, rfl, rfl⟩ | ⟨_, g, _⟩
    · rw [h] at g; cases g
    · exact ⟨_, rfl, tr_nil _⟩
    · rw [h2] at g; cases g
  · rcases k with ⟨g, _⟩ | ⟨_, g, _⟩ | ⟨_, g, rfl⟩
    · rw [h] at g; cases g
    · rw [h2] at g; cases g
    · rw [h2] at g
      cases g
      exact ⟨v, rfl, o⟩
theorem fine_day {x : PV} (h : chk x = 0) : x.day ≤ 3652059 := by
  have : x.inr = true := by
    unfold chk at h
    split at h
    · assumption
    · cases h
  unfold PV.inr at this
  simp [wi] at this
  omega
end Go.Proofs.Ytgbphbeafomabaa
