/- A law for a region that draws its order: quiet operations, one new variable, and one store into it, in whichever order. No program in this text. -/
import Derived.Test.YtbgglghapjfdeaaDoorEy
namespace Go.Proofs.YtbgglghapjfdeaaDoor
open Go.RowKit
set_option linter.unusedVariables false

/-- The new variable: not yet made, made, written. -/
abbrev St := Option (Bool × Nat)

section
variable {P : Program} {ops : Array Oper} {md : Region.Mode} {w0 : World} {O1 O2 : Obj}

theorem Later.keep {w w' : World} {b : Nat} {o : Obj} (h : Later w w') (hb : w.heap[b]? = some o) : w'.heap[b]? = some o := by
  rw [h.block b (Array.getElem?_eq_some_iff.1 hb).1]; exact hb

def Knows (w0 : World) (O1 O2 : Obj) : St → World → Prop
  | none, w => Later w0 w
  | some (false, b), w => Later w0 w ∧ w0.heap.size ≤ b ∧ w.heap[b]? = some O1
  | some (true, b), w => Later w0 w ∧ w0.heap.size ≤ b ∧ w.heap[b]? = some O2
theorem Knows.later {w : World} : ∀ {s : St}, Knows w0 O1 O2 s w → Later w0 w
  | none, h => h
  | some (false, _), h => h.1
  | some (true, _), h => h.1
theorem Knows.step {w w' : World} (k : Later w w') : ∀ {s : St}, Knows w0 O1 O2 s w → Knows w0 O1 O2 s w'
  | none, h => Later.trans h k
  | some (false, _), h => ⟨h.1.trans k, h.2.1, k.keep h.2.2⟩
  | some (true, _), h => ⟨h.1.trans k, h.2.1, k.keep h.2.2⟩

/-- The operation writes the new variable, and nothing else. -/
def Puts (P : Program) (ops : Array Oper) (w0 : World) (O1 O2 : Obj) (o : Oper) (b : Nat) (a : Act) : Prop :=
  Region.wanted o (yielded ops a.tmps) = true ∧ o.dst = none ∧ ∀ w, Later w0 w → w.heap[b]? = some O1 → ∃ w', (execOp a.eval o).run P w = .ok .skip w' ∧ Later w0 w' ∧ w'.heap[b]? = some O2
theorem Puts.of_same {o : Oper} {b : Nat} {a a' : Act} (hy : Puts P ops w0 O1 O2 o b a) (he : execOp a'.eval o = execOp a.eval o)
    (hw : Region.wanted o (yielded ops a'.tmps) = Region.wanted o (yielded ops a.tmps)) : Puts P ops w0 O1 O2 o b a' := by
  unfold Puts at *
  rw [he, hw]
  exact hy

def anyS (P : Program) (md : Region.Mode) (ops : Array Oper) (w0 : World) (O1 O2 : Obj) (i1 i2 : Nat) (L : Array Bool → Act → St → Prop) : Nat → Array Bool → Act → St → Prop
  | 0, listed, a, s => L listed a s
  | f + 1, listed, a, s =>
    Region.ready md ops listed ≠ [] ∧ ∀ i ∈ Region.ready md ops listed, ∃ o, ops[i]? = some o ∧
      ((i ≠ i1 ∧ i ≠ i2 ∧ ∃ v, Gives P ops w0 o v a ∧ anyS P md ops w0 O1 O2 i1 i2 L f (listed.setIfInBounds i true) (a.put o.dst v) s) ∨
       (i = i1 ∧ s = none ∧ Makes P ops o O1 ∧ ∀ b, w0.heap.size ≤ b → anyS P md ops w0 O1 O2 i1 i2 L f (listed.setIfInBounds i true) (a.put o.dst (.pointer (some ⟨b, 0, none⟩))) (some (false, b))) ∨
       (i = i2 ∧ ∃ b, s = some (false, b) ∧ Puts P ops w0 O1 O2 o b a ∧ anyS P md ops w0 O1 O2 i1 i2 L f (listed.setIfInBounds i true) a (some (true, b))))

theorem wpAny_of_anyS {i1 i2 g : Nat} {L : Array Bool → Act → St → Prop} {Q' : Exit → Act → World → Prop} (hL : ∀ listed a s w, Knows w0 O1 O2 s w → L listed a s → wpAny P md ops Q' g listed a w) :
    ∀ (f : Nat) (listed : Array Bool) (a : Act) (s : St) (w : World), Knows w0 O1 O2 s w → anyS P md ops w0 O1 O2 i1 i2 L f listed a s → wpAny P md ops Q' (f + g) listed a w
  | 0, listed, a, s, w, hw, h => by rw [Nat.zero_add]; exact hL _ _ _ _ hw h
  | f + 1, listed, a, s, w, hw, h => by
    rw [show f + 1 + g = (f + g) + 1 by omega]
    refine ⟨fun h0 => absurd h0 h.1, fun i hi => ?_⟩
    obtain ⟨o, ho, hcase⟩ := h.2 i hi
    rcases hcase with ⟨_, _, v, hy, hK⟩ | ⟨_, rfl, hM, hK⟩ | ⟨_, b, rfl, hP, hK⟩
    · exact wpOp_of_gives ho hw.later hy fun w' hw' => wpAny_of_anyS hL f _ _ _ w' (Knows.step hw' hw) hK
    · unfold wpOp
      simp only [ho]
      obtain ⟨hwa, hrun⟩ := hM a w
      simp only [hwa, if_true]
      refine .inl ?_
      unfold Oper.wp
      rw [hrun]
      simp only [Oper.upon]
      refine wpAny_of_anyS hL f _ _ _ _ ?_ (hK w.heap.size hw.later.size)
      have k : Later w (w.alloc O1) := (Below.refl _ _).alloc (Nat.le_refl _) O1
      exact ⟨hw.later.trans k, hw.later.size, by show (w.heap.push O1)[w.heap.size]? = _; simp⟩
    · unfold wpOp
      simp only [ho]
      obtain ⟨hwa, hd, hrun⟩ := hP
      obtain ⟨w', hr, hl, hb⟩ := hrun w hw.1 hw.2.2
      simp only [hwa, if_true]
      refine .inl ?_
      unfold Oper.wp
      rw [hr]
      simp only [Oper.upon]
      have ea : a.put o.dst undef = a := by rw [hd]; rfl
      rw [ea]
      exact wpAny_of_anyS hL f _ _ _ _ (show Knows w0 O1 O2 (some (true, b)) w' from ⟨hl, hw.2.1, hb⟩) hK

theorem anyS_first {i i1 i2 : Nat} {oi : Oper} {v : Value} {L : Array Bool → Act → St → Prop} (hi : ops[i]? = some oi) (h1 : i ≠ i1) (h2 : i ≠ i2) (hsel : ∀ (j : Nat) (o : Oper) cs b, ops[j]? = some o → o.op ≠ .select cs b)
    (hdone : ∀ listed a s, L listed a s → Region.ready md ops listed = []) :
    ∀ (f : Nat) (listed : Array Bool) (a : Act) (s : St),
      (∀ j oj, ops[j]? = some oj → j ≠ i → listed.getD j true = false → (∀ e ∈ oj.after, Region.binds md e = true → e.on ≠ i) → oi.apart ops oj = true) →
      i ∈ Region.ready md ops listed → Gives P ops w0 oi v a →
      anyS P md ops w0 O1 O2 i1 i2 L f (listed.setIfInBounds i true) (a.put oi.dst v) s → anyS P md ops w0 O1 O2 i1 i2 L (f + 1) listed a s := by
  intro f
  induction f with
  | zero =>
    intro listed a s _ hr hy H
    refine ⟨fun h => (by rw [h] at hr; cases hr), fun j hj => ?_⟩
    by_cases hji : j = i
    · subst hji; exact ⟨oi, hi, Or.inl ⟨h1, h2, v, hy, H⟩⟩
    · have := ready_mono hj hji
      rw [hdone _ _ _ H] at this
      cases this
  | succ f ih =>
    intro listed a s hfree hr hy H
    have hun := (mem_ready.1 hr).1
    refine ⟨fun h => (by rw [h] at hr; cases hr), fun j hj => ?_⟩
    by_cases hji : j = i
    · subst hji; exact ⟨oi, hi, Or.inl ⟨h1, h2, v, hy, H⟩⟩
    · obtain ⟨hjun, oj, hoj, hall⟩ := mem_ready.1 hj
      have hnot : ∀ e ∈ oj.after, Region.binds md e = true → e.on ≠ i := fun e he hb heq => by
        have h1 := hall e he hb
        rw [heq, getD_both hun] at h1
        cases h1
      have hap := hfree j oj hoj hji hjun hnot
      obtain ⟨a1, a2, a3⟩ := Oper.apart_spec hap
      have hsi := fun cs b => hsel i oi cs b hi
      have hsj := fun cs b => hsel j oj cs b hoj
      have keep : ∀ u, Gives P ops w0 oi v (a.put oj.dst u) := fun u => hy.of_same (execOp_put oi hsi a oj.dst u a3) (wanted_put oi a oj.dst u a3)
      have hfree' : ∀ k ok, ops[k]? = some ok → k ≠ i → (listed.setIfInBounds j true).getD k true = false →
          (∀ e ∈ ok.after, Region.binds md e = true → e.on ≠ i) → oi.apart ops ok = true := fun k ok hk hki hun' hno => by
        refine hfree k ok hk hki ?_ hno
        by_cases hjk : j = k
        · subst hjk; exact hjun
        · rw [getD_set_ne true hjk] at hun'; exact hun'
      obtain ⟨o', ho', hcase⟩ := H.2 j (ready_mono hj hji)
      have : o' = oj := Option.some.inj (ho'.symm.trans hoj)
      subst this
      refine ⟨o', hoj, ?_⟩
      rcases hcase with ⟨n1, n2, u, hu, hK⟩ | ⟨e1, e2, hM, hK⟩ | ⟨e1, b, e2, hP, hK⟩
      · refine Or.inl ⟨n1, n2, u, hu.of_same (execOp_put o' hsj a oi.dst v a1).symm (wanted_put o' a oi.dst v a1).symm, ?_⟩
        refine ih (listed.setIfInBounds j true) _ s hfree' (ready_mono hr (Ne.symm hji)) (keep u) ?_
        rw [Array.setIfInBounds_comm _ _ hji, ← Act.put_comm a v u a2]
        exact hK
      · refine Or.inr (Or.inl ⟨e1, e2, hM, fun b hb => ?_⟩)
        refine ih (listed.setIfInBounds j true) _ _ hfree' (ready_mono hr (Ne.symm hji)) (keep _) ?_
        rw [Array.setIfInBounds_comm _ _ hji, ← Act.put_comm a v _ a2]
        exact hK b hb
      · refine Or.inr (Or.inr ⟨e1, b, e2, hP.of_same (execOp_put o' hsj a oi.dst v a1).symm (wanted_put o' a oi.dst v a1).symm, ?_⟩)
        refine ih (listed.setIfInBounds j true) _ _ hfree' (ready_mono hr (Ne.symm hji)) hy ?_
        rw [Array.setIfInBounds_comm _ _ hji]
        exact hK

def lexS (md : Region.Mode) (ops : Array Oper) (i1 i2 : Nat) : List Nat → Array Bool → Option (Array Bool)
  | [], listed => some listed
  | k :: ks, listed => if decide (k ≠ i1) && decide (k ≠ i2) && (Region.ready md ops listed).contains k && Region.free md ops listed k then lexS md ops i1 i2 ks (listed.setIfInBounds k true) else none

theorem anyS_lex {i1 i2 : Nat} {L : Array Bool → Act → St → Prop} {g : Nat} {R : Act → Prop} {done : Array Bool} {s : St} (hsel : Region.noSelect ops = true)
    (hdone : ∀ listed a s, L listed a s → Region.ready md ops listed = []) (hR : ∀ a, R a → anyS P md ops w0 O1 O2 i1 i2 L g done a s) :
    ∀ (idx : List Nat) (l : List Oper) (listed : Array Bool) (a : Act), idx.map (ops[·]?) = l.map some →
    lexS md ops i1 i2 idx listed = some done → wpG P ops w0 R l a → anyS P md ops w0 O1 O2 i1 i2 L (idx.length + g) listed a s
  | [], [], listed, a, _, hB, h => by
    simp only [lexS, Option.some.injEq] at hB
    subst hB
    simpa using hR a h
  | k :: ks, o :: l, listed, a, hl, hB, h => by
    simp only [List.map_cons, List.cons.injEq] at hl
    simp only [lexS] at hB
    split at hB
    · rename_i hcond
      simp only [Bool.and_eq_true, decide_eq_true_eq] at hcond
      obtain ⟨⟨⟨hk1, hk2⟩, hr⟩, hf⟩ := hcond
      have h0 : ops[k]? = some o := hl.1
      have hr' : k ∈ Region.ready md ops listed := by simpa using hr
      obtain ⟨v, hy, hK⟩ := h
      have := anyS_first h0 hk1 hk2 (Region.noSelect_spec hsel) hdone (ks.length + g) listed a s (Region.free_spec h0 hf) hr' hy
        (anyS_lex hsel hdone hR ks l _ _ hl.2 hB hK)
      simpa [Nat.add_right_comm, Nat.add_assoc, Nat.add_comm 1] using this
    · cases hB
  | [], _ :: _, _, _, hl, _, _ => by simp at hl
  | _ :: _, [], _, _, hl, _, _ => by simp at hl

/-- THE LAW. -/
theorem wp_region_def {id : Nat} {Q : Exit → Act → World → Prop} {a : Act} {w : World} {l : List Oper} {done all : Array Bool} (idx idx2 : List Nat) (i1 i2 : Nat) (o1 o2 : Oper) (O1 O2 : Obj) (hm : P.follows .mixedOrders = true)
    (hsel : Region.noSelect l.toArray = true) (hX : lexS .any l.toArray i1 i2 idx (Array.replicate l.toArray.size false) = some done) (hX2 : lexS .any l.toArray i1 i2 idx2 ((done.setIfInBounds i1 true).setIfInBounds i2 true) = some all)
    (hi1 : l.toArray[i1]? = some o1) (hi2 : l.toArray[i2]? = some o2) (hM : Makes P l.toArray o1 O1)
    (hE : (decide (Region.ready .any l.toArray done = [i1]) && decide (Region.ready .any l.toArray (done.setIfInBounds i1 true) = [i2]) && decide (Region.ready .any l.toArray all = []) && decide (idx.length + idx2.length + 2 = l.length)) = true)
    (hidx : (idx.all fun i => decide (i < l.length)) = true) (hidx2 : (idx2.all fun i => decide (i < l.length)) = true)
    (h : wpG P l.toArray w (fun a' => ∀ b, w.heap.size ≤ b → Puts P l.toArray w O1 O2 o2 b (a'.put o1.dst (.pointer (some ⟨b, 0, none⟩))) ∧
      wpG P l.toArray w (fun a'' => ∀ w', Later w w' → w'.heap[b]? = some O2 → Q .normal a'' w') (idx2.filterMap fun i => l[i]?) (a'.put o1.dst (.pointer (some ⟨b, 0, none⟩)))) (idx.filterMap fun i => l[i]?) a) :
    (Code.region id l.toArray true).wp P Q a w := by
  simp only [Bool.and_eq_true, decide_eq_true_eq] at hE
  obtain ⟨⟨⟨hE1, hE2⟩, hE3⟩, hE4⟩ := hE
  let L : Array Bool → Act → St → Prop := fun listed' a' s => Region.ready .any l.toArray listed' = [] ∧ ∀ w', Knows w O1 O2 s w' → Q .normal a' w'
  have hLd : ∀ listed a s, L listed a s → Region.ready .any l.toArray listed = [] := fun _ _ _ h => h.1
  have H := anyS_lex (md := .any) (L := L) (w0 := w) (O1 := O1) (O2 := O2) (s := none) (g := idx2.length + 0 + 1 + 1) (done := done) hsel hLd
    (fun a' ha' => by
      refine ⟨by rw [hE1]; simp, fun i hi => ?_⟩
      rw [hE1] at hi
      obtain rfl : i = i1 := by simpa using hi
      refine ⟨o1, hi1, Or.inr (Or.inl ⟨rfl, rfl, hM, fun b hb => ?_⟩)⟩
      obtain ⟨hP, hG⟩ := ha' b hb
      refine ⟨by rw [hE2]; simp, fun j hj => ?_⟩
      rw [hE2] at hj
      obtain rfl : j = i2 := by simpa using hj
      refine ⟨o2, hi2, Or.inr (Or.inr ⟨rfl, b, rfl, hP, ?_⟩)⟩
      exact anyS_lex (md := .any) (L := L) (w0 := w) (O1 := O1) (O2 := O2) (s := some (true, b)) (g := 0) (done := all) hsel hLd
        (fun a'' ha'' => ⟨hE3, fun w' hw' => ha'' w' hw'.1 hw'.2.2⟩) idx2 _ _ _ (idx_ok l idx2 hidx2) hX2 hG) idx _ _ a (idx_ok l idx hidx) hX h
  refine wp_region_any hm ?_
  have := wpAny_of_anyS (Q' := Q) (g := 0) (L := L) (fun listed' a' s w' hw' hL => ⟨hL.1, hL.2 w' hw'⟩) _ _ _ none { w with drawn := w.drawn + 1 } (later_drawn w) H
  rw [show idx.length + (idx2.length + 0 + 1 + 1) + 0 = l.toArray.size by simp; omega] at this
  exact this
end
end Go.Proofs.YtbgglghapjfdeaaDoor
