/- A law for a region that draws its order: operations that yield one value in every later world, new variables made at any time among them, and a chain of stores behind. No program in this text. -/
import Derived.Test.YtbgglghapjfdeaaDoorM6
namespace Go.Proofs.YtbgglghapjfdeaaDoor
open Go.RowKit
set_option linter.unusedVariables false

/-- w' is w with more behind it. -/
def Later (w w' : World) : Prop := Below w.heap.size w w'
theorem Later.refl (w : World) : Later w w := Below.refl _ _
theorem Later.trans {a b c : World} (h : Later a b) (k : Later b c) : Later a c := Below.trans h (Below.mono k h.size)

section
variable {P : Program} {ops : Array Oper} {md : Region.Mode} {w0 : World}

/-- In state a, in every later world, the operation leaves v, and a later world. -/
def Gives (P : Program) (ops : Array Oper) (w0 : World) (o : Oper) (v : Value) (a : Act) : Prop :=
  (Region.wanted o (yielded ops a.tmps) = true ∧ ∀ w, Later w0 w → Oper.quietUpon P (Later w) w v ((execOp a.eval o).run P w)) ∨
  (Region.wanted o (yielded ops a.tmps) = false ∧ v = undef)
/-- The operation makes a new variable. -/
def Makes (P : Program) (ops : Array Oper) (o : Oper) (O : Obj) : Prop :=
  ∀ (a : Act) (w : World), Region.wanted o (yielded ops a.tmps) = true ∧ (execOp a.eval o).run P w = .ok (.value (.pointer (some ⟨w.heap.size, 0, none⟩))) (w.alloc O)
theorem Gives.of_same {o : Oper} {v : Value} {a a' : Act} (hy : Gives P ops w0 o v a) (he : execOp a'.eval o = execOp a.eval o)
    (hw : Region.wanted o (yielded ops a'.tmps) = Region.wanted o (yielded ops a.tmps)) : Gives P ops w0 o v a' := by
  unfold Gives at *
  rw [he, hw]
  exact hy

/-- Later than w0, and the listed blocks are there, each another. -/
structure Has (w0 : World) (Bs : List (Nat × Obj)) (w : World) : Prop where
  later : Later w0 w
  blk : ∀ x ∈ Bs, w0.heap.size ≤ x.1 ∧ w.heap[x.1]? = some x.2
theorem Has.step {Bs : List (Nat × Obj)} {w w' : World} (h : Has w0 Bs w) (k : Later w w') : Has w0 Bs w' :=
  ⟨h.later.trans k, fun x hx => ⟨(h.blk x hx).1, by
    have := (h.blk x hx).2
    rw [k.block x.1 (Array.getElem?_eq_some_iff.1 this).1]; exact this⟩⟩
theorem Has.make {Bs : List (Nat × Obj)} {w : World} (h : Has w0 Bs w) (O : Obj) : Has w0 ((w.heap.size, O) :: Bs) (w.alloc O) := by
  have k : Later w (w.alloc O) := (Below.refl _ _).alloc (Nat.le_refl _) O
  have h' := h.step k
  refine ⟨h'.later, fun x hx => ?_⟩
  rcases List.mem_cons.1 hx with rfl | hx
  · exact ⟨h.later.size, by show (w.heap.push O)[w.heap.size]? = _; simp⟩
  · exact h'.blk x hx

/-- Whatever order is picked: 'al' tells which operations make variables. -/
def anyH (P : Program) (md : Region.Mode) (ops : Array Oper) (w0 : World) (n : Nat) (al : Nat → Option Obj) (L : Array Bool → Act → List (Nat × Obj) → Prop) : Nat → Array Bool → Act → List (Nat × Obj) → Prop
  | 0, listed, a, Bs => L listed a Bs
  | f + 1, listed, a, Bs =>
    Region.ready md ops listed ≠ [] ∧ ∀ i ∈ Region.ready md ops listed, i < n ∧ ∃ o, ops[i]? = some o ∧
      ((al i = none ∧ ∃ v, Gives P ops w0 o v a ∧ anyH P md ops w0 n al L f (listed.setIfInBounds i true) (a.put o.dst v) Bs) ∨
       (∃ O, al i = some O ∧ Makes P ops o O ∧ ∀ b, (∀ x ∈ Bs, x.1 ≠ b) → anyH P md ops w0 n al L f (listed.setIfInBounds i true) (a.put o.dst (.pointer (some ⟨b, 0, none⟩))) ((b, O) :: Bs)))

theorem wpOp_of_gives {i : Nat} {o : Oper} {v : Value} {a : Act} {w : World} {K : Act → World → Prop} {Q' : Exit → Act → World → Prop} (hi : ops[i]? = some o) (hw : Later w0 w) (hy : Gives P ops w0 o v a)
    (h : ∀ w', Later w w' → K (a.put o.dst v) w') : wpOp P ops Q' i K a w := by
  unfold wpOp
  simp only [hi]
  rcases hy with ⟨hwa, hv⟩ | ⟨hwa, rfl⟩
  · simp only [hwa, if_true]
    refine .inl ?_
    have h3 := hv w hw
    unfold Oper.wp
    generalize (execOp a.eval o).run P w = r at *
    cases r with
    | ok n w' =>
      cases n <;> simp only [Oper.quietUpon] at h3 <;> simp only [Oper.upon]
      case value u =>
        obtain ⟨e1, e2⟩ := h3
        rw [e1, e2]
        exact h _ (Later.refl _)
      case skip =>
        obtain ⟨e1, e2⟩ := h3
        rw [e1, ← e2]
        exact h _ (Later.refl _)
      case enter f args =>
        obtain ⟨e1, hc⟩ := h3
        rw [e1]
        exact hc.mono fun e w'' ⟨he, hw''⟩ => by subst he; exact h _ hw''
    | halt x w' => simp only [Oper.quietUpon] at h3
  · simp only [hwa, Bool.false_eq_true, if_false]; exact h _ (Later.refl _)

theorem wpAny_of_anyH {n g : Nat} {al : Nat → Option Obj} {L : Array Bool → Act → List (Nat × Obj) → Prop} {Q' : Exit → Act → World → Prop} (hL : ∀ listed a Bs w, Has w0 Bs w → L listed a Bs → wpAny P md ops Q' g listed a w) :
    ∀ (f : Nat) (listed : Array Bool) (a : Act) (Bs : List (Nat × Obj)) (w : World), Has w0 Bs w → anyH P md ops w0 n al L f listed a Bs → wpAny P md ops Q' (f + g) listed a w
  | 0, listed, a, Bs, w, hw, h => by rw [Nat.zero_add]; exact hL _ _ _ _ hw h
  | f + 1, listed, a, Bs, w, hw, h => by
    rw [show f + 1 + g = (f + g) + 1 by omega]
    refine ⟨fun h0 => absurd h0 h.1, fun i hi => ?_⟩
    obtain ⟨hin, o, ho, hcase⟩ := h.2 i hi
    rcases hcase with ⟨_, v, hy, hK⟩ | ⟨O, _, hM, hK⟩
    · exact wpOp_of_gives ho hw.later hy fun w' hw' => wpAny_of_anyH hL f _ _ _ w' (hw.step hw') hK
    · unfold wpOp
      simp only [ho]
      obtain ⟨hwa, hrun⟩ := hM a w
      simp only [hwa, if_true]
      refine .inl ?_
      unfold Oper.wp
      rw [hrun]
      simp only [Oper.upon]
      refine wpAny_of_anyH hL f _ _ _ _ (hw.make O) (hK _ fun x hx e => ?_)
      have := (hw.blk x hx).2
      rw [e] at this
      simp at this

/-- A quiet operation that may come up now may be taken first. -/
theorem anyH_first {n i : Nat} {pre : List Nat} {oi : Oper} {v : Value} {al : Nat → Option Obj} {L : Array Bool → Act → List (Nat × Obj) → Prop} (hi : ops[i]? = some oi) (hal : al i = none) (hsel : ∀ (j : Nat) (o : Oper) cs b, ops[j]? = some o → o.op ≠ .select cs b)
    (hs : sinkB md ops n pre = true) (hc : Region.chainB md ops n = true) (hn : n < ops.size) (hin : i < n)
    (hdone : ∀ listed a Bs, L listed a Bs → ∀ j ∈ Region.ready md ops listed, n ≤ j) :
    ∀ (f : Nat) (listed : Array Bool) (a : Act) (Bs : List (Nat × Obj)), Inv md ops n pre listed →
      (∀ j oj, ops[j]? = some oj → j ≠ i → listed.getD j true = false → (∀ e ∈ oj.after, Region.binds md e = true → e.on ≠ i) → oi.apart ops oj = true) →
      i ∈ Region.ready md ops listed → Gives P ops w0 oi v a →
      anyH P md ops w0 n al L f (listed.setIfInBounds i true) (a.put oi.dst v) Bs → anyH P md ops w0 n al L (f + 1) listed a Bs := by
  intro f
  induction f with
  | zero =>
    intro listed a Bs inv _ hr hy H
    have hun := (mem_ready.1 hr).1
    have hjn : ∀ j ∈ Region.ready md ops listed, j < n := fun j hj =>
      (Nat.lt_or_ge j n).elim id fun h => absurd hj (tail_waits' hs hc hn inv _ i rfl hin hun j h)
    refine ⟨fun h => (by rw [h] at hr; cases hr), fun j hj => ⟨hjn j hj, ?_⟩⟩
    by_cases hji : j = i
    · subst hji; exact ⟨oi, hi, Or.inl ⟨hal, v, hy, H⟩⟩
    · have := hdone _ _ _ H j (ready_mono hj hji)
      have := hjn j hj
      omega
  | succ f ih =>
    intro listed a Bs inv hfree hr hy H
    have hun := (mem_ready.1 hr).1
    refine ⟨fun h => (by rw [h] at hr; cases hr), fun j hj => ?_⟩
    have hjn : j < n := (Nat.lt_or_ge j n).elim id fun h => absurd hj (tail_waits' hs hc hn inv _ i rfl hin hun j h)
    refine ⟨hjn, ?_⟩
    by_cases hji : j = i
    · subst hji; exact ⟨oi, hi, Or.inl ⟨hal, v, hy, H⟩⟩
    · obtain ⟨hjun, oj, hoj, hall⟩ := mem_ready.1 hj
      have hnot : ∀ e ∈ oj.after, Region.binds md e = true → e.on ≠ i := fun e he hb heq => by
        have h1 := hall e he hb
        rw [heq, getD_both hun] at h1
        cases h1
      have hap := hfree j oj hoj hji hjun hnot
      obtain ⟨a1, a2, a3⟩ := Oper.apart_spec hap
      have hsi := fun cs b => hsel i oi cs b hi
      have hsj := fun cs b => hsel j oj cs b hoj
      have keep : ∀ u, Gives P ops w0 oi v (a.put oj.dst u) := fun u => hy.of_same (execOp_put oi hsi a oj.dst u a3) (wanted_put oi a oj.dst u a3)
      have hfree' : ∀ k ok, ops[k]? = some ok → k ≠ i → (listed.setIfInBounds j true).getD k true = false →
          (∀ e ∈ ok.after, Region.binds md e = true → e.on ≠ i) → oi.apart ops ok = true := fun k ok hk hki hun' hno => by
        refine hfree k ok hk hki ?_ hno
        by_cases hjk : j = k
        · subst hjk; exact hjun
        · rw [getD_set_ne true hjk] at hun'; exact hun'
      obtain ⟨_, o', ho', hcase⟩ := H.2 j (ready_mono hj hji)
      have : o' = oj := Option.some.inj (ho'.symm.trans hoj)
      subst this
      refine ⟨o', hoj, ?_⟩
      rcases hcase with ⟨hnone, u, hu, hK⟩ | ⟨O, hO, hM, hK⟩
      · refine Or.inl ⟨hnone, u, hu.of_same (execOp_put o' hsj a oi.dst v a1).symm (wanted_put o' a oi.dst v a1).symm, ?_⟩
        refine ih (listed.setIfInBounds j true) _ Bs (inv.set hj hjn) hfree' (ready_mono hr (Ne.symm hji)) (keep u) ?_
        rw [Array.setIfInBounds_comm _ _ hji, ← Act.put_comm a v u a2]
        exact hK
      · refine Or.inr ⟨O, hO, hM, fun b hb => ?_⟩
        refine ih (listed.setIfInBounds j true) _ _ (inv.set hj hjn) hfree' (ready_mono hr (Ne.symm hji)) (keep _) ?_
        rw [Array.setIfInBounds_comm _ _ hji, ← Act.put_comm a v _ a2]
        exact hK b hb

/-- The walk in the text's order. -/
def wpG (P : Program) (ops : Array Oper) (w0 : World) (Q : Act → Prop) : List Oper → Act → Prop
  | [], a => Q a
  | o :: rest, a => ∃ v, Gives P ops w0 o v a ∧ wpG P ops w0 Q rest (a.put o.dst v)

/-- The order of the quiet ones is right; what is left is as told. -/
def lexG (md : Region.Mode) (ops : Array Oper) (n : Nat) (al : List Nat) : List Nat → Array Bool → Option (Array Bool)
  | [], listed => some listed
  | k :: ks, listed => if decide (k < n) && !al.contains k && (Region.ready md ops listed).contains k && Region.free md ops listed k then lexG md ops n al ks (listed.setIfInBounds k true) else none

theorem anyH_lex {n : Nat} {pre als : List Nat} {al : Nat → Option Obj} {L : Array Bool → Act → List (Nat × Obj) → Prop} {g : Nat} {R : Act → Prop} {done : Array Bool} (hals : ∀ k, als.contains k = false → al k = none) (hsel : Region.noSelect ops = true) (hs : sinkB md ops n pre = true) (hc : Region.chainB md ops n = true) (hn : n < ops.size)
    (hdone : ∀ listed a Bs, L listed a Bs → ∀ j ∈ Region.ready md ops listed, n ≤ j) (hR : ∀ a, R a → anyH P md ops w0 n al L g done a []) :
    ∀ (idx : List Nat) (l : List Oper) (listed : Array Bool) (a : Act), idx.map (ops[·]?) = l.map some → Inv md ops n pre listed →
    lexG md ops n als idx listed = some done → wpG P ops w0 R l a → anyH P md ops w0 n al L (idx.length + g) listed a []
  | [], [], listed, a, _, _, hB, h => by
    simp only [lexG, Option.some.injEq] at hB
    subst hB
    simpa using hR a h
  | k :: ks, o :: l, listed, a, hl, inv, hB, h => by
    simp only [List.map_cons, List.cons.injEq] at hl
    simp only [lexG] at hB
    split at hB
    · rename_i hcond
      simp only [Bool.and_eq_true, decide_eq_true_eq, Bool.not_eq_true'] at hcond
      obtain ⟨⟨⟨hkn, hka⟩, hr⟩, hf⟩ := hcond
      have h0 : ops[k]? = some o := hl.1
      have hr' : k ∈ Region.ready md ops listed := by simpa using hr
      obtain ⟨v, hy, hK⟩ := h
      have := anyH_first h0 (hals k hka) (Region.noSelect_spec hsel) hs hc hn hkn hdone (ks.length + g) listed a [] inv (Region.free_spec h0 hf) hr' hy
        (anyH_lex hals hsel hs hc hn hdone hR ks l _ _ hl.2 (inv.set hr' hkn) hB hK)
      simpa [Nat.add_right_comm, Nat.add_assoc, Nat.add_comm 1] using this
    · cases hB
  | [], _ :: _, _, _, hl, _, _, _ => by simp at hl
  | _ :: _, [], _, _, hl, _, _, _ => by simp at hl

theorem wpG_step {Q : Act → Prop} {a : Act} {o : Oper} {rest : List Oper}
    (h : ∀ K : Act → Prop, (∀ a, wpG P ops w0 Q rest a → K a) → if Region.wanted o (yielded ops a.tmps) then ∃ v, (∀ w, (∃ x, w = ext w0 x) → Oper.quietUpon P (Later w) w v ((execOp a.eval o).run P w)) ∧ K (a.put o.dst v) else K (a.put o.dst undef)) : wpG P ops w0 Q (o :: rest) a := by
  have h := h _ (fun _ h => h)
  split at h
  · rename_i hw
    obtain ⟨v, h1, h2⟩ := h
    exact ⟨v, Or.inl ⟨hw, fun w hl => h1 w (ext_of_below hl)⟩, h2⟩
  · rename_i hw
    exact ⟨undef, Or.inr ⟨by simpa using hw, rfl⟩, h⟩
theorem wpG_nil {Q : Act → Prop} {a : Act} (h : Q a) : wpG P ops w0 Q [] a := h

def preB (md : Region.Mode) (ops : Array Oper) (n : Nat) (pre : List Nat) (listed : Array Bool) : Bool :=
  Region.noSelect ops && decide (n < ops.size) && decide (listed.size = ops.size) && closedB md ops listed && tailB ops n listed && (pre.all fun p => listed.getD p false) && sinkB md ops n pre && Region.chainB md ops n
theorem preB_inv {n : Nat} {pre : List Nat} {listed : Array Bool} (hB : preB md ops n pre listed = true) : Region.noSelect ops = true ∧ n < ops.size ∧ sinkB md ops n pre = true ∧ Region.chainB md ops n = true ∧ Inv md ops n pre listed := by
  simp only [preB, Bool.and_eq_true, decide_eq_true_eq] at hB
  obtain ⟨⟨⟨⟨⟨⟨⟨hsel, hn⟩, hsz⟩, hcl⟩, htl⟩, hpre⟩, hs⟩, hc⟩ := hB
  refine ⟨hsel, hn, hs, hc, ⟨⟨hsz, fun j oj hj hl e he hb => ?_, fun t ht htlt => ?_⟩, fun p hp => ?_⟩⟩
  · have h1 := List.all_eq_true.1 hcl j (List.mem_range.2 (Array.getElem?_eq_some_iff.1 hj).1)
    simp only [hl, Bool.not_true, Bool.false_or, hj] at h1
    have h2 := Array.all_eq_true_iff_forall_mem.1 h1 e he
    simpa [hb] using h2
  · have h1 := List.all_eq_true.1 htl t (List.mem_range.2 htlt)
    simp only [Bool.or_eq_true, decide_eq_true_eq, Bool.not_eq_true'] at h1
    rcases h1 with h1 | h1
    · omega
    · exact h1
  · exact List.all_eq_true.1 hpre p hp

/-- The pointer to the head of a block. -/
def ptr (b : Nat) : Value := .pointer (some ⟨b, 0, none⟩)

/-- THE LAW with one new variable. -/
theorem wpAny_new1 {Q : Exit → Act → World → Prop} {a : Act} {w : World} {l : List Oper} {listed done : Array Bool} {fuel : Nat} (n : Nat) (pre idx : List Nat) (i1 : Nat) (o1 : Oper) (O1 : Obj)
    (hB : preB .any l.toArray n pre listed = true) (hX : lexG .any l.toArray n [i1] idx listed = some done) (hi1 : l.toArray[i1]? = some o1) (hin : decide (i1 < n) = true) (hM : Makes P l.toArray o1 O1)
    (hE : (decide (Region.ready .any l.toArray done = [i1]) && Region.seqB .any l.toArray (l.toArray.size - n) n (done.setIfInBounds i1 true)) = true)
    (hidx : (idx.all fun i => decide (i < l.length)) = true) (hfuel : fuel = idx.length + 1 + (l.toArray.size - n))
    (h : wpG P l.toArray w0 (fun a' => ∀ b w, Later w0 w → w0.heap.size ≤ b → w.heap[b]? = some O1 → wpList P l.toArray Q (l.drop n) (a'.put o1.dst (.pointer (some ⟨b, 0, none⟩))) w) (idx.filterMap fun i => l[i]?) a) (hw : Later w0 w) : wpAny P .any l.toArray Q fuel listed a w := by
  obtain ⟨hsel, hn, hs, hc, inv⟩ := preB_inv hB
  simp only [Bool.and_eq_true, decide_eq_true_eq] at hE hin
  obtain ⟨hE1, hE2⟩ := hE
  have hdl : (l.drop n).length = l.toArray.size - n := by simp
  let L : Array Bool → Act → List (Nat × Obj) → Prop := fun listed' a' Bs => Region.seqB .any l.toArray (l.toArray.size - n) n listed' = true ∧ ∀ w, Has w0 Bs w → wpList P l.toArray Q (l.drop n) a' w
  have H := anyH_lex (md := .any) (g := 1) (L := L) (al := fun i => if i = i1 then some O1 else none) (als := [i1]) (done := done) (fun k hk => by simp at hk; simp [hk]) hsel hs hc hn (fun listed' a' Bs hL => seqB_ready hL.1)
    (fun a' ha' => by
      refine ⟨by rw [hE1]; simp, fun i hi => ?_⟩
      rw [hE1] at hi
      obtain rfl : i = i1 := by simpa using hi
      refine ⟨hin, o1, hi1, Or.inr ⟨O1, by simp, hM, fun b _ => ⟨hE2, fun w hw => ?_⟩⟩⟩
      have := hw.blk (b, O1) (by simp)
      exact ha' b w hw.later this.1 this.2) idx _ listed a (idx_ok l idx hidx) inv hX h
  rw [hfuel]
  refine wpAny_of_anyH (Q' := Q) (L := L) (fun listed' a' Bs w' hw' hL => ?_) _ _ _ [] w ⟨hw, fun x hx => by cases hx⟩ H
  have := wpAny_of_seq (md := .any) (Q' := Q) (l.drop n) n listed' a' w' (fun j => by simp [List.getElem?_drop]) (by rw [hdl]; exact hL.1) (hL.2 w' hw')
  rwa [hdl] at this

/-- THE LAW with two new variables. -/
theorem wpAny_new2 {Q : Exit → Act → World → Prop} {a : Act} {w : World} {l : List Oper} {listed done : Array Bool} {fuel : Nat} (n : Nat) (pre idx : List Nat) (i1 i2 : Nat) (o1 o2 : Oper) (O1 O2 : Obj)
    (hB : preB .any l.toArray n pre listed = true) (hX : lexG .any l.toArray n [i1, i2] idx listed = some done) (hi1 : l.toArray[i1]? = some o1) (hi2 : l.toArray[i2]? = some o2) (hne : decide (i1 ≠ i2 ∧ i1 < n ∧ i2 < n) = true) (hd : ∀ d, o1.dst = some d → o2.dst ≠ some d) (hM1 : Makes P l.toArray o1 O1) (hM2 : Makes P l.toArray o2 O2)
    (hE : (decide (Region.ready .any l.toArray done = [i1, i2]) && decide (Region.ready .any l.toArray (done.setIfInBounds i1 true) = [i2]) && decide (Region.ready .any l.toArray (done.setIfInBounds i2 true) = [i1]) && Region.seqB .any l.toArray (l.toArray.size - n) n ((done.setIfInBounds i1 true).setIfInBounds i2 true)) = true)
    (hidx : (idx.all fun i => decide (i < l.length)) = true) (hfuel : fuel = idx.length + 2 + (l.toArray.size - n))
    (h : wpG P l.toArray w0 (fun a' => ∀ b1 b2 w, Later w0 w → w0.heap.size ≤ b1 → w0.heap.size ≤ b2 → b1 ≠ b2 → w.heap[b1]? = some O1 → w.heap[b2]? = some O2 → wpList P l.toArray Q (l.drop n) ((a'.put o1.dst (.pointer (some ⟨b1, 0, none⟩))).put o2.dst (.pointer (some ⟨b2, 0, none⟩))) w) (idx.filterMap fun i => l[i]?) a) (hw : Later w0 w) : wpAny P .any l.toArray Q fuel listed a w := by
  obtain ⟨hsel, hn, hs, hc, inv⟩ := preB_inv hB
  simp only [Bool.and_eq_true, decide_eq_true_eq] at hE hne
  obtain ⟨⟨⟨hE1, hE2⟩, hE3⟩, hE4⟩ := hE
  obtain ⟨hne, h1n, h2n⟩ := hne
  have hdl : (l.drop n).length = l.toArray.size - n := by simp
  let L : Array Bool → Act → List (Nat × Obj) → Prop := fun listed' a' Bs => Region.seqB .any l.toArray (l.toArray.size - n) n listed' = true ∧ ∀ w, Has w0 Bs w → wpList P l.toArray Q (l.drop n) a' w
  have H := anyH_lex (md := .any) (g := 2) (L := L) (al := fun i => if i = i1 then some O1 else if i = i2 then some O2 else none) (als := [i1, i2]) (done := done) (fun k hk => by simp at hk; simp [hk]) hsel hs hc hn (fun listed' a' Bs hL => seqB_ready hL.1)
    (fun a' ha' => by
      refine ⟨by rw [hE1]; simp, fun i hi => ?_⟩
      rw [hE1] at hi
      have hi' : i = i1 ∨ i = i2 := by simpa using hi
      rcases hi' with rfl | rfl
      · refine ⟨h1n, o1, hi1, Or.inr ⟨O1, by simp, hM1, fun b1 _ => ⟨by rw [hE2]; simp, fun j hj => ?_⟩⟩⟩
        rw [hE2] at hj
        obtain rfl : j = i2 := by simpa using hj
        refine ⟨h2n, o2, hi2, Or.inr ⟨O2, by simp [Ne.symm hne], hM2, fun b2 hb2 => ⟨hE4, fun w hw => ?_⟩⟩⟩
        have e1 := hw.blk (b1, O1) (by simp)
        have e2 := hw.blk (b2, O2) (by simp)
        exact ha' b1 b2 w hw.later e1.1 e2.1 (hb2 (b1, O1) (by simp)) e1.2 e2.2
      · refine ⟨h2n, o2, hi2, Or.inr ⟨O2, by simp [Ne.symm hne], hM2, fun b2 _ => ⟨by rw [hE3]; simp, fun j hj => ?_⟩⟩⟩
        rw [hE3] at hj
        obtain rfl : j = i1 := by simpa using hj
        refine ⟨h1n, o1, hi1, Or.inr ⟨O1, by simp, hM1, fun b1 hb1 => ⟨by rw [Array.setIfInBounds_comm _ _ (Ne.symm hne)]; exact hE4, fun w hw => ?_⟩⟩⟩
        have e1 := hw.blk (b1, O1) (by simp)
        have e2 := hw.blk (b2, O2) (by simp)
        rw [← Act.put_comm a' _ _ hd]
        exact ha' b1 b2 w hw.later e1.1 e2.1 (Ne.symm (hb1 (b2, O2) (by simp))) e1.2 e2.2) idx _ listed a (idx_ok l idx hidx) inv hX h
  rw [hfuel]
  refine wpAny_of_anyH (Q' := Q) (L := L) (fun listed' a' Bs w' hw' hL => ?_) _ _ _ [] w ⟨hw, fun x hx => by cases hx⟩ H
  have := wpAny_of_seq (md := .any) (Q' := Q) (l.drop n) n listed' a' w' (fun j => by simp [List.getElem?_drop]) (by rw [hdl]; exact hL.1) (hL.2 w' hw')
  rwa [hdl] at this
theorem later_drawn (w : World) : Later w { w with drawn := w.drawn + 1 } := ⟨rfl, rfl, rfl, Nat.le_refl _, fun _ _ => rfl⟩
end
theorem block_cell {w : World} {b : Nat} {c : Array Value} {t : TypeId} (h : w.heap[b]? = some (.cells c t)) (i : Nat) : w.cell? ⟨b, i, none⟩ = c[i]? := by simp [World.cell?, h]
theorem block_frozen {w : World} {b : Nat} {c : Array Value} {t : TypeId} (h : w.heap[b]? = some (.cells c t)) (i : Nat) : w.frozen? ⟨b, i, none⟩ = false := by simp [World.frozen?, h]
theorem block_lt {w : World} {b : Nat} {o : Obj} (h : w.heap[b]? = some o) : b < w.heap.size := (Array.getElem?_eq_some_iff.1 h).1
end Go.Proofs.YtbgglghapjfdeaaDoor
