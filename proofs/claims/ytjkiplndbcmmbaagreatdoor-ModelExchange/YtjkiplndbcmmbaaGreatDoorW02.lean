/- texts of the model: Ex Ey Ez -/
import Derived.StillTail
import Derived.Deep.Quiet
import Derived.Below
import Derived.WalkKit
set_option linter.unusedVariables false
set_option linter.unusedSimpArgs false
set_option maxHeartbeats 16000000
set_option maxRecDepth 100000
namespace Go.Proofs.YtjkiplndbcmmbaaGreatDoor
open Go.RowKit
def ext (w : World) (x : World) : World := { w with heap := w.heap ++ x.heap, drawn := x.drawn }
theorem aZ (w : World) (x : World) : (ext w x).heap.size = w.heap.size + x.heap.size := by simp [ext]
theorem cv (w : World) (x : World) (k : Nat) (h : k < w.heap.size) : (ext w x).heap[k]? = w.heap[k]? := by
 simp [ext, Array.getElem?_append, h]
theorem ap (w : World) (x : World) (b i : Nat) (h : b < w.heap.size) : (ext w x).cell? ⟨b, i, none⟩ = w.cell? ⟨b, i, none⟩ := by
 simp only [World.cell?, cv w x b h]
theorem ai (w : World) (x : World) (b i : Nat) (h : b < w.heap.size) : (ext w x).frozen? ⟨b, i, none⟩ = w.frozen? ⟨b, i, none⟩ := by
 simp only [World.frozen?, cv w x b h]
theorem aN (n : Nat) : (n < n + 1 + 1) = True := by simp; omega
theorem aO (n : Nat) : (n < n + 1 + 1 + 1) = True := by simp; omega
theorem aP (n : Nat) : (n < n + 1 + 1 + 1 + 1) = True := by simp; omega
theorem aQ (n : Nat) : (n < n + 1 + 1 + 1 + 1 + 1) = True := by simp; omega
theorem aR (n : Nat) : (n < n + 1 + 1 + 1 + 1 + 1 + 1) = True := by simp; omega
theorem aD (w x : World) (b : Nat) (h : b < w.heap.size) : (b < (ext w x).heap.size) = True := by rw [aZ]; simp; omega
theorem av (w x : World) (b : Nat) (h : b < w.heap.size) : (b < (ext w x).heap.size + 1) = True := by rw [aZ]; simp; omega
theorem ax (w x : World) (b : Nat) (h : b < w.heap.size) : (b < (ext w x).heap.size + 1 + 1) = True := by rw [aZ]; simp; omega
theorem ay (w x : World) (b : Nat) (h : b < w.heap.size) : (b < (ext w x).heap.size + 1 + 1 + 1) = True := by rw [aZ]; simp; omega
theorem ar (w : World) (x : World) : (ext w x).drew = ext w x.drew := rfl
theorem af (w : World) (x : World) : ext w.drew x = ext w x := rfl
theorem ae (w : World) (n : Nat) (x : World) : ext (w.drewN n) x = ext w x := rfl
theorem fp (w : World) (x y : World) : ext (ext w x) y = ext w { y with heap := x.heap ++ y.heap } := by
 simp [ext, Array.append_assoc]
theorem ag (w : World) (x : World) (b i : Nat) (v : Value) (h : b < w.heap.size) : (ext w x).setCell ⟨b, i, none⟩ v = ext (w.setCell ⟨b, i, none⟩ v) x := by
 simp only [World.setCell, ext]
 congr 1
 apply Array.ext_getElem?
 intro k
 simp only [Array.getElem?_modify, Array.getElem?_append, Array.size_modify]
 split <;> split <;> simp_all
 all_goals omega
theorem cA {k : Nat} {a w : World} (h : Below k a w) (hk : k ≤ w.heap.size) (x : World) : Below k a (ext w x) :=
 h.trans ⟨rfl, rfl, rfl, by rw [aZ]; omega, fun i hi => cv w x i (by omega)⟩
theorem aA {a w : World} (h : Below a.heap.size a w) (x : World) : Below a.heap.size a (ext w x) := cA h h.size x
theorem bl_ {B : Nat} {w w' : World} (h : Below B w w' := by repeat (first | exact Below.refl _ _ | refine Below.drew ?_ | refine below_drewN ?_ _ | refine ao ?_ _ | refine aA ?_ _ | (refine Below.setCell ?_ ?_ _; rotate_left; (simp <;> omega)))) : Below B w w' := h
theorem a9 {w w' : World} (h : Below w.heap.size w w') : ∃ x, w' = ext w x := by
 refine ⟨{ w' with heap := w'.heap.extract w.heap.size w'.heap.size }, ?_⟩
 have hh : w'.heap = w.heap ++ w'.heap.extract w.heap.size w'.heap.size := by
  apply Array.ext_getElem?
  intro k
  rw [Array.getElem?_append]
  by_cases c : k < w.heap.size
  ·rw [if_pos c]; exact h.block k c
  ·rw [if_neg c, Array.getElem?_extract]
   have hs := h.size
   by_cases c2 : k < w'.heap.size
   ·rw [if_pos (by omega)]; congr 1; omega
   ·rw [if_neg (by omega)]; simp; omega
 cases w'
 cases w
 obtain ⟨a1, a2, a3, a4, a5⟩ := h
 simp only at a1 a2 a3
 subst a1 a2 a3
 simp only [ext]
 simp only at hh
 rw [← hh]
section
variable {P : Program} {ops : Array Oper} {md : Region.Mode} {C : World → Prop}
def anyHead (P : Program) (md : Region.Mode) (ops : Array Oper) (C : World → Prop) (n : Nat) (L : Array Bool → Act → Prop) : Nat → Array Bool → Act → Prop
 | 0, listed, a => L listed a
 | f + 1, listed, a =>
  Region.ready md ops listed ≠ [] ∧ ∀ i ∈ Region.ready md ops listed, i < n ∧ qOp P ops C i (anyHead P md ops C n L f (listed.setIfInBounds i true)) a
theorem bG {n g : Nat} {L : Array Bool → Act → Prop} {Q' : Exit → Act → World → Prop} (hL : ∀ listed a w, C w → L listed a → wpAny P md ops Q' g listed a w) :
  ∀ (f : Nat) (listed : Array Bool) (a : Act) (w : World), C w → anyHead P md ops C n L f listed a → wpAny P md ops Q' (f + g) listed a w
 | 0, listed, a, w, hw, h => by rw [Nat.zero_add]; exact hL _ _ _ hw h
 | f + 1, listed, a, w, hw, h => by
  rw [show f + 1 + g = (f + g) + 1 by omega]
  exact ⟨fun h0 => absurd h0 h.1, fun i hi => wpOp_of_qOp hw (fun a' w' hw' h' => bG hL f _ a' w' hw' h') (h.2 i hi).2⟩
theorem iB {n i : Nat} {oi : Oper} {v : Value} {L : Array Bool → Act → Prop} (hi : ops[i]? = some oi) (hsel : ∀ (j : Nat) (o : Oper) cs b, ops[j]? = some o → o.op ≠ .select cs b)
  (hs : Region.sinkB md ops n = true) (hc : Region.chainB md ops n = true) (hn : n < ops.size) (hin : i < n)
  (hdone : ∀ listed a, L listed a → ∀ j ∈ Region.ready md ops listed, n ≤ j) :
  ∀ (f : Nat) (listed : Array Bool) (a : Act), HeadInv md ops n listed →
   (∀ j oj, ops[j]? = some oj → j ≠ i → listed.getD j true = false → (∀ e ∈ oj.after, Region.binds md e = true → e.on ≠ i) → oi.apart ops oj = true) →
   i ∈ Region.ready md ops listed → YieldsIn P ops C oi v a →
   anyHead P md ops C n L f (listed.setIfInBounds i true) (a.put oi.dst v) → anyHead P md ops C n L (f + 1) listed a := by
 intro f
 induction f with
 | zero =>
  intro listed a inv _ hr hy H
  have hun := (mem_ready.1 hr).1
  have hjn : ∀ j ∈ Region.ready md ops listed, j < n := fun j hj =>
   (Nat.lt_or_ge j n).elim id fun h => absurd hj (tail_waits hs hc hn inv _ i rfl hin hun j h)
  refine ⟨fun h => (by rw [h] at hr; cases hr), fun j hj => ⟨hjn j hj, ?_⟩⟩
  by_cases hji : j = i
  ·subst hji; exact hy.qOp hi H
  ·have := hdone _ _ H j (ready_mono hj hji)
   have := hjn j hj
   omega
 | succ f ih =>
  intro listed a inv hfree hr hy H
  have hun := (mem_ready.1 hr).1
  refine ⟨fun h => (by rw [h] at hr; cases hr), fun j hj => ?_⟩
  have hjn : j < n := (Nat.lt_or_ge j n).elim id fun h => absurd hj (tail_waits hs hc hn inv _ i rfl hin hun j h)
  refine ⟨hjn, ?_⟩
  by_cases hji : j = i
  ·subst hji; exact hy.qOp hi H
  ·obtain ⟨hjun, oj, hoj, hall⟩ := mem_ready.1 hj
   have hnot : ∀ e ∈ oj.after, Region.binds md e = true → e.on ≠ i := fun e he hb heq => by
    have h1 := hall e he hb
    rw [heq, getD_both hun] at h1
    cases h1
   refine qOp_mono (fun a' h3 => ih (listed.setIfInBounds j true) a' (inv.set hj hjn) (fun k ok hk hki hun' hno => ?_) (ready_mono hr (Ne.symm hji)) h3.1 ?_)
    (qOp_put hoj (hfree j oj hoj hji hjun hnot) (fun cs b => hsel i oi cs b hi) (fun cs b => hsel j oj cs b hoj) hy (H.2 j (ready_mono hj hji)).2)
   ·refine hfree k ok hk hki ?_ hno
    by_cases hjk : j = k
    ·subst hjk; exact hjun
    ·rw [getD_set_ne true hjk] at hun'; exact hun'
   ·rw [Array.setIfInBounds_comm _ _ hji]
    exact h3.2
theorem dQ {n g : Nat} {Lq : Act → Prop} (hsel : Region.noSelect ops = true) (hs : Region.sinkB md ops n = true) (hc : Region.chainB md ops n = true) (hn : n < ops.size) :
  ∀ (l : List Oper) (k : Nat) (listed : Array Bool) (a : Act), (∀ j, j < l.length → l[j]? = ops[k + j]?) → k + l.length = n → HeadInv md ops n listed →
  Region.lexHead md ops g l.length k listed = true → wpQuiet P ops C Lq l a →
  anyHead P md ops C n (fun listed' a' => Region.seqB md ops g n listed' = true ∧ Lq a') l.length listed a
 | [], k, listed, a, _, hk, _, hB, h => by
  have : k = n := by simpa using hk
  subst this
  exact ⟨by simpa [Region.lexHead] using hB, h⟩
 | o :: l, k, listed, a, hl, hk, inv, hB, h => by
  have h0 : ops[k]? = some o := by simpa using (hl 0 (by simp)).symm
  simp only [List.length_cons, Region.lexHead, Bool.and_eq_true] at hB
  obtain ⟨⟨hr, hf⟩, hB'⟩ := hB
  have hkn : k < n := by simp only [List.length_cons] at hk; omega
  have hr' : k ∈ Region.ready md ops listed := by simpa using hr
  have hst : qOp P ops C k (wpQuiet P ops C Lq l) a := by unfold qOp; simp only [h0]; exact h
  obtain ⟨v, hy, hK⟩ := yieldsIn_of_qOp h0 hst
  exact iB h0 (Region.noSelect_spec hsel) hs hc hn hkn (fun listed' a' hL => seqB_ready hL.1) l.length listed a inv (Region.free_spec h0 hf) hr' hy
   (dQ hsel hs hc hn l (k + 1) _ _ (fun j hj => by have := hl (j + 1) (by simp; omega); simpa [Nat.add_assoc, Nat.add_comm 1 j] using this) (by simp only [List.length_cons] at hk; omega) (inv.set hr' hkn) hB' hK)
theorem aX {id : Nat} {Q : Exit → Act → World → Prop} {a : Act} {w : World} {l : List Oper} (n : Nat) (hm : P.follows .mixedOrders = true) (hB : Region.lexTailB .any l.toArray n = true)
  (h : wpQuiet P l.toArray (fun w' => ∃ x, w' = ext w x) (fun a' => ∀ x, wpList P l.toArray Q (l.drop n) a' (ext w x)) (l.take n) a) : (Code.region id l.toArray true).wp P Q a w := by
 simp only [Region.lexTailB, Bool.and_eq_true, decide_eq_true_eq] at hB
 obtain ⟨⟨⟨⟨hsel, hn⟩, hs⟩, hc⟩, hlex⟩ := hB
 have htl : (l.take n).length = n := by simp at hn ⊢; omega
 have hdl : (l.drop n).length = l.toArray.size - n := by simp
 have inv0 : HeadInv .any l.toArray n (Array.replicate l.toArray.size false) :=
  ⟨by simp, fun j oj _ hl => (by rw [getD_replicate_false] at hl; cases hl), fun t _ ht => getD_in (by simpa using ht) (getD_replicate_false _ _)⟩
 have H := dQ (md := .any) (g := l.toArray.size - n) hsel hs hc hn (l.take n) 0 _ a (fun j hj => by
  have hj' : j < n := by rw [htl] at hj; exact hj
  simp [hj']) (by simpa using htl) inv0 (by rw [htl]; exact hlex) h
 refine wp_region_any hm ?_
 have := bG (Q' := Q) (g := l.toArray.size - n) (fun listed a' w' hw' hL => by
  obtain ⟨x, rfl⟩ := hw'
  have := wpAny_of_seq (md := .any) (Q' := Q) (l.drop n) n listed a' (ext w x) (fun j => by simp [List.getElem?_drop]) (by rw [hdl]; exact hL.1) (hL.2 x)
  rwa [hdl] at this) _ _ _ { w with drawn := w.drawn + 1 } ⟨{ w with heap := #[], drawn := w.drawn + 1 }, by simp [ext]⟩ H
 rw [htl, show n + (l.toArray.size - n) = l.toArray.size by omega] at this
 exact this
def sinkB (md : Region.Mode) (ops : Array Oper) (n : Nat) (pre : List Nat) : Bool :=
 (List.range n).all fun i => pre.contains i || (List.range (n + 1)).any fun j => decide (i < j) && !pre.contains j && Region.waitsFor md ops j i
def closedB (md : Region.Mode) (ops : Array Oper) (listed : Array Bool) : Bool :=
 (List.range ops.size).all fun j => !listed.getD j false || match ops[j]? with
  | some oj => oj.after.all fun e => !Region.binds md e || listed.getD e.on false
  | none => true
def tailB (ops : Array Oper) (n : Nat) (listed : Array Bool) : Bool := (List.range ops.size).all fun t => decide (t < n) || !listed.getD t true
def lexIdx (md : Region.Mode) (ops : Array Oper) (n g : Nat) : List Nat → Array Bool → Bool
 | [], listed => Region.seqB md ops g n listed
 | k :: ks, listed => decide (k < n) && (Region.ready md ops listed).contains k && Region.free md ops listed k && lexIdx md ops n g ks (listed.setIfInBounds k true)
def headB (md : Region.Mode) (ops : Array Oper) (n : Nat) (pre idx : List Nat) (listed : Array Bool) : Bool :=
 Region.noSelect ops && decide (n < ops.size) && decide (listed.size = ops.size) && closedB md ops listed && tailB ops n listed && (pre.all fun p => listed.getD p false) && sinkB md ops n pre && Region.chainB md ops n && lexIdx md ops n (ops.size - n) idx listed
structure Inv (md : Region.Mode) (ops : Array Oper) (n : Nat) (pre : List Nat) (listed : Array Bool) : Prop where
 head : HeadInv md ops n listed
 pre : ∀ p ∈ pre, listed.getD p false = true
theorem Inv.set {n i : Nat} {pre : List Nat} {listed : Array Bool} (inv : Inv md ops n pre listed) (hi : i ∈ Region.ready md ops listed) (hin : i < n) : Inv md ops n pre (listed.setIfInBounds i true) :=
 ⟨inv.head.set hi hin, fun p hp => getD_set_true (inv.pre p hp)⟩
theorem cV {n : Nat} {pre : List Nat} {listed : Array Bool} (hs : sinkB md ops n pre = true) (hc : Region.chainB md ops n = true) (hn : n < ops.size) (inv : Inv md ops n pre listed) :
  ∀ (d i : Nat), n - i = d → i < n → listed.getD i true = false → ∀ t, n ≤ t → t ∉ Region.ready md ops listed := by
 intro d
 induction d using Nat.strongRecOn with
 | _ d ih =>
  intro i hd hi hun t ht hr
  obtain ⟨_, ot, hot, hall⟩ := mem_ready.1 hr
  have htlt : t < ops.size := (Array.getElem?_eq_some_iff.1 hot).1
  by_cases htn : t = n
  ·subst htn
   have h1 := List.all_eq_true.1 hs i (List.mem_range.2 hi)
   simp only [Bool.or_eq_true] at h1
   rcases h1 with h1 | h1
   ·have := inv.pre i (by simpa using h1)
    rw [getD_both hun] at this
    cases this
   obtain ⟨j, hj, hj2⟩ := List.any_eq_true.1 h1
   simp only [Bool.and_eq_true, decide_eq_true_eq] at hj2
   obtain ⟨oj, hoj, e, he, hb, hon⟩ := Region.waitsFor_spec hj2.2
   have hjle : j ≤ t := by have := List.mem_range.1 hj; omega
   by_cases hjt : j = t
   ·subst hjt
    have : oj = ot := Option.some.inj (hoj.symm.trans hot)
    subst this
    have h2 := hall e he hb
    rw [hon, getD_both hun] at h2
    cases h2
   ·cases hl : listed.getD j false with
    | true =>
     have h2 := inv.head.closed j oj hoj hl e he hb
     rw [hon, getD_both hun] at h2
     cases h2
    | false =>
     have hjs : j < listed.size := by rw [inv.head.size]; omega
     exact ih (t - j) (by omega) j rfl (by omega) (getD_in hjs hl) t (Nat.le_refl _) hr
  ·have h1 := List.all_eq_true.1 hc t (List.mem_range.2 htlt)
   simp only [Bool.or_eq_true, decide_eq_true_eq] at h1
   rcases h1 with h1 | h1
   ·omega
   ·obtain ⟨o', ho', e, he, hb, hon⟩ := Region.waitsFor_spec h1
    have : o' = ot := Option.some.inj (ho'.symm.trans hot)
    subst this
    have h2 := hall e he hb
    rw [hon, getD_both (inv.head.tail (t - 1) (by omega) (by omega))] at h2
    cases h2
theorem gF {n i : Nat} {pre : List Nat} {oi : Oper} {v : Value} {L : Array Bool → Act → Prop} (hi : ops[i]? = some oi) (hsel : ∀ (j : Nat) (o : Oper) cs b, ops[j]? = some o → o.op ≠ .select cs b)
  (hs : sinkB md ops n pre = true) (hc : Region.chainB md ops n = true) (hn : n < ops.size) (hin : i < n)
  (hdone : ∀ listed a, L listed a → ∀ j ∈ Region.ready md ops listed, n ≤ j) :
  ∀ (f : Nat) (listed : Array Bool) (a : Act), Inv md ops n pre listed →
   (∀ j oj, ops[j]? = some oj → j ≠ i → listed.getD j true = false → (∀ e ∈ oj.after, Region.binds md e = true → e.on ≠ i) → oi.apart ops oj = true) →
   i ∈ Region.ready md ops listed → YieldsIn P ops C oi v a →
   anyHead P md ops C n L f (listed.setIfInBounds i true) (a.put oi.dst v) → anyHead P md ops C n L (f + 1) listed a := by
 intro f
 induction f with
 | zero =>
  intro listed a inv _ hr hy H
  have hun := (mem_ready.1 hr).1
  have hjn : ∀ j ∈ Region.ready md ops listed, j < n := fun j hj =>
   (Nat.lt_or_ge j n).elim id fun h => absurd hj (cV hs hc hn inv _ i rfl hin hun j h)
  refine ⟨fun h => (by rw [h] at hr; cases hr), fun j hj => ⟨hjn j hj, ?_⟩⟩
  by_cases hji : j = i
  ·subst hji; exact hy.qOp hi H
  ·have := hdone _ _ H j (ready_mono hj hji)
   have := hjn j hj
   omega
 | succ f ih =>
  intro listed a inv hfree hr hy H
  have hun := (mem_ready.1 hr).1
  refine ⟨fun h => (by rw [h] at hr; cases hr), fun j hj => ?_⟩
  have hjn : j < n := (Nat.lt_or_ge j n).elim id fun h => absurd hj (cV hs hc hn inv _ i rfl hin hun j h)
  refine ⟨hjn, ?_⟩
  by_cases hji : j = i
  ·subst hji; exact hy.qOp hi H
  ·obtain ⟨hjun, oj, hoj, hall⟩ := mem_ready.1 hj
   have hnot : ∀ e ∈ oj.after, Region.binds md e = true → e.on ≠ i := fun e he hb heq => by
    have h1 := hall e he hb
    rw [heq, getD_both hun] at h1
    cases h1
   refine qOp_mono (fun a' h3 => ih (listed.setIfInBounds j true) a' (inv.set hj hjn) (fun k ok hk hki hun' hno => ?_) (ready_mono hr (Ne.symm hji)) h3.1 ?_)
    (qOp_put hoj (hfree j oj hoj hji hjun hnot) (fun cs b => hsel i oi cs b hi) (fun cs b => hsel j oj cs b hoj) hy (H.2 j (ready_mono hj hji)).2)
   ·refine hfree k ok hk hki ?_ hno
    by_cases hjk : j = k
    ·subst hjk; exact hjun
    ·rw [getD_set_ne true hjk] at hun'; exact hun'
   ·rw [Array.setIfInBounds_comm _ _ hji]
    exact h3.2
theorem gh {n g : Nat} {pre : List Nat} {Lq : Act → Prop} (hsel : Region.noSelect ops = true) (hs : sinkB md ops n pre = true) (hc : Region.chainB md ops n = true) (hn : n < ops.size) :
  ∀ (idx : List Nat) (l : List Oper) (listed : Array Bool) (a : Act), idx.map (ops[·]?) = l.map some → Inv md ops n pre listed →
  lexIdx md ops n g idx listed = true → wpQuiet P ops C Lq l a →
  anyHead P md ops C n (fun listed' a' => Region.seqB md ops g n listed' = true ∧ Lq a') idx.length listed a
 | [], [], listed, a, _, _, hB, h => ⟨by simpa [lexIdx] using hB, h⟩
 | k :: ks, o :: l, listed, a, hl, inv, hB, h => by
  simp only [List.map_cons, List.cons.injEq] at hl
  simp only [lexIdx, Bool.and_eq_true, decide_eq_true_eq] at hB
  obtain ⟨⟨⟨hkn, hr⟩, hf⟩, hB'⟩ := hB
  have h0 : ops[k]? = some o := hl.1
  have hr' : k ∈ Region.ready md ops listed := by simpa using hr
  have hst : qOp P ops C k (wpQuiet P ops C Lq l) a := by unfold qOp; simp only [h0]; exact h
  obtain ⟨v, hy, hK⟩ := yieldsIn_of_qOp h0 hst
  exact gF h0 (Region.noSelect_spec hsel) hs hc hn hkn (fun listed' a' hL => seqB_ready hL.1) ks.length listed a inv (Region.free_spec h0 hf) hr' hy
   (gh hsel hs hc hn ks l _ _ hl.2 (inv.set hr' hkn) hB' hK)
 | [], _ :: _, _, _, hl, _, _, _ => by simp at hl
 | _ :: _, [], _, _, hl, _, _, _ => by simp at hl
theorem pd {Q : Exit → Act → World → Prop} {a : Act} {w u : World} {l lh : List Oper} {listed : Array Bool} {fuel : Nat} (n : Nat) (pre idx : List Nat) (hB : headB .any l.toArray n pre idx listed = true)
  (hidx : idx.map (l.toArray[·]?) = lh.map some) (hfuel : fuel = idx.length + (l.toArray.size - n)) (hu : ∃ x, u = ext w x)
  (h : wpQuiet P l.toArray (fun w' => ∃ x, w' = ext w x) (fun a' => ∀ x, wpList P l.toArray Q (l.drop n) a' (ext w x)) lh a) : wpAny P .any l.toArray Q fuel listed a u := by
 simp only [headB, Bool.and_eq_true, decide_eq_true_eq] at hB
 obtain ⟨⟨⟨⟨⟨⟨⟨⟨hsel, hn⟩, hsz⟩, hcl⟩, htl⟩, hpre⟩, hs⟩, hc⟩, hlex⟩ := hB
 have inv0 : Inv .any l.toArray n pre listed := by
  refine ⟨⟨hsz, fun j oj hj hl e he hb => ?_, fun t ht htlt => ?_⟩, fun p hp => ?_⟩
  ·have h1 := List.all_eq_true.1 hcl j (List.mem_range.2 (Array.getElem?_eq_some_iff.1 hj).1)
   simp only [hl, Bool.not_true, Bool.false_or, hj] at h1
   have h2 := Array.all_eq_true_iff_forall_mem.1 h1 e he
   simpa [hb] using h2
  ·have h1 := List.all_eq_true.1 htl t (List.mem_range.2 htlt)
   simp only [Bool.or_eq_true, decide_eq_true_eq, Bool.not_eq_true'] at h1
   rcases h1 with h1 | h1
   ·omega
   ·exact h1
  ·exact List.all_eq_true.1 hpre p hp
 have H := gh (md := .any) (g := l.toArray.size - n) (C := fun w' => ∃ x, w' = ext w x) hsel hs hc hn idx lh listed a hidx inv0 hlex h
 have hdl : (l.drop n).length = l.toArray.size - n := by simp
 rw [hfuel]
 exact bG (Q' := Q) (g := l.toArray.size - n) (fun listed a' w' hw' hL => by
  obtain ⟨x, rfl⟩ := hw'
  have := wpAny_of_seq (md := .any) (Q' := Q) (l.drop n) n listed a' (ext w x) (fun j => by simp [List.getElem?_drop]) (by rw [hdl]; exact hL.1) (hL.2 x)
  rwa [hdl] at this) _ _ _ u hu H
theorem fO (l : List Oper) : ∀ (idx : List Nat), (idx.all fun i => decide (i < l.length)) = true → idx.map (l.toArray[·]?) = (idx.filterMap fun i => l[i]?).map some
 | [], _ => rfl
 | k :: ks, h => by
  simp only [List.all_cons, Bool.and_eq_true, decide_eq_true_eq] at h
  have hk : l[k]? = some l[k] := List.getElem?_eq_getElem h.1
  simp only [List.map_cons, List.filterMap_cons, hk, List.getElem?_toArray]
  rw [← fO l ks h.2]
  simp
theorem iA {Q : Exit → Act → World → Prop} {a : Act} {w u : World} {l : List Oper} {listed : Array Bool} {fuel : Nat} (n : Nat) (pre idx : List Nat) (hB : headB .any l.toArray n pre idx listed = true)
  (hidx : (idx.all fun i => decide (i < l.length)) = true) (hfuel : fuel = idx.length + (l.toArray.size - n)) (hu : ∃ x, u = ext w x)
  (h : wpQuiet P l.toArray (fun w' => ∃ x, w' = ext w x) (fun a' => ∀ x, wpList P l.toArray Q (l.drop n) a' (ext w x)) (idx.filterMap fun i => l[i]?) a) : wpAny P .any l.toArray Q fuel listed a u :=
 pd n pre idx hB (fO l idx hidx) hfuel hu h
theorem iQ (w : World) : ∃ x, ({ w with drawn := w.drawn + 1 } : World) = ext w x := ⟨{ w with heap := #[], drawn := w.drawn + 1 }, by simp [ext]⟩
theorem aJ {f : FuncId} {args : Array Value} {w : World} {x : World} {v : Value}
  (h : Calls P f args (ext w x) fun e w' => e = .returned v ∧ Below (ext w x).heap.size (ext w x) w') : Calls P f args (ext w x) fun e w'' => e = .returned v ∧ ∃ x, w'' = ext w x :=
 h.mono fun _ _ ⟨he, hb⟩ => ⟨he, by obtain ⟨y, rfl⟩ := a9 hb; exact ⟨_, fp _ _ _⟩⟩
end
def Later (w w' : World) : Prop := Below w.heap.size w w'
theorem Later.refl (w : World) : Later w w := Below.refl _ _
theorem Later.trans {a b c : World} (h : Later a b) (k : Later b c) : Later a c := Below.trans h (Below.mono k h.size)
section
variable {P : Program} {ops : Array Oper} {md : Region.Mode} {w0 : World}
def Gives (P : Program) (ops : Array Oper) (w0 : World) (o : Oper) (v : Value) (a : Act) : Prop :=
 (Region.wanted o (yielded ops a.tmps) = true ∧ ∀ w, Later w0 w → Oper.quietUpon P (Later w) w v ((execOp a.eval o).run P w)) ∨
 (Region.wanted o (yielded ops a.tmps) = false ∧ v = undef)
def Makes (P : Program) (ops : Array Oper) (o : Oper) (O : Obj) : Prop :=
 ∀ (a : Act) (w : World), Region.wanted o (yielded ops a.tmps) = true ∧ (execOp a.eval o).run P w = .ok (.value (.pointer (some ⟨w.heap.size, 0, none⟩))) (w.alloc O)
theorem Gives.of_same {o : Oper} {v : Value} {a a' : Act} (hy : Gives P ops w0 o v a) (he : execOp a'.eval o = execOp a.eval o)
  (hw : Region.wanted o (yielded ops a'.tmps) = Region.wanted o (yielded ops a.tmps)) : Gives P ops w0 o v a' := by
 unfold Gives at *
 rw [he, hw]
 exact hy
structure Has (w0 : World) (Bs : List (Nat × Obj)) (w : World) : Prop where
 later : Later w0 w
 blk : ∀ x ∈ Bs, w0.heap.size ≤ x.1 ∧ w.heap[x.1]? = some x.2
theorem Has.step {Bs : List (Nat × Obj)} {w w' : World} (h : Has w0 Bs w) (k : Later w w') : Has w0 Bs w' :=
 ⟨h.later.trans k, fun x hx => ⟨(h.blk x hx).1, by
  have := (h.blk x hx).2
  rw [k.block x.1 (Array.getElem?_eq_some_iff.1 this).1]; exact this⟩⟩
theorem Has.make {Bs : List (Nat × Obj)} {w : World} (h : Has w0 Bs w) (O : Obj) : Has w0 ((w.heap.size, O) :: Bs) (w.alloc O) := by
 have k : Later w (w.alloc O) := (Below.refl _ _).alloc (Nat.le_refl _) O
 have h' := h.step k
 refine ⟨h'.later, fun x hx => ?_⟩
 rcases List.mem_cons.1 hx with rfl | hx
 ·exact ⟨h.later.size, by show (w.heap.push O)[w.heap.size]? = _; simp⟩
 ·exact h'.blk x hx
def anyH (P : Program) (md : Region.Mode) (ops : Array Oper) (w0 : World) (n : Nat) (al : Nat → Option Obj) (L : Array Bool → Act → List (Nat × Obj) → Prop) : Nat → Array Bool → Act → List (Nat × Obj) → Prop
 | 0, listed, a, Bs => L listed a Bs
 | f + 1, listed, a, Bs =>
  Region.ready md ops listed ≠ [] ∧ ∀ i ∈ Region.ready md ops listed, i < n ∧ ∃ o, ops[i]? = some o ∧
   ((al i = none ∧ ∃ v, Gives P ops w0 o v a ∧ anyH P md ops w0 n al L f (listed.setIfInBounds i true) (a.put o.dst v) Bs) ∨
       (∃ O, al i = some O ∧ Makes P ops o O ∧ ∀ b, (∀ x ∈ Bs, x.1 ≠ b) → anyH P md ops w0 n al L f (listed.setIfInBounds i true) (a.put o.dst (.pointer (some ⟨b, 0, none⟩))) ((b, O) :: Bs)))
theorem eW {i : Nat} {o : Oper} {v : Value} {a : Act} {w : World} {K : Act → World → Prop} {Q' : Exit → Act → World → Prop} (hi : ops[i]? = some o) (hw : Later w0 w) (hy : Gives P ops w0 o v a)
  (h : ∀ w', Later w w' → K (a.put o.dst v) w') : wpOp P ops Q' i K a w := by
 unfold wpOp
 simp only [hi]
 rcases hy with ⟨hwa, hv⟩ | ⟨hwa, rfl⟩
 ·simp only [hwa, if_true]
  refine .inl ?_
  have h3 := hv w hw
  unfold Oper.wp
  generalize (execOp a.eval o).run P w = r at *
  cases r with
  | ok n w' =>
   cases n <;> simp only [Oper.quietUpon] at h3 <;> simp only [Oper.upon]
   case value u =>
    obtain ⟨e1, e2⟩ := h3
    rw [e1, e2]
    exact h _ (Later.refl _)
   case skip =>
    obtain ⟨e1, e2⟩ := h3
    rw [e1, ← e2]
    exact h _ (Later.refl _)
   case enter f args =>
    obtain ⟨e1, hc⟩ := h3
    rw [e1]
    exact hc.mono fun e w'' ⟨he, hw''⟩ => by subst he; exact h _ hw''
  | halt x w' => simp only [Oper.quietUpon] at h3
 ·simp only [hwa, Bool.false_eq_true, if_false]; exact h _ (Later.refl _)
theorem cd {n g : Nat} {al : Nat → Option Obj} {L : Array Bool → Act → List (Nat × Obj) → Prop} {Q' : Exit → Act → World → Prop} (hL : ∀ listed a Bs w, Has w0 Bs w → L listed a Bs → wpAny P md ops Q' g listed a w) :
  ∀ (f : Nat) (listed : Array Bool) (a : Act) (Bs : List (Nat × Obj)) (w : World), Has w0 Bs w → anyH P md ops w0 n al L f listed a Bs → wpAny P md ops Q' (f + g) listed a w
 | 0, listed, a, Bs, w, hw, h => by rw [Nat.zero_add]; exact hL _ _ _ _ hw h
 | f + 1, listed, a, Bs, w, hw, h => by
  rw [show f + 1 + g = (f + g) + 1 by omega]
  refine ⟨fun h0 => absurd h0 h.1, fun i hi => ?_⟩
  obtain ⟨hin, o, ho, hcase⟩ := h.2 i hi
  rcases hcase with ⟨_, v, hy, hK⟩ | ⟨O, _, hM, hK⟩
  ·exact eW ho hw.later hy fun w' hw' => cd hL f _ _ _ w' (hw.step hw') hK
  ·unfold wpOp
   simp only [ho]
   obtain ⟨hwa, hrun⟩ := hM a w
   simp only [hwa, if_true]
   refine .inl ?_
   unfold Oper.wp
   rw [hrun]
   simp only [Oper.upon]
   refine cd hL f _ _ _ _ (hw.make O) (hK _ fun x hx e => ?_)
   have := (hw.blk x hx).2
   rw [e] at this
   simp at this
theorem lJ {n i : Nat} {pre : List Nat} {oi : Oper} {v : Value} {al : Nat → Option Obj} {L : Array Bool → Act → List (Nat × Obj) → Prop} (hi : ops[i]? = some oi) (hal : al i = none) (hsel : ∀ (j : Nat) (o : Oper) cs b, ops[j]? = some o → o.op ≠ .select cs b)
  (hs : sinkB md ops n pre = true) (hc : Region.chainB md ops n = true) (hn : n < ops.size) (hin : i < n)
  (hdone : ∀ listed a Bs, L listed a Bs → ∀ j ∈ Region.ready md ops listed, n ≤ j) :
  ∀ (f : Nat) (listed : Array Bool) (a : Act) (Bs : List (Nat × Obj)), Inv md ops n pre listed →
   (∀ j oj, ops[j]? = some oj → j ≠ i → listed.getD j true = false → (∀ e ∈ oj.after, Region.binds md e = true → e.on ≠ i) → oi.apart ops oj = true) →
   i ∈ Region.ready md ops listed → Gives P ops w0 oi v a →
   anyH P md ops w0 n al L f (listed.setIfInBounds i true) (a.put oi.dst v) Bs → anyH P md ops w0 n al L (f + 1) listed a Bs := by
 intro f
 induction f with
 | zero =>
  intro listed a Bs inv _ hr hy H
  have hun := (mem_ready.1 hr).1
  have hjn : ∀ j ∈ Region.ready md ops listed, j < n := fun j hj =>
   (Nat.lt_or_ge j n).elim id fun h => absurd hj (cV hs hc hn inv _ i rfl hin hun j h)
  refine ⟨fun h => (by rw [h] at hr; cases hr), fun j hj => ⟨hjn j hj, ?_⟩⟩
  by_cases hji : j = i
  ·subst hji; exact ⟨oi, hi, Or.inl ⟨hal, v, hy, H⟩⟩
  ·have := hdone _ _ _ H j (ready_mono hj hji)
   have := hjn j hj
   omega
 | succ f ih =>
  intro listed a Bs inv hfree hr hy H
  have hun := (mem_ready.1 hr).1
  refine ⟨fun h => (by rw [h] at hr; cases hr), fun j hj => ?_⟩
  have hjn : j < n := (Nat.lt_or_ge j n).elim id fun h => absurd hj (cV hs hc hn inv _ i rfl hin hun j h)
  refine ⟨hjn, ?_⟩
  by_cases hji : j = i
  ·subst hji; exact ⟨oi, hi, Or.inl ⟨hal, v, hy, H⟩⟩
  ·obtain ⟨hjun, oj, hoj, hall⟩ := mem_ready.1 hj
   have hnot : ∀ e ∈ oj.after, Region.binds md e = true → e.on ≠ i := fun e he hb heq => by
    have h1 := hall e he hb
    rw [heq, getD_both hun] at h1
    cases h1
   have hap := hfree j oj hoj hji hjun hnot
   obtain ⟨a1, a2, a3⟩ := Oper.apart_spec hap
   have hsi := fun cs b => hsel i oi cs b hi
   have hsj := fun cs b => hsel j oj cs b hoj
   have keep : ∀ u, Gives P ops w0 oi v (a.put oj.dst u) := fun u => hy.of_same (execOp_put oi hsi a oj.dst u a3) (wanted_put oi a oj.dst u a3)
   have hfree' : ∀ k ok, ops[k]? = some ok → k ≠ i → (listed.setIfInBounds j true).getD k true = false →
     (∀ e ∈ ok.after, Region.binds md e = true → e.on ≠ i) → oi.apart ops ok = true := fun k ok hk hki hun' hno => by
    refine hfree k ok hk hki ?_ hno
    by_cases hjk : j = k
    ·subst hjk; exact hjun
    ·rw [getD_set_ne true hjk] at hun'; exact hun'
   obtain ⟨_, o', ho', hcase⟩ := H.2 j (ready_mono hj hji)
   have : o' = oj := Option.some.inj (ho'.symm.trans hoj)
   subst this
   refine ⟨o', hoj, ?_⟩
   rcases hcase with ⟨hnone, u, hu, hK⟩ | ⟨O, hO, hM, hK⟩
   ·refine Or.inl ⟨hnone, u, hu.of_same (execOp_put o' hsj a oi.dst v a1).symm (wanted_put o' a oi.dst v a1).symm, ?_⟩
    refine ih (listed.setIfInBounds j true) _ Bs (inv.set hj hjn) hfree' (ready_mono hr (Ne.symm hji)) (keep u) ?_
    rw [Array.setIfInBounds_comm _ _ hji, ← Act.put_comm a v u a2]
    exact hK
   ·refine Or.inr ⟨O, hO, hM, fun b hb => ?_⟩
    refine ih (listed.setIfInBounds j true) _ _ (inv.set hj hjn) hfree' (ready_mono hr (Ne.symm hji)) (keep _) ?_
    rw [Array.setIfInBounds_comm _ _ hji, ← Act.put_comm a v _ a2]
    exact hK b hb
def wpG (P : Program) (ops : Array Oper) (w0 : World) (Q : Act → Prop) : List Oper → Act → Prop
 | [], a => Q a
 | o :: rest, a => ∃ v, Gives P ops w0 o v a ∧ wpG P ops w0 Q rest (a.put o.dst v)
def lexG (md : Region.Mode) (ops : Array Oper) (n : Nat) (al : List Nat) : List Nat → Array Bool → Option (Array Bool)
 | [], listed => some listed
 | k :: ks, listed => if decide (k < n) && !al.contains k && (Region.ready md ops listed).contains k && Region.free md ops listed k then lexG md ops n al ks (listed.setIfInBounds k true) else none
theorem gE {n : Nat} {pre als : List Nat} {al : Nat → Option Obj} {L : Array Bool → Act → List (Nat × Obj) → Prop} {g : Nat} {R : Act → Prop} {done : Array Bool} (hals : ∀ k, als.contains k = false → al k = none) (hsel : Region.noSelect ops = true) (hs : sinkB md ops n pre = true) (hc : Region.chainB md ops n = true) (hn : n < ops.size)
  (hdone : ∀ listed a Bs, L listed a Bs → ∀ j ∈ Region.ready md ops listed, n ≤ j) (hR : ∀ a, R a → anyH P md ops w0 n al L g done a []) :
  ∀ (idx : List Nat) (l : List Oper) (listed : Array Bool) (a : Act), idx.map (ops[·]?) = l.map some → Inv md ops n pre listed →
  lexG md ops n als idx listed = some done → wpG P ops w0 R l a → anyH P md ops w0 n al L (idx.length + g) listed a []
 | [], [], listed, a, _, _, hB, h => by
  simp only [lexG, Option.some.injEq] at hB
  subst hB
  simpa using hR a h
 | k :: ks, o :: l, listed, a, hl, inv, hB, h => by
  simp only [List.map_cons, List.cons.injEq] at hl
  simp only [lexG] at hB
  split at hB
  ·rename_i hcond
   simp only [Bool.and_eq_true, decide_eq_true_eq, Bool.not_eq_true'] at hcond
   obtain ⟨⟨⟨hkn, hka⟩, hr⟩, hf⟩ := hcond
   have h0 : ops[k]? = some o := hl.1
   have hr' : k ∈ Region.ready md ops listed := by simpa using hr
   obtain ⟨v, hy, hK⟩ := h
   have := lJ h0 (hals k hka) (Region.noSelect_spec hsel) hs hc hn hkn hdone (ks.length + g) listed a [] inv (Region.free_spec h0 hf) hr' hy
    (gE hals hsel hs hc hn hdone hR ks l _ _ hl.2 (inv.set hr' hkn) hB hK)
   simpa [Nat.add_right_comm, Nat.add_assoc, Nat.add_comm 1] using this
  ·cases hB
 | [], _ :: _, _, _, hl, _, _, _ => by simp at hl
 | _ :: _, [], _, _, hl, _, _, _ => by simp at hl
theorem az {Q : Act → Prop} {a : Act} {o : Oper} {rest : List Oper}
  (h : ∀ K : Act → Prop, (∀ a, wpG P ops w0 Q rest a → K a) → if Region.wanted o (yielded ops a.tmps) then ∃ v, (∀ w, (∃ x, w = ext w0 x) → Oper.quietUpon P (Later w) w v ((execOp a.eval o).run P w)) ∧ K (a.put o.dst v) else K (a.put o.dst undef)) : wpG P ops w0 Q (o :: rest) a := by
 have h := h _ (fun _ h => h)
 split at h
 ·rename_i hw
  obtain ⟨v, h1, h2⟩ := h
  exact ⟨v, Or.inl ⟨hw, fun w hl => h1 w (a9 hl)⟩, h2⟩
 ·rename_i hw
  exact ⟨undef, Or.inr ⟨by simpa using hw, rfl⟩, h⟩
theorem cW {Q : Act → Prop} {a : Act} (h : Q a) : wpG P ops w0 Q [] a := h
def preB (md : Region.Mode) (ops : Array Oper) (n : Nat) (pre : List Nat) (listed : Array Bool) : Bool :=
 Region.noSelect ops && decide (n < ops.size) && decide (listed.size = ops.size) && closedB md ops listed && tailB ops n listed && (pre.all fun p => listed.getD p false) && sinkB md ops n pre && Region.chainB md ops n
theorem kT {n : Nat} {pre : List Nat} {listed : Array Bool} (hB : preB md ops n pre listed = true) : Region.noSelect ops = true ∧ n < ops.size ∧ sinkB md ops n pre = true ∧ Region.chainB md ops n = true ∧ Inv md ops n pre listed := by
 simp only [preB, Bool.and_eq_true, decide_eq_true_eq] at hB
 obtain ⟨⟨⟨⟨⟨⟨⟨hsel, hn⟩, hsz⟩, hcl⟩, htl⟩, hpre⟩, hs⟩, hc⟩ := hB
 refine ⟨hsel, hn, hs, hc, ⟨⟨hsz, fun j oj hj hl e he hb => ?_, fun t ht htlt => ?_⟩, fun p hp => ?_⟩⟩
 ·have h1 := List.all_eq_true.1 hcl j (List.mem_range.2 (Array.getElem?_eq_some_iff.1 hj).1)
  simp only [hl, Bool.not_true, Bool.false_or, hj] at h1
  have h2 := Array.all_eq_true_iff_forall_mem.1 h1 e he
  simpa [hb] using h2
 ·have h1 := List.all_eq_true.1 htl t (List.mem_range.2 htlt)
  simp only [Bool.or_eq_true, decide_eq_true_eq, Bool.not_eq_true'] at h1
  rcases h1 with h1 | h1
  ·omega
  ·exact h1
 ·exact List.all_eq_true.1 hpre p hp
theorem mC {Q : Exit → Act → World → Prop} {a : Act} {w : World} {l : List Oper} {listed done : Array Bool} {fuel : Nat} (n : Nat) (pre idx : List Nat) (i1 : Nat) (o1 : Oper) (O1 : Obj)
  (hB : preB .any l.toArray n pre listed = true) (hX : lexG .any l.toArray n [i1] idx listed = some done) (hi1 : l.toArray[i1]? = some o1) (hin : decide (i1 < n) = true) (hM : Makes P l.toArray o1 O1)
  (hE : (decide (Region.ready .any l.toArray done = [i1]) && Region.seqB .any l.toArray (l.toArray.size - n) n (done.setIfInBounds i1 true)) = true)
  (hidx : (idx.all fun i => decide (i < l.length)) = true) (hfuel : fuel = idx.length + 1 + (l.toArray.size - n))
  (h : wpG P l.toArray w0 (fun a' => ∀ b w, Later w0 w → w0.heap.size ≤ b → w.heap[b]? = some O1 → wpList P l.toArray Q (l.drop n) (a'.put o1.dst (.pointer (some ⟨b, 0, none⟩))) w) (idx.filterMap fun i => l[i]?) a) (hw : Later w0 w) : wpAny P .any l.toArray Q fuel listed a w := by
 obtain ⟨hsel, hn, hs, hc, inv⟩ := kT hB
 simp only [Bool.and_eq_true, decide_eq_true_eq] at hE hin
 obtain ⟨hE1, hE2⟩ := hE
 have hdl : (l.drop n).length = l.toArray.size - n := by simp
 let L : Array Bool → Act → List (Nat × Obj) → Prop := fun listed' a' Bs => Region.seqB .any l.toArray (l.toArray.size - n) n listed' = true ∧ ∀ w, Has w0 Bs w → wpList P l.toArray Q (l.drop n) a' w
 have H := gE (md := .any) (g := 1) (L := L) (al := fun i => if i = i1 then some O1 else none) (als := [i1]) (done := done) (fun k hk => by simp at hk; simp [hk]) hsel hs hc hn (fun listed' a' Bs hL => seqB_ready hL.1)
  (fun a' ha' => by
   refine ⟨by rw [hE1]; simp, fun i hi => ?_⟩
   rw [hE1] at hi
   obtain rfl : i = i1 := by simpa using hi
   refine ⟨hin, o1, hi1, Or.inr ⟨O1, by simp, hM, fun b _ => ⟨hE2, fun w hw => ?_⟩⟩⟩
   have := hw.blk (b, O1) (by simp)
   exact ha' b w hw.later this.1 this.2) idx _ listed a (fO l idx hidx) inv hX h
 rw [hfuel]
 refine cd (Q' := Q) (L := L) (fun listed' a' Bs w' hw' hL => ?_) _ _ _ [] w ⟨hw, fun x hx => by cases hx⟩ H
 have := wpAny_of_seq (md := .any) (Q' := Q) (l.drop n) n listed' a' w' (fun j => by simp [List.getElem?_drop]) (by rw [hdl]; exact hL.1) (hL.2 w' hw')
 rwa [hdl] at this
theorem fj {Q : Exit → Act → World → Prop} {a : Act} {w : World} {l : List Oper} {listed done : Array Bool} {fuel : Nat} (n : Nat) (pre idx : List Nat) (i1 i2 : Nat) (o1 o2 : Oper) (O1 O2 : Obj)
  (hB : preB .any l.toArray n pre listed = true) (hX : lexG .any l.toArray n [i1, i2] idx listed = some done) (hi1 : l.toArray[i1]? = some o1) (hi2 : l.toArray[i2]? = some o2) (hne : decide (i1 ≠ i2 ∧ i1 < n ∧ i2 < n) = true) (hd : ∀ d, o1.dst = some d → o2.dst ≠ some d) (hM1 : Makes P l.toArray o1 O1) (hM2 : Makes P l.toArray o2 O2)
  (hE : (decide (Region.ready .any l.toArray done = [i1, i2]) && decide (Region.ready .any l.toArray (done.setIfInBounds i1 true) = [i2]) && decide (Region.ready .any l.toArray (done.setIfInBounds i2 true) = [i1]) && Region.seqB .any l.toArray (l.toArray.size - n) n ((done.setIfInBounds i1 true).setIfInBounds i2 true)) = true)
  (hidx : (idx.all fun i => decide (i < l.length)) = true) (hfuel : fuel = idx.length + 2 + (l.toArray.size - n))
  (h : wpG P l.toArray w0 (fun a' => ∀ b1 b2 w, Later w0 w → w0.heap.size ≤ b1 → w0.heap.size ≤ b2 → b1 ≠ b2 → w.heap[b1]? = some O1 → w.heap[b2]? = some O2 → wpList P l.toArray Q (l.drop n) ((a'.put o1.dst (.pointer (some ⟨b1, 0, none⟩))).put o2.dst (.pointer (some ⟨b2, 0, none⟩))) w) (idx.filterMap fun i => l[i]?) a) (hw : Later w0 w) : wpAny P .any l.toArray Q fuel listed a w := by
 obtain ⟨hsel, hn, hs, hc, inv⟩ := kT hB
 simp only [Bool.and_eq_true, decide_eq_true_eq] at hE hne
 obtain ⟨⟨⟨hE1, hE2⟩, hE3⟩, hE4⟩ := hE
 obtain ⟨hne, h1n, h2n⟩ := hne
 have hdl : (l.drop n).length = l.toArray.size - n := by simp
 let L : Array Bool → Act → List (Nat × Obj) → Prop := fun listed' a' Bs => Region.seqB .any l.toArray (l.toArray.size - n) n listed' = true ∧ ∀ w, Has w0 Bs w → wpList P l.toArray Q (l.drop n) a' w
 have H := gE (md := .any) (g := 2) (L := L) (al := fun i => if i = i1 then some O1 else if i = i2 then some O2 else none) (als := [i1, i2]) (done := done) (fun k hk => by simp at hk; simp [hk]) hsel hs hc hn (fun listed' a' Bs hL => seqB_ready hL.1)
  (fun a' ha' => by
   refine ⟨by rw [hE1]; simp, fun i hi => ?_⟩
   rw [hE1] at hi
   have hi' : i = i1 ∨ i = i2 := by simpa using hi
   rcases hi' with rfl | rfl
   ·refine ⟨h1n, o1, hi1, Or.inr ⟨O1, by simp, hM1, fun b1 _ => ⟨by rw [hE2]; simp, fun j hj => ?_⟩⟩⟩
    rw [hE2] at hj
    obtain rfl : j = i2 := by simpa using hj
    refine ⟨h2n, o2, hi2, Or.inr ⟨O2, by simp [Ne.symm hne], hM2, fun b2 hb2 => ⟨hE4, fun w hw => ?_⟩⟩⟩
    have e1 := hw.blk (b1, O1) (by simp)
    have e2 := hw.blk (b2, O2) (by simp)
    exact ha' b1 b2 w hw.later e1.1 e2.1 (hb2 (b1, O1) (by simp)) e1.2 e2.2
   ·refine ⟨h2n, o2, hi2, Or.inr ⟨O2, by simp [Ne.symm hne], hM2, fun b2 _ => ⟨by rw [hE3]; simp, fun j hj => ?_⟩⟩⟩
    rw [hE3] at hj
    obtain rfl : j = i1 := by simpa using hj
    refine ⟨h1n, o1, hi1, Or.inr ⟨O1, by simp, hM1, fun b1 hb1 => ⟨by rw [Array.setIfInBounds_comm _ _ (Ne.symm hne)]; exact hE4, fun w hw => ?_⟩⟩⟩
    have e1 := hw.blk (b1, O1) (by simp)
    have e2 := hw.blk (b2, O2) (by simp)
    rw [← Act.put_comm a' _ _ hd]
    exact ha' b1 b2 w hw.later e1.1 e2.1 (Ne.symm (hb1 (b2, O2) (by simp))) e1.2 e2.2) idx _ listed a (fO l idx hidx) inv hX h
 rw [hfuel]
 refine cd (Q' := Q) (L := L) (fun listed' a' Bs w' hw' hL => ?_) _ _ _ [] w ⟨hw, fun x hx => by cases hx⟩ H
 have := wpAny_of_seq (md := .any) (Q' := Q) (l.drop n) n listed' a' w' (fun j => by simp [List.getElem?_drop]) (by rw [hdl]; exact hL.1) (hL.2 w' hw')
 rwa [hdl] at this
theorem co (w : World) : Later w { w with drawn := w.drawn + 1 } := ⟨rfl, rfl, rfl, Nat.le_refl _, fun _ _ => rfl⟩
end
theorem aT {w : World} {b : Nat} {c : Array Value} {t : TypeId} (h : w.heap[b]? = some (.cells c t)) (i : Nat) : w.cell? ⟨b, i, none⟩ = c[i]? := by simp [World.cell?, h]
theorem aV {w : World} {b : Nat} {c : Array Value} {t : TypeId} (h : w.heap[b]? = some (.cells c t)) (i : Nat) : w.frozen? ⟨b, i, none⟩ = false := by simp [World.frozen?, h]
theorem dT {w : World} {b : Nat} {o : Obj} (h : w.heap[b]? = some o) : b < w.heap.size := (Array.getElem?_eq_some_iff.1 h).1
abbrev St := Option (Bool × Nat)
section
variable {P : Program} {ops : Array Oper} {md : Region.Mode} {w0 : World} {O1 O2 : Obj}
theorem Later.keep {w w' : World} {b : Nat} {o : Obj} (h : Later w w') (hb : w.heap[b]? = some o) : w'.heap[b]? = some o := by
 rw [h.block b (Array.getElem?_eq_some_iff.1 hb).1]; exact hb
def Knows (w0 : World) (O1 O2 : Obj) : St → World → Prop
 | none, w => Later w0 w
 | some (false, b), w => Later w0 w ∧ w0.heap.size ≤ b ∧ w.heap[b]? = some O1
 | some (true, b), w => Later w0 w ∧ w0.heap.size ≤ b ∧ w.heap[b]? = some O2
theorem Knows.later {w : World} : ∀ {s : St}, Knows w0 O1 O2 s w → Later w0 w
 | none, h => h
 | some (false, _), h => h.1
 | some (true, _), h => h.1
theorem Knows.step {w w' : World} (k : Later w w') : ∀ {s : St}, Knows w0 O1 O2 s w → Knows w0 O1 O2 s w'
 | none, h => Later.trans h k
 | some (false, _), h => ⟨h.1.trans k, h.2.1, k.keep h.2.2⟩
 | some (true, _), h => ⟨h.1.trans k, h.2.1, k.keep h.2.2⟩
def Puts (P : Program) (ops : Array Oper) (w0 : World) (O1 O2 : Obj) (o : Oper) (b : Nat) (a : Act) : Prop :=
 Region.wanted o (yielded ops a.tmps) = true ∧ o.dst = none ∧ ∀ w, Later w0 w → w.heap[b]? = some O1 → ∃ w', (execOp a.eval o).run P w = .ok .skip w' ∧ Later w0 w' ∧ w'.heap[b]? = some O2
theorem Puts.of_same {o : Oper} {b : Nat} {a a' : Act} (hy : Puts P ops w0 O1 O2 o b a) (he : execOp a'.eval o = execOp a.eval o)
  (hw : Region.wanted o (yielded ops a'.tmps) = Region.wanted o (yielded ops a.tmps)) : Puts P ops w0 O1 O2 o b a' := by
 unfold Puts at *
 rw [he, hw]
 exact hy
def anyS (P : Program) (md : Region.Mode) (ops : Array Oper) (w0 : World) (O1 O2 : Obj) (i1 i2 : Nat) (L : Array Bool → Act → St → Prop) : Nat → Array Bool → Act → St → Prop
 | 0, listed, a, s => L listed a s
 | f + 1, listed, a, s =>
  Region.ready md ops listed ≠ [] ∧ ∀ i ∈ Region.ready md ops listed, ∃ o, ops[i]? = some o ∧
   ((i ≠ i1 ∧ i ≠ i2 ∧ ∃ v, Gives P ops w0 o v a ∧ anyS P md ops w0 O1 O2 i1 i2 L f (listed.setIfInBounds i true) (a.put o.dst v) s) ∨
       (i = i1 ∧ s = none ∧ Makes P ops o O1 ∧ ∀ b, w0.heap.size ≤ b → anyS P md ops w0 O1 O2 i1 i2 L f (listed.setIfInBounds i true) (a.put o.dst (.pointer (some ⟨b, 0, none⟩))) (some (false, b))) ∨
       (i = i2 ∧ ∃ b, s = some (false, b) ∧ Puts P ops w0 O1 O2 o b a ∧ anyS P md ops w0 O1 O2 i1 i2 L f (listed.setIfInBounds i true) a (some (true, b))))
theorem ce {i1 i2 g : Nat} {L : Array Bool → Act → St → Prop} {Q' : Exit → Act → World → Prop} (hL : ∀ listed a s w, Knows w0 O1 O2 s w → L listed a s → wpAny P md ops Q' g listed a w) :
  ∀ (f : Nat) (listed : Array Bool) (a : Act) (s : St) (w : World), Knows w0 O1 O2 s w → anyS P md ops w0 O1 O2 i1 i2 L f listed a s → wpAny P md ops Q' (f + g) listed a w
 | 0, listed, a, s, w, hw, h => by rw [Nat.zero_add]; exact hL _ _ _ _ hw h
 | f + 1, listed, a, s, w, hw, h => by
  rw [show f + 1 + g = (f + g) + 1 by omega]
  refine ⟨fun h0 => absurd h0 h.1, fun i hi => ?_⟩
  obtain ⟨o, ho, hcase⟩ := h.2 i hi
  rcases hcase with ⟨_, _, v, hy, hK⟩ | ⟨_, rfl, hM, hK⟩ | ⟨_, b, rfl, hP, hK⟩
  ·exact eW ho hw.later hy fun w' hw' => ce hL f _ _ _ w' (Knows.step hw' hw) hK
  ·unfold wpOp
   simp only [ho]
   obtain ⟨hwa, hrun⟩ := hM a w
   simp only [hwa, if_true]
   refine .inl ?_
   unfold Oper.wp
   rw [hrun]
   simp only [Oper.upon]
   refine ce hL f _ _ _ _ ?_ (hK w.heap.size hw.later.size)
   have k : Later w (w.alloc O1) := (Below.refl _ _).alloc (Nat.le_refl _) O1
   exact ⟨hw.later.trans k, hw.later.size, by show (w.heap.push O1)[w.heap.size]? = _; simp⟩
  ·unfold wpOp
   simp only [ho]
   obtain ⟨hwa, hd, hrun⟩ := hP
   obtain ⟨w', hr, hl, hb⟩ := hrun w hw.1 hw.2.2
   simp only [hwa, if_true]
   refine .inl ?_
   unfold Oper.wp
   rw [hr]
   simp only [Oper.upon]
   have ea : a.put o.dst undef = a := by rw [hd]; rfl
   rw [ea]
   exact ce hL f _ _ _ _ (show Knows w0 O1 O2 (some (true, b)) w' from ⟨hl, hw.2.1, hb⟩) hK
theorem lK {i i1 i2 : Nat} {oi : Oper} {v : Value} {L : Array Bool → Act → St → Prop} (hi : ops[i]? = some oi) (h1 : i ≠ i1) (h2 : i ≠ i2) (hsel : ∀ (j : Nat) (o : Oper) cs b, ops[j]? = some o → o.op ≠ .select cs b)
  (hdone : ∀ listed a s, L listed a s → Region.ready md ops listed = []) :
  ∀ (f : Nat) (listed : Array Bool) (a : Act) (s : St),
   (∀ j oj, ops[j]? = some oj → j ≠ i → listed.getD j true = false → (∀ e ∈ oj.after, Region.binds md e = true → e.on ≠ i) → oi.apart ops oj = true) →
   i ∈ Region.ready md ops listed → Gives P ops w0 oi v a →
   anyS P md ops w0 O1 O2 i1 i2 L f (listed.setIfInBounds i true) (a.put oi.dst v) s → anyS P md ops w0 O1 O2 i1 i2 L (f + 1) listed a s := by
 intro f
 induction f with
 | zero =>
  intro listed a s _ hr hy H
  refine ⟨fun h => (by rw [h] at hr; cases hr), fun j hj => ?_⟩
  by_cases hji : j = i
  ·subst hji; exact ⟨oi, hi, Or.inl ⟨h1, h2, v, hy, H⟩⟩
  ·have := ready_mono hj hji
   rw [hdone _ _ _ H] at this
   cases this
 | succ f ih =>
  intro listed a s hfree hr hy H
  have hun := (mem_ready.1 hr).1
  refine ⟨fun h => (by rw [h] at hr; cases hr), fun j hj => ?_⟩
  by_cases hji : j = i
  ·subst hji; exact ⟨oi, hi, Or.inl ⟨h1, h2, v, hy, H⟩⟩
  ·obtain ⟨hjun, oj, hoj, hall⟩ := mem_ready.1 hj
   have hnot : ∀ e ∈ oj.after, Region.binds md e = true → e.on ≠ i := fun e he hb heq => by
    have h1 := hall e he hb
    rw [heq, getD_both hun] at h1
    cases h1
   have hap := hfree j oj hoj hji hjun hnot
   obtain ⟨a1, a2, a3⟩ := Oper.apart_spec hap
   have hsi := fun cs b => hsel i oi cs b hi
   have hsj := fun cs b => hsel j oj cs b hoj
   have keep : ∀ u, Gives P ops w0 oi v (a.put oj.dst u) := fun u => hy.of_same (execOp_put oi hsi a oj.dst u a3) (wanted_put oi a oj.dst u a3)
   have hfree' : ∀ k ok, ops[k]? = some ok → k ≠ i → (listed.setIfInBounds j true).getD k true = false →
     (∀ e ∈ ok.after, Region.binds md e = true → e.on ≠ i) → oi.apart ops ok = true := fun k ok hk hki hun' hno => by
    refine hfree k ok hk hki ?_ hno
    by_cases hjk : j = k
    ·subst hjk; exact hjun
    ·rw [getD_set_ne true hjk] at hun'; exact hun'
   obtain ⟨o', ho', hcase⟩ := H.2 j (ready_mono hj hji)
   have : o' = oj := Option.some.inj (ho'.symm.trans hoj)
   subst this
   refine ⟨o', hoj, ?_⟩
   rcases hcase with ⟨n1, n2, u, hu, hK⟩ | ⟨e1, e2, hM, hK⟩ | ⟨e1, b, e2, hP, hK⟩
   ·refine Or.inl ⟨n1, n2, u, hu.of_same (execOp_put o' hsj a oi.dst v a1).symm (wanted_put o' a oi.dst v a1).symm, ?_⟩
    refine ih (listed.setIfInBounds j true) _ s hfree' (ready_mono hr (Ne.symm hji)) (keep u) ?_
    rw [Array.setIfInBounds_comm _ _ hji, ← Act.put_comm a v u a2]
    exact hK
   ·refine Or.inr (Or.inl ⟨e1, e2, hM, fun b hb => ?_⟩)
    refine ih (listed.setIfInBounds j true) _ _ hfree' (ready_mono hr (Ne.symm hji)) (keep _) ?_
    rw [Array.setIfInBounds_comm _ _ hji, ← Act.put_comm a v _ a2]
    exact hK b hb
   ·refine Or.inr (Or.inr ⟨e1, b, e2, hP.of_same (execOp_put o' hsj a oi.dst v a1).symm (wanted_put o' a oi.dst v a1).symm, ?_⟩)
    refine ih (listed.setIfInBounds j true) _ _ hfree' (ready_mono hr (Ne.symm hji)) hy ?_
    rw [Array.setIfInBounds_comm _ _ hji]
    exact hK
def lexS (md : Region.Mode) (ops : Array Oper) (i1 i2 : Nat) : List Nat → Array Bool → Option (Array Bool)
 | [], listed => some listed
 | k :: ks, listed => if decide (k ≠ i1) && decide (k ≠ i2) && (Region.ready md ops listed).contains k && Region.free md ops listed k then lexS md ops i1 i2 ks (listed.setIfInBounds k true) else none
theorem gG {i1 i2 : Nat} {L : Array Bool → Act → St → Prop} {g : Nat} {R : Act → Prop} {done : Array Bool} {s : St} (hsel : Region.noSelect ops = true)
  (hdone : ∀ listed a s, L listed a s → Region.ready md ops listed = []) (hR : ∀ a, R a → anyS P md ops w0 O1 O2 i1 i2 L g done a s) :
  ∀ (idx : List Nat) (l : List Oper) (listed : Array Bool) (a : Act), idx.map (ops[·]?) = l.map some →
  lexS md ops i1 i2 idx listed = some done → wpG P ops w0 R l a → anyS P md ops w0 O1 O2 i1 i2 L (idx.length + g) listed a s
 | [], [], listed, a, _, hB, h => by
  simp only [lexS, Option.some.injEq] at hB
  subst hB
  simpa using hR a h
 | k :: ks, o :: l, listed, a, hl, hB, h => by
  simp only [List.map_cons, List.cons.injEq] at hl
  simp only [lexS] at hB
  split at hB
  ·rename_i hcond
   simp only [Bool.and_eq_true, decide_eq_true_eq] at hcond
   obtain ⟨⟨⟨hk1, hk2⟩, hr⟩, hf⟩ := hcond
   have h0 : ops[k]? = some o := hl.1
   have hr' : k ∈ Region.ready md ops listed := by simpa using hr
   obtain ⟨v, hy, hK⟩ := h
   have := lK h0 hk1 hk2 (Region.noSelect_spec hsel) hdone (ks.length + g) listed a s (Region.free_spec h0 hf) hr' hy
    (gG hsel hdone hR ks l _ _ hl.2 hB hK)
   simpa [Nat.add_right_comm, Nat.add_assoc, Nat.add_comm 1] using this
  ·cases hB
 | [], _ :: _, _, _, hl, _, _ => by simp at hl
 | _ :: _, [], _, _, hl, _, _ => by simp at hl
theorem eX {id : Nat} {Q : Exit → Act → World → Prop} {a : Act} {w : World} {l : List Oper} {done all : Array Bool} (idx idx2 : List Nat) (i1 i2 : Nat) (o1 o2 : Oper) (O1 O2 : Obj) (hm : P.follows .mixedOrders = true)
  (hsel : Region.noSelect l.toArray = true) (hX : lexS .any l.toArray i1 i2 idx (Array.replicate l.toArray.size false) = some done) (hX2 : lexS .any l.toArray i1 i2 idx2 ((done.setIfInBounds i1 true).setIfInBounds i2 true) = some all)
  (hi1 : l.toArray[i1]? = some o1) (hi2 : l.toArray[i2]? = some o2) (hM : Makes P l.toArray o1 O1)
  (hE : (decide (Region.ready .any l.toArray done = [i1]) && decide (Region.ready .any l.toArray (done.setIfInBounds i1 true) = [i2]) && decide (Region.ready .any l.toArray all = []) && decide (idx.length + idx2.length + 2 = l.length)) = true)
  (hidx : (idx.all fun i => decide (i < l.length)) = true) (hidx2 : (idx2.all fun i => decide (i < l.length)) = true)
  (h : wpG P l.toArray w (fun a' => ∀ b, w.heap.size ≤ b → Puts P l.toArray w O1 O2 o2 b (a'.put o1.dst (.pointer (some ⟨b, 0, none⟩))) ∧
   wpG P l.toArray w (fun a'' => ∀ w', Later w w' → w'.heap[b]? = some O2 → Q .normal a'' w') (idx2.filterMap fun i => l[i]?) (a'.put o1.dst (.pointer (some ⟨b, 0, none⟩)))) (idx.filterMap fun i => l[i]?) a) :
  (Code.region id l.toArray true).wp P Q a w := by
 simp only [Bool.and_eq_true, decide_eq_true_eq] at hE
 obtain ⟨⟨⟨hE1, hE2⟩, hE3⟩, hE4⟩ := hE
 let L : Array Bool → Act → St → Prop := fun listed' a' s => Region.ready .any l.toArray listed' = [] ∧ ∀ w', Knows w O1 O2 s w' → Q .normal a' w'
 have hLd : ∀ listed a s, L listed a s → Region.ready .any l.toArray listed = [] := fun _ _ _ h => h.1
 have H := gG (md := .any) (L := L) (w0 := w) (O1 := O1) (O2 := O2) (s := none) (g := idx2.length + 0 + 1 + 1) (done := done) hsel hLd
  (fun a' ha' => by
   refine ⟨by rw [hE1]; simp, fun i hi => ?_⟩
   rw [hE1] at hi
   obtain rfl : i = i1 := by simpa using hi
   refine ⟨o1, hi1, Or.inr (Or.inl ⟨rfl, rfl, hM, fun b hb => ?_⟩)⟩
   obtain ⟨hP, hG⟩ := ha' b hb
   refine ⟨by rw [hE2]; simp, fun j hj => ?_⟩
   rw [hE2] at hj
   obtain rfl : j = i2 := by simpa using hj
   refine ⟨o2, hi2, Or.inr (Or.inr ⟨rfl, b, rfl, hP, ?_⟩)⟩
   exact gG (md := .any) (L := L) (w0 := w) (O1 := O1) (O2 := O2) (s := some (true, b)) (g := 0) (done := all) hsel hLd
    (fun a'' ha'' => ⟨hE3, fun w' hw' => ha'' w' hw'.1 hw'.2.2⟩) idx2 _ _ _ (fO l idx2 hidx2) hX2 hG) idx _ _ a (fO l idx hidx) hX h
 refine wp_region_any hm ?_
 have := ce (Q' := Q) (g := 0) (L := L) (fun listed' a' s w' hw' hL => ⟨hL.1, hL.2 w' hw'⟩) _ _ _ none { w with drawn := w.drawn + 1 } (co w) H
 rw [show idx.length + (idx2.length + 0 + 1 + 1) + 0 = l.toArray.size by simp; omega] at this
 exact this
end
end Go.Proofs.YtjkiplndbcmmbaaGreatDoor