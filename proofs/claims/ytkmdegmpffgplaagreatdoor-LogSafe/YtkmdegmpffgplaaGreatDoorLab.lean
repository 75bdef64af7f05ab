/- Maps, whatever their elements, II: a store in a drawn region, a range over a map, how many entries there can be; worlds that differ in some blocks alone. -/
import Derived.Test.YtkmdegmpffgplaaGreatDoorLaa
import Derived.Maps.RangeWalk
import Derived.StillTail
import Derived.Deep.Quiet
import Derived.Below
import Derived.WalkKit
import Derived.RangeFuncCalls
import Derived.OrdersIn
import Derived.TacticsIn
namespace Go.Proofs.YtkmdegmpffgplaaGreatDoor
open Go.RowKit Go.Maps
open Go.WideElems (Fit rd rg pl rd_key rd_val rg_of other_key)
set_option linter.unusedVariables false

/-- all blocks that there were are as they were, but for those of X -/
structure But (X : Nat → Prop) (w w' : World) : Prop where
  os : w'.os = w.os
  tape : w'.tape = w.tape
  output : w'.output = w.output
  size : w.heap.size ≤ w'.heap.size
  block : ∀ i, i < w.heap.size → ¬ X i → w'.heap[i]? = w.heap[i]?
theorem But.refl (X : Nat → Prop) (w : World) : But X w w := ⟨rfl, rfl, rfl, Nat.le_refl _, fun _ _ _ => rfl⟩
theorem But.trans {X Y : Nat → Prop} {a b c : World} (h : But X a b) (k : But Y b c) (hy : ∀ i, i < a.heap.size → Y i → X i) : But X a c :=
  ⟨k.os.trans h.os, k.tape.trans h.tape, k.output.trans h.output, Nat.le_trans h.size k.size, fun i hi hx => (k.block i (Nat.lt_of_lt_of_le hi h.size) (fun y => hx (hy i hi y))).trans (h.block i hi hx)⟩
theorem But.mono {X Y : Nat → Prop} {a b : World} (h : But X a b) (hy : ∀ i, X i → Y i) : But Y a b := ⟨h.os, h.tape, h.output, h.size, fun i hi hx => h.block i hi (fun y => hx (hy i y))⟩
theorem below_but {w w' : World} (h : Below w.heap.size w w') (X : Nat → Prop) : But X w w' := ⟨h.os, h.tape, h.output, h.size, fun i hi _ => h.block i hi⟩
theorem But.below {X : Nat → Prop} {w w' : World} {B : Nat} (h : But X w w') (hB : B ≤ w.heap.size) (hx : ∀ i, X i → B ≤ i) : Below B w w' := ⟨h.os, h.tape, h.output, h.size, fun i hi => h.block i (by omega) (fun y => by have := hx i y; omega)⟩
theorem But.then {X : Nat → Prop} {a b c : World} (h : But X a b) (k : Below b.heap.size b c) : But X a c := h.trans (below_but k (fun _ => False)) (fun _ _ y => False.elim y)
theorem But.bel {X : Nat → Prop} {a b c : World} {B : Nat} (h : Below B a b) (k : But X b c) (hB : B ≤ b.heap.size) (hx : ∀ i, X i → B ≤ i) : Below B a c := h.trans (k.below hB hx)
theorem Upd.but {p : Nat} {w w' : World} (h : Upd p w w') : But (fun i => i = p) w w' := ⟨h.os, h.tape, h.output, Nat.le_of_eq h.size.symm, fun i _ hx => h.block i hx⟩
theorem turned_but {w w' : World} {b : Nat} (h : w.mapTurned w' b) : But (fun i => i = b) w w' := by
  refine ⟨?_, ?_, ?_, Nat.le_of_eq (turned_size h).symm, fun i _ hx => turned_block h i hx⟩ <;> (obtain ⟨es, clock, es', clock', hb, rfl⟩ := h; rfl)
theorem grown_but {w w' : World} {b : Nat} (h : w.grownBy w' (some b)) : But (fun i => i = b) w w' := ⟨h.os, h.tape, h.output, h.size, fun i hi hx => h.block i hi (fun e => hx (by cases e; rfl))⟩
theorem grown_none {w w' : World} (h : w.grownBy w' none) : Below w.heap.size w w' := ⟨h.os, h.tape, h.output, h.size, fun i hi => h.block i hi (by simp)⟩
theorem VA.but {X : Nat → Prop} {w w' : World} {p : Nat} {cs : List Value} {T : TypeId} (h : VA w p cs T) (k : But X w w') (hp : ¬ X p) : VA w' p cs T := ⟨(k.block p h.lt hp).trans h.blk⟩
theorem MapF.but {X : Nat → Prop} {w w' : World} {k : TypeId} {b n : Nat} {f : Lit → Option Value} (h : MapF w k b n f) (s : But X w w') (hb : ¬ X b) : MapF w' k b n f := h.blk (s.block b h.lt hb)
theorem Own.but {α : Type} {K : Kd α} {X : Nat → Prop} {w w' : World} {B : Nat} {v : Value} {xs : List α} (h : Own K w B v xs) (k : But X w w') (hx : ∀ g, v.ownBlock = some g → ¬ X g) : Own K w' B v xs := h.blk fun g hg => k.block g (h.lt g hg) (hx g hg)
/-- m[key] = v as a region that draws its order meets it -/
theorem stMd {w : World} {y : Nat → Option Bool} {o : Oper} {a : Act} {Q : Exit → Act → World → Prop} {K' : Act → World → Prop} {k0 : Prop} (hgd : Region.wanted o y = true) (m x v : Operand) (t : TypeId) (hop : o.op = Op.mapUpdate t m x v)
    (k e : TypeId) (K : Keyed Tryz.prog k) (ht : Tryz.prog.underlying t = some (.map k e)) (b n : Nat) (f : Lit → Option Value) (hm : a.eval m = .map (some b)) (h : MapF w k b n f) (hn : n < maxLen)
    (key val : Value) (kl : Lit) (hx : a.eval x = key) (hv : a.eval v = val) (hkey : keyOf Tryz.prog k key = some kl)
    (hK : ∀ w', MapF w' k b (n + 1) (upF f kl val) → w.mapTurned w' b → K' (a.put o.dst undef) w') : if Region.wanted o y then o.wp Tryz.prog a w K' Q else k0 := by
  rw [if_pos hgd]
  obtain ⟨w', hrun, r1, r2⟩ := h.store K ht hn hkey val
  unfold Oper.wp
  simp [execOp, hop, hm, hx, hv, hrun, Result.andThen]
  exact hK w' r1 r2

/-- a range over a map is under way: the map in block b holds what f says, the iterator is block r; left: what is still to come -/
def RanF (w : World) (k : TypeId) (b r n : Nat) (f : Lit → Option Value) (left : Lit → Bool) (cnt : Nat) : Prop :=
  ∃ D : DataW Value, w.ranges Tryz.prog k heldR b r n D left cnt ∧ ∀ key kl, keyOf Tryz.prog k key = some kl → (Maps.has D kl = (f kl).isSome) ∧ ∀ z, D.atKey kl (.held z) = .held ((f kl).getD z)
theorem RanF.map {w : World} {k : TypeId} {b r n : Nat} {f : Lit → Option Value} {left : Lit → Bool} {cnt : Nat} (h : RanF w k b r n f left cnt) : MapF w k b n f := by
  obtain ⟨D, h, hf⟩ := h; exact ⟨D, h.owns, hf⟩
theorem RanF.left_eq {w : World} {k : TypeId} {b r n : Nat} {f : Lit → Option Value} {left : Lit → Bool} {cnt : Nat} (h : RanF w k b r n f left cnt) : w.rangeLeft b r = cnt := by
  obtain ⟨D, h, hf⟩ := h; exact h.left_eq
theorem RanF.lt {w : World} {k : TypeId} {b r n : Nat} {f : Lit → Option Value} {left : Lit → Bool} {cnt : Nat} (h : RanF w k b r n f left cnt) : r < w.heap.size := by
  obtain ⟨D, h, hf⟩ := h; exact h.lt
theorem RanF.blk {w w' : World} {k : TypeId} {b r n : Nat} {f : Lit → Option Value} {left : Lit → Bool} {cnt : Nat} (h : RanF w k b r n f left cnt) (e1 : w'.heap[b]? = w.heap[b]?) (e2 : w'.heap[r]? = w.heap[r]?) : RanF w' k b r n f left cnt := by
  obtain ⟨D, ⟨es, clock, since, seen, c0, hb, F, hs, hD, hr, rest⟩, hf⟩ := h
  exact ⟨D, ⟨es, clock, since, seen, c0, e1.trans hb, F, hs, hD, e2.trans hr, rest⟩, hf⟩
theorem RanF.but {X : Nat → Prop} {w w' : World} {k : TypeId} {b r n : Nat} {f : Lit → Option Value} {left : Lit → Bool} {cnt : Nat} (h : RanF w k b r n f left cnt) (s : But X w w') (hb : ¬ X b) (hr : ¬ X r) : RanF w' k b r n f left cnt :=
  h.blk (s.block b h.map.lt hb) (s.block r h.lt hr)
theorem RanF.step {w w' : World} {k : TypeId} {b r n : Nat} {f : Lit → Option Value} {left : Lit → Bool} {cnt : Nat} (h : RanF w k b r n f left cnt) (s : Below w.heap.size w w') : RanF w' k b r n f left cnt :=
  h.blk (s.block b h.map.lt) (s.block r h.lt)
/-- 'range m' at the operation -/
theorem rgM {w : World} {ops : Array Oper} {rest : List Oper} {o : Oper} {a : Act} {Q : Exit → Act → World → Prop} (hg : o.guard = none) (m : Operand) (t : TypeId) (hop : o.op = Op.range t m) (k e : TypeId) (K : Keyed Tryz.prog k) (ht : Tryz.prog.underlying t = some (.map k e)) (b n : Nat) (f : Lit → Option Value)
    (hm : a.eval m = .map (some b)) (h : MapF w k b n f)
    (hK : ∀ w' left cnt, RanF w' k b w.heap.size n f left cnt → (∀ key kl, keyOf Tryz.prog k key = some kl → left kl = (f kl).isSome) → Below w.heap.size w w' → wpList Tryz.prog ops Q rest (a.put o.dst (.pointer (some ⟨w.heap.size, 0, none⟩))) w') :
    wpList Tryz.prog ops Q (o :: rest) a w := by
  obtain ⟨D, h, hf⟩ := h
  exact wpList_range_own w hg m t hop k e K ht heldR b n D hm h (fun w' h1 h2 h3 => hK w' _ _ ⟨D, h1, hf⟩ (fun key kl hk => (hf key kl hk).1) (grown_none h2))
/-- the step of a range -/
theorem nxM {w : World} {ops : Array Oper} {rest : List Oper} {o : Oper} {a : Act} {Q : Exit → Act → World → Prop} (hg : o.guard = none) (it : Operand) (hop : o.op = Op.next it false) (k : TypeId) (K : Keyed Tryz.prog k) (b r n : Nat) (f : Lit → Option Value) (left : Lit → Bool) (cnt : Nat)
    (hit : a.eval it = .pointer (some ⟨r, 0, none⟩)) (h : RanF w k b r n f left cnt)
    (hDone : (∀ kl, left kl = false) → wpList Tryz.prog ops Q rest (a.put o.dst (.tuple #[.bool false])) w)
    (hMore : ∀ (x c : Value) (kl : Lit) (w' : World) (cnt' : Nat), keyOf Tryz.prog k x = some kl → left kl = true → f kl = some c → RanF w' k b r n f (fun z => left z && !z.sameKey kl) cnt' → cnt' < cnt →
      But (fun i => i = r) w w' → (Instr.entry (.pointer (some ⟨r, 0, none⟩))).run Tryz.prog w' = .ok (.tuple #[x, c]) w' → wpList Tryz.prog ops Q rest (a.put o.dst (.tuple #[.bool true, x, c])) w') :
    wpList Tryz.prog ops Q (o :: rest) a w := by
  obtain ⟨D, h, hf⟩ := h
  refine wpList_next_ranges w hg it hop k K heldR (fun x : Value => x) (fun x : Value => x) (fun key _ _ => ⟨key, rfl⟩) (fun v _ _ => ⟨v, rfl⟩) b r n D left cnt hit h (fun _ hl => hDone hl) ?_
  intro x c kl y w' cnt' hkey hlk hv hat hrg hlt hgr hsz hen
  have h1 : D.atKey kl (.held c) = y.1 := hat _
  have h2 : y.1 = .held c := by
    simp only [heldR, Option.some.injEq] at hv
    rw [← hv]
  have h3 := (hf x kl hkey).2
  have hc : f kl = some c := by
    have a1 := h3 (.bool true)
    have a2 := h3 (.bool false)
    rw [hat, h2] at a1 a2
    cases e : f kl with
    | none =>
      rw [e] at a1 a2
      simp at a1 a2
      rw [a1] at a2
      cases a2
    | some d =>
      rw [e] at a1
      simp at a1
      rw [a1]
  exact hMore x c kl w' cnt' hkey hlk hc ⟨D, hrg, hf⟩ hlt (grown_but hgr) hen

theorem pig : ∀ (l L : List Lit), l.Pairwise (fun a b => a ≠ b) → (∀ x ∈ l, x ∈ L) → l.length ≤ L.length
  | [], L, _, _ => Nat.zero_le _
  | a :: l, L, hp, hs => by
    classical
    obtain ⟨h1, h2⟩ := List.pairwise_cons.1 hp
    have h3 := pig l (L.filter (fun x => decide (x ≠ a))) h2 (fun x hx => List.mem_filter.2 ⟨hs x (List.mem_cons_of_mem _ hx), decide_eq_true (Ne.symm (h1 x hx))⟩)
    have h4 : (L.filter (fun x => decide (x ≠ a))).length < L.length := List.length_filter_lt_length_iff_exists.2 ⟨a, hs a (List.mem_cons_self ..), by simp⟩
    simp only [List.length_cons]
    omega
/-- a map has no more entries than there are keys for it -/
theorem MapF.fit {w : World} {k : TypeId} {b n : Nat} {f : Lit → Option Value} (h : MapF w k b n f) (K : Keyed Tryz.prog k) (L : List Lit) (hL : ∀ key kl, keyOf Tryz.prog k key = some kl → (f kl).isSome = true → kl ∈ L) : MapF w k b L.length f := by
  obtain ⟨D, ⟨es, clock, hb, F, hs, rfl⟩, hf⟩ := h
  refine ⟨_, ⟨es, clock, hb, F, ?_, rfl⟩, hf⟩
  have h1 := Maps.fit_apart K F
  have h2 := pig ((es.toList.map (rg Tryz.prog k heldR)).map (·.1)) L (List.pairwise_map.2 h1) (fun x hx => by
    obtain ⟨p, hp, rfl⟩ := List.mem_map.1 hx
    obtain ⟨e, he, rfl⟩ := List.mem_map.1 hp
    obtain ⟨y, hy⟩ := F.reads e he
    rw [rg_of hy]
    refine hL _ _ (rd_key hy) ?_
    rw [← (hf _ _ (rd_key hy)).1]
    refine List.any_eq_true.2 ⟨rg Tryz.prog k heldR e, mem_sorted.2 (List.mem_map.2 ⟨e, he, rfl⟩), ?_⟩
    rw [rg_of hy]
    exact WideAt.sameKey_self (K.key (rd_key hy)))
  simpa using h2
end Go.Proofs.YtkmdegmpffgplaaGreatDoor
/- A world with more blocks behind it ('ext'), and a law for a region that draws its order: operations that yield one value in every such world come first, a chain of stores follows. No program in this text. -/
namespace Go.Proofs.YtkmdegmpffgplaaGreatDoor
open Go.RowKit
set_option linter.unusedVariables false

/-- The world w with the blocks x.heap behind its own, after x.drawn draws. -/
def ext (w : World) (x : World) : World := { w with heap := w.heap ++ x.heap, drawn := x.drawn }

theorem ext_size (w : World) (x : World) : (ext w x).heap.size = w.heap.size + x.heap.size := by simp [ext]
theorem ext_get (w : World) (x : World) (k : Nat) (h : k < w.heap.size) : (ext w x).heap[k]? = w.heap[k]? := by
  simp [ext, Array.getElem?_append, h]
theorem ext_cell (w : World) (x : World) (b i : Nat) (h : b < w.heap.size) : (ext w x).cell? ⟨b, i, none⟩ = w.cell? ⟨b, i, none⟩ := by
  simp only [World.cell?, ext_get w x b h]
theorem ext_frozen (w : World) (x : World) (b i : Nat) (h : b < w.heap.size) : (ext w x).frozen? ⟨b, i, none⟩ = w.frozen? ⟨b, i, none⟩ := by
  simp only [World.frozen?, ext_get w x b h]
theorem lt_n2 (n : Nat) : (n < n + 1 + 1) = True := by simp; omega
theorem lt_n3 (n : Nat) : (n < n + 1 + 1 + 1) = True := by simp; omega
theorem lt_n4 (n : Nat) : (n < n + 1 + 1 + 1 + 1) = True := by simp; omega
theorem lt_n5 (n : Nat) : (n < n + 1 + 1 + 1 + 1 + 1) = True := by simp; omega
theorem lt_n6 (n : Nat) : (n < n + 1 + 1 + 1 + 1 + 1 + 1) = True := by simp; omega
theorem ext_lt (w x : World) (b : Nat) (h : b < w.heap.size) : (b < (ext w x).heap.size) = True := by rw [ext_size]; simp; omega
theorem ext_lt1 (w x : World) (b : Nat) (h : b < w.heap.size) : (b < (ext w x).heap.size + 1) = True := by rw [ext_size]; simp; omega
theorem ext_lt2 (w x : World) (b : Nat) (h : b < w.heap.size) : (b < (ext w x).heap.size + 1 + 1) = True := by rw [ext_size]; simp; omega
theorem ext_lt3 (w x : World) (b : Nat) (h : b < w.heap.size) : (b < (ext w x).heap.size + 1 + 1 + 1) = True := by rw [ext_size]; simp; omega
theorem ext_drew (w : World) (x : World) : (ext w x).drew = ext w x.drew := rfl
theorem ext_of_drew (w : World) (x : World) : ext w.drew x = ext w x := rfl
theorem ext_of_drewN (w : World) (n : Nat) (x : World) : ext (w.drewN n) x = ext w x := rfl
theorem ext_ext (w : World) (x y : World) : ext (ext w x) y = ext w { y with heap := x.heap ++ y.heap } := by
  simp [ext, Array.append_assoc]
theorem ext_setCell (w : World) (x : World) (b i : Nat) (v : Value) (h : b < w.heap.size) : (ext w x).setCell ⟨b, i, none⟩ v = ext (w.setCell ⟨b, i, none⟩ v) x := by
  simp only [World.setCell, ext]
  congr 1
  apply Array.ext_getElem?
  intro k
  simp only [Array.getElem?_modify, Array.getElem?_append, Array.size_modify]
  split <;> split <;> simp_all
  all_goals omega
theorem below_ext {k : Nat} {a w : World} (h : Below k a w) (hk : k ≤ w.heap.size) (x : World) : Below k a (ext w x) :=
  h.trans ⟨rfl, rfl, rfl, by rw [ext_size]; omega, fun i hi => ext_get w x i (by omega)⟩
theorem bel_ext {a w : World} (h : Below a.heap.size a w) (x : World) : Below a.heap.size a (ext w x) := below_ext h h.size x
theorem ext_of_below {w w' : World} (h : Below w.heap.size w w') : ∃ x, w' = ext w x := by
  refine ⟨{ w' with heap := w'.heap.extract w.heap.size w'.heap.size }, ?_⟩
  have hh : w'.heap = w.heap ++ w'.heap.extract w.heap.size w'.heap.size := by
    apply Array.ext_getElem?
    intro k
    rw [Array.getElem?_append]
    by_cases c : k < w.heap.size
    · rw [if_pos c]; exact h.block k c
    · rw [if_neg c, Array.getElem?_extract]
      have hs := h.size
      by_cases c2 : k < w'.heap.size
      · rw [if_pos (by omega)]; congr 1; omega
      · rw [if_neg (by omega)]; simp; omega
  cases w'
  cases w
  obtain ⟨a1, a2, a3, a4, a5⟩ := h
  simp only at a1 a2 a3
  subst a1 a2 a3
  simp only [ext]
  simp only at hh
  rw [← hh]

/-! the region: a head that is quiet in the class of these worlds, and a chain behind it -/
section
variable {P : Program} {ops : Array Oper} {md : Region.Mode} {C : World → Prop}

/-- Whatever order is picked among the head's operations. -/
def anyHead (P : Program) (md : Region.Mode) (ops : Array Oper) (C : World → Prop) (n : Nat) (L : Array Bool → Act → Prop) : Nat → Array Bool → Act → Prop
  | 0, listed, a => L listed a
  | f + 1, listed, a =>
    Region.ready md ops listed ≠ [] ∧ ∀ i ∈ Region.ready md ops listed, i < n ∧ qOp P ops C i (anyHead P md ops C n L f (listed.setIfInBounds i true)) a

theorem wpAny_of_anyHead {n g : Nat} {L : Array Bool → Act → Prop} {Q' : Exit → Act → World → Prop} (hL : ∀ listed a w, C w → L listed a → wpAny P md ops Q' g listed a w) :
    ∀ (f : Nat) (listed : Array Bool) (a : Act) (w : World), C w → anyHead P md ops C n L f listed a → wpAny P md ops Q' (f + g) listed a w
  | 0, listed, a, w, hw, h => by rw [Nat.zero_add]; exact hL _ _ _ hw h
  | f + 1, listed, a, w, hw, h => by
    rw [show f + 1 + g = (f + g) + 1 by omega]
    exact ⟨fun h0 => absurd h0 h.1, fun i hi => wpOp_of_qOp hw (fun a' w' hw' h' => wpAny_of_anyHead hL f _ a' w' hw' h') (h.2 i hi).2⟩

theorem anyHead_first {n i : Nat} {oi : Oper} {v : Value} {L : Array Bool → Act → Prop} (hi : ops[i]? = some oi) (hsel : ∀ (j : Nat) (o : Oper) cs b, ops[j]? = some o → o.op ≠ .select cs b)
    (hs : Region.sinkB md ops n = true) (hc : Region.chainB md ops n = true) (hn : n < ops.size) (hin : i < n)
    (hdone : ∀ listed a, L listed a → ∀ j ∈ Region.ready md ops listed, n ≤ j) :
    ∀ (f : Nat) (listed : Array Bool) (a : Act), HeadInv md ops n listed →
      (∀ j oj, ops[j]? = some oj → j ≠ i → listed.getD j true = false → (∀ e ∈ oj.after, Region.binds md e = true → e.on ≠ i) → oi.apart ops oj = true) →
      i ∈ Region.ready md ops listed → YieldsIn P ops C oi v a →
      anyHead P md ops C n L f (listed.setIfInBounds i true) (a.put oi.dst v) → anyHead P md ops C n L (f + 1) listed a := by
  intro f
  induction f with
  | zero =>
    intro listed a inv _ hr hy H
    have hun := (mem_ready.1 hr).1
    have hjn : ∀ j ∈ Region.ready md ops listed, j < n := fun j hj =>
      (Nat.lt_or_ge j n).elim id fun h => absurd hj (tail_waits hs hc hn inv _ i rfl hin hun j h)
    refine ⟨fun h => (by rw [h] at hr; cases hr), fun j hj => ⟨hjn j hj, ?_⟩⟩
    by_cases hji : j = i
    · subst hji; exact hy.qOp hi H
    · have := hdone _ _ H j (ready_mono hj hji)
      have := hjn j hj
      omega
  | succ f ih =>
    intro listed a inv hfree hr hy H
    have hun := (mem_ready.1 hr).1
    refine ⟨fun h => (by rw [h] at hr; cases hr), fun j hj => ?_⟩
    have hjn : j < n := (Nat.lt_or_ge j n).elim id fun h => absurd hj (tail_waits hs hc hn inv _ i rfl hin hun j h)
    refine ⟨hjn, ?_⟩
    by_cases hji : j = i
    · subst hji; exact hy.qOp hi H
    · obtain ⟨hjun, oj, hoj, hall⟩ := mem_ready.1 hj
      have hnot : ∀ e ∈ oj.after, Region.binds md e = true → e.on ≠ i := fun e he hb heq => by
        have h1 := hall e he hb
        rw [heq, getD_both hun] at h1
        cases h1
      refine qOp_mono (fun a' h3 => ih (listed.setIfInBounds j true) a' (inv.set hj hjn) (fun k ok hk hki hun' hno => ?_) (ready_mono hr (Ne.symm hji)) h3.1 ?_)
        (qOp_put hoj (hfree j oj hoj hji hjun hnot) (fun cs b => hsel i oi cs b hi) (fun cs b => hsel j oj cs b hoj) hy (H.2 j (ready_mono hj hji)).2)
      · refine hfree k ok hk hki ?_ hno
        by_cases hjk : j = k
        · subst hjk; exact hjun
        · rw [getD_set_ne true hjk] at hun'; exact hun'
      · rw [Array.setIfInBounds_comm _ _ hji]
        exact h3.2

theorem anyHead_lex {n g : Nat} {Lq : Act → Prop} (hsel : Region.noSelect ops = true) (hs : Region.sinkB md ops n = true) (hc : Region.chainB md ops n = true) (hn : n < ops.size) :
    ∀ (l : List Oper) (k : Nat) (listed : Array Bool) (a : Act), (∀ j, j < l.length → l[j]? = ops[k + j]?) → k + l.length = n → HeadInv md ops n listed →
    Region.lexHead md ops g l.length k listed = true → wpQuiet P ops C Lq l a →
    anyHead P md ops C n (fun listed' a' => Region.seqB md ops g n listed' = true ∧ Lq a') l.length listed a
  | [], k, listed, a, _, hk, _, hB, h => by
    have : k = n := by simpa using hk
    subst this
    exact ⟨by simpa [Region.lexHead] using hB, h⟩
  | o :: l, k, listed, a, hl, hk, inv, hB, h => by
    have h0 : ops[k]? = some o := by simpa using (hl 0 (by simp)).symm
    simp only [List.length_cons, Region.lexHead, Bool.and_eq_true] at hB
    obtain ⟨⟨hr, hf⟩, hB'⟩ := hB
    have hkn : k < n := by simp only [List.length_cons] at hk; omega
    have hr' : k ∈ Region.ready md ops listed := by simpa using hr
    have hst : qOp P ops C k (wpQuiet P ops C Lq l) a := by unfold qOp; simp only [h0]; exact h
    obtain ⟨v, hy, hK⟩ := yieldsIn_of_qOp h0 hst
    exact anyHead_first h0 (Region.noSelect_spec hsel) hs hc hn hkn (fun listed' a' hL => seqB_ready hL.1) l.length listed a inv (Region.free_spec h0 hf) hr' hy
      (anyHead_lex hsel hs hc hn l (k + 1) _ _ (fun j hj => by have := hl (j + 1) (by simp; omega); simpa [Nat.add_assoc, Nat.add_comm 1 j] using this) (by simp only [List.length_cons] at hk; omega) (inv.set hr' hkn) hB' hK)

/-- THE LAW: the first n operations are quiet in the worlds that w has become the front of; the others follow one another. -/
theorem wp_region_ext {id : Nat} {Q : Exit → Act → World → Prop} {a : Act} {w : World} {l : List Oper} (n : Nat) (hm : P.follows .mixedOrders = true) (hB : Region.lexTailB .any l.toArray n = true)
    (h : wpQuiet P l.toArray (fun w' => ∃ x, w' = ext w x) (fun a' => ∀ x, wpList P l.toArray Q (l.drop n) a' (ext w x)) (l.take n) a) : (Code.region id l.toArray true).wp P Q a w := by
  simp only [Region.lexTailB, Bool.and_eq_true, decide_eq_true_eq] at hB
  obtain ⟨⟨⟨⟨hsel, hn⟩, hs⟩, hc⟩, hlex⟩ := hB
  have htl : (l.take n).length = n := by simp at hn ⊢; omega
  have hdl : (l.drop n).length = l.toArray.size - n := by simp
  have inv0 : HeadInv .any l.toArray n (Array.replicate l.toArray.size false) :=
    ⟨by simp, fun j oj _ hl => (by rw [getD_replicate_false] at hl; cases hl), fun t _ ht => getD_in (by simpa using ht) (getD_replicate_false _ _)⟩
  have H := anyHead_lex (md := .any) (g := l.toArray.size - n) hsel hs hc hn (l.take n) 0 _ a (fun j hj => by
    have hj' : j < n := by rw [htl] at hj; exact hj
    simp [hj']) (by simpa using htl) inv0 (by rw [htl]; exact hlex) h
  refine wp_region_any hm ?_
  have := wpAny_of_anyHead (Q' := Q) (g := l.toArray.size - n) (fun listed a' w' hw' hL => by
    obtain ⟨x, rfl⟩ := hw'
    have := wpAny_of_seq (md := .any) (Q' := Q) (l.drop n) n listed a' (ext w x) (fun j => by simp [List.getElem?_drop]) (by rw [hdl]; exact hL.1) (hL.2 x)
    rwa [hdl] at this) _ _ _ { w with drawn := w.drawn + 1 } ⟨{ w with heap := #[], drawn := w.drawn + 1 }, by simp [ext]⟩ H
  rw [htl, show n + (l.toArray.size - n) = l.toArray.size by omega] at this
  exact this
/-- The same where nothing is stored. -/
theorem wp_region_extq {id : Nat} {Q : Exit → Act → World → Prop} {a : Act} {w : World} {l : List Oper} (hm : P.follows .mixedOrders = true) (hB : Region.lexB .any l.toArray = true)
    (h : wpQuiet P l.toArray (fun w' => ∃ x, w' = ext w x) (fun a' => ∀ w', (∃ x, w' = ext w x) → Q .normal a' w') l a) : (Code.region id l.toArray true).wp P Q a w :=
  wp_region_quiet (C := fun w' => ∃ x, w' = ext w x) hm hB ⟨{ w with heap := #[], drawn := w.drawn + 1 }, by simp [ext]⟩ (by simpa using h)
/-! the same, where some operations that look at no memory may come up at any time: they are taken first -/
def sinkB (md : Region.Mode) (ops : Array Oper) (n : Nat) (pre : List Nat) : Bool :=
  (List.range n).all fun i => pre.contains i || (List.range (n + 1)).any fun j => decide (i < j) && !pre.contains j && Region.waitsFor md ops j i
def closedB (md : Region.Mode) (ops : Array Oper) (listed : Array Bool) : Bool :=
  (List.range ops.size).all fun j => !listed.getD j false || match ops[j]? with
    | some oj => oj.after.all fun e => !Region.binds md e || listed.getD e.on false
    | none => true
def tailB (ops : Array Oper) (n : Nat) (listed : Array Bool) : Bool := (List.range ops.size).all fun t => decide (t < n) || !listed.getD t true
def lexIdx (md : Region.Mode) (ops : Array Oper) (n g : Nat) : List Nat → Array Bool → Bool
  | [], listed => Region.seqB md ops g n listed
  | k :: ks, listed => decide (k < n) && (Region.ready md ops listed).contains k && Region.free md ops listed k && lexIdx md ops n g ks (listed.setIfInBounds k true)
def headB (md : Region.Mode) (ops : Array Oper) (n : Nat) (pre idx : List Nat) (listed : Array Bool) : Bool :=
  Region.noSelect ops && decide (n < ops.size) && decide (listed.size = ops.size) && closedB md ops listed && tailB ops n listed && (pre.all fun p => listed.getD p false) && sinkB md ops n pre && Region.chainB md ops n && lexIdx md ops n (ops.size - n) idx listed

structure Inv (md : Region.Mode) (ops : Array Oper) (n : Nat) (pre : List Nat) (listed : Array Bool) : Prop where
  head : HeadInv md ops n listed
  pre : ∀ p ∈ pre, listed.getD p false = true
theorem Inv.set {n i : Nat} {pre : List Nat} {listed : Array Bool} (inv : Inv md ops n pre listed) (hi : i ∈ Region.ready md ops listed) (hin : i < n) : Inv md ops n pre (listed.setIfInBounds i true) :=
  ⟨inv.head.set hi hin, fun p hp => getD_set_true (inv.pre p hp)⟩

theorem tail_waits' {n : Nat} {pre : List Nat} {listed : Array Bool} (hs : sinkB md ops n pre = true) (hc : Region.chainB md ops n = true) (hn : n < ops.size) (inv : Inv md ops n pre listed) :
    ∀ (d i : Nat), n - i = d → i < n → listed.getD i true = false → ∀ t, n ≤ t → t ∉ Region.ready md ops listed := by
  intro d
  induction d using Nat.strongRecOn with
  | _ d ih =>
    intro i hd hi hun t ht hr
    obtain ⟨_, ot, hot, hall⟩ := mem_ready.1 hr
    have htlt : t < ops.size := (Array.getElem?_eq_some_iff.1 hot).1
    by_cases htn : t = n
    · subst htn
      have h1 := List.all_eq_true.1 hs i (List.mem_range.2 hi)
      simp only [Bool.or_eq_true] at h1
      rcases h1 with h1 | h1
      · have := inv.pre i (by simpa using h1)
        rw [getD_both hun] at this
        cases this
      obtain ⟨j, hj, hj2⟩ := List.any_eq_true.1 h1
      simp only [Bool.and_eq_true, decide_eq_true_eq] at hj2
      obtain ⟨oj, hoj, e, he, hb, hon⟩ := Region.waitsFor_spec hj2.2
      have hjle : j ≤ t := by have := List.mem_range.1 hj; omega
      by_cases hjt : j = t
      · subst hjt
        have : oj = ot := Option.some.inj (hoj.symm.trans hot)
        subst this
        have h2 := hall e he hb
        rw [hon, getD_both hun] at h2
        cases h2
      · cases hl : listed.getD j false with
        | true =>
          have h2 := inv.head.closed j oj hoj hl e he hb
          rw [hon, getD_both hun] at h2
          cases h2
        | false =>
          have hjs : j < listed.size := by rw [inv.head.size]; omega
          exact ih (t - j) (by omega) j rfl (by omega) (getD_in hjs hl) t (Nat.le_refl _) hr
    · have h1 := List.all_eq_true.1 hc t (List.mem_range.2 htlt)
      simp only [Bool.or_eq_true, decide_eq_true_eq] at h1
      rcases h1 with h1 | h1
      · omega
      · obtain ⟨o', ho', e, he, hb, hon⟩ := Region.waitsFor_spec h1
        have : o' = ot := Option.some.inj (ho'.symm.trans hot)
        subst this
        have h2 := hall e he hb
        rw [hon, getD_both (inv.head.tail (t - 1) (by omega) (by omega))] at h2
        cases h2

theorem anyHead_first' {n i : Nat} {pre : List Nat} {oi : Oper} {v : Value} {L : Array Bool → Act → Prop} (hi : ops[i]? = some oi) (hsel : ∀ (j : Nat) (o : Oper) cs b, ops[j]? = some o → o.op ≠ .select cs b)
    (hs : sinkB md ops n pre = true) (hc : Region.chainB md ops n = true) (hn : n < ops.size) (hin : i < n)
    (hdone : ∀ listed a, L listed a → ∀ j ∈ Region.ready md ops listed, n ≤ j) :
    ∀ (f : Nat) (listed : Array Bool) (a : Act), Inv md ops n pre listed →
      (∀ j oj, ops[j]? = some oj → j ≠ i → listed.getD j true = false → (∀ e ∈ oj.after, Region.binds md e = true → e.on ≠ i) → oi.apart ops oj = true) →
      i ∈ Region.ready md ops listed → YieldsIn P ops C oi v a →
      anyHead P md ops C n L f (listed.setIfInBounds i true) (a.put oi.dst v) → anyHead P md ops C n L (f + 1) listed a := by
  intro f
  induction f with
  | zero =>
    intro listed a inv _ hr hy H
    have hun := (mem_ready.1 hr).1
    have hjn : ∀ j ∈ Region.ready md ops listed, j < n := fun j hj =>
      (Nat.lt_or_ge j n).elim id fun h => absurd hj (tail_waits' hs hc hn inv _ i rfl hin hun j h)
    refine ⟨fun h => (by rw [h] at hr; cases hr), fun j hj => ⟨hjn j hj, ?_⟩⟩
    by_cases hji : j = i
    · subst hji; exact hy.qOp hi H
    · have := hdone _ _ H j (ready_mono hj hji)
      have := hjn j hj
      omega
  | succ f ih =>
    intro listed a inv hfree hr hy H
    have hun := (mem_ready.1 hr).1
    refine ⟨fun h => (by rw [h] at hr; cases hr), fun j hj => ?_⟩
    have hjn : j < n := (Nat.lt_or_ge j n).elim id fun h => absurd hj (tail_waits' hs hc hn inv _ i rfl hin hun j h)
    refine ⟨hjn, ?_⟩
    by_cases hji : j = i
    · subst hji; exact hy.qOp hi H
    · obtain ⟨hjun, oj, hoj, hall⟩ := mem_ready.1 hj
      have hnot : ∀ e ∈ oj.after, Region.binds md e = true → e.on ≠ i := fun e he hb heq => by
        have h1 := hall e he hb
        rw [heq, getD_both hun] at h1
        cases h1
      refine qOp_mono (fun a' h3 => ih (listed.setIfInBounds j true) a' (inv.set hj hjn) (fun k ok hk hki hun' hno => ?_) (ready_mono hr (Ne.symm hji)) h3.1 ?_)
        (qOp_put hoj (hfree j oj hoj hji hjun hnot) (fun cs b => hsel i oi cs b hi) (fun cs b => hsel j oj cs b hoj) hy (H.2 j (ready_mono hj hji)).2)
      · refine hfree k ok hk hki ?_ hno
        by_cases hjk : j = k
        · subst hjk; exact hjun
        · rw [getD_set_ne true hjk] at hun'; exact hun'
      · rw [Array.setIfInBounds_comm _ _ hji]
        exact h3.2

theorem anyHead_idx {n g : Nat} {pre : List Nat} {Lq : Act → Prop} (hsel : Region.noSelect ops = true) (hs : sinkB md ops n pre = true) (hc : Region.chainB md ops n = true) (hn : n < ops.size) :
    ∀ (idx : List Nat) (l : List Oper) (listed : Array Bool) (a : Act), idx.map (ops[·]?) = l.map some → Inv md ops n pre listed →
    lexIdx md ops n g idx listed = true → wpQuiet P ops C Lq l a →
    anyHead P md ops C n (fun listed' a' => Region.seqB md ops g n listed' = true ∧ Lq a') idx.length listed a
  | [], [], listed, a, _, _, hB, h => ⟨by simpa [lexIdx] using hB, h⟩
  | k :: ks, o :: l, listed, a, hl, inv, hB, h => by
    simp only [List.map_cons, List.cons.injEq] at hl
    simp only [lexIdx, Bool.and_eq_true, decide_eq_true_eq] at hB
    obtain ⟨⟨⟨hkn, hr⟩, hf⟩, hB'⟩ := hB
    have h0 : ops[k]? = some o := hl.1
    have hr' : k ∈ Region.ready md ops listed := by simpa using hr
    have hst : qOp P ops C k (wpQuiet P ops C Lq l) a := by unfold qOp; simp only [h0]; exact h
    obtain ⟨v, hy, hK⟩ := yieldsIn_of_qOp h0 hst
    exact anyHead_first' h0 (Region.noSelect_spec hsel) hs hc hn hkn (fun listed' a' hL => seqB_ready hL.1) ks.length listed a inv (Region.free_spec h0 hf) hr' hy
      (anyHead_idx hsel hs hc hn ks l _ _ hl.2 (inv.set hr' hkn) hB' hK)
  | [], _ :: _, _, _, hl, _, _, _ => by simp at hl
  | _ :: _, [], _, _, hl, _, _, _ => by simp at hl

/-- THE LAW, behind those that were taken first. -/
theorem wpAny_ext {Q : Exit → Act → World → Prop} {a : Act} {w u : World} {l lh : List Oper} {listed : Array Bool} {fuel : Nat} (n : Nat) (pre idx : List Nat) (hB : headB .any l.toArray n pre idx listed = true)
    (hidx : idx.map (l.toArray[·]?) = lh.map some) (hfuel : fuel = idx.length + (l.toArray.size - n)) (hu : ∃ x, u = ext w x)
    (h : wpQuiet P l.toArray (fun w' => ∃ x, w' = ext w x) (fun a' => ∀ x, wpList P l.toArray Q (l.drop n) a' (ext w x)) lh a) : wpAny P .any l.toArray Q fuel listed a u := by
  simp only [headB, Bool.and_eq_true, decide_eq_true_eq] at hB
  obtain ⟨⟨⟨⟨⟨⟨⟨⟨hsel, hn⟩, hsz⟩, hcl⟩, htl⟩, hpre⟩, hs⟩, hc⟩, hlex⟩ := hB
  have inv0 : Inv .any l.toArray n pre listed := by
    refine ⟨⟨hsz, fun j oj hj hl e he hb => ?_, fun t ht htlt => ?_⟩, fun p hp => ?_⟩
    · have h1 := List.all_eq_true.1 hcl j (List.mem_range.2 (Array.getElem?_eq_some_iff.1 hj).1)
      simp only [hl, Bool.not_true, Bool.false_or, hj] at h1
      have h2 := Array.all_eq_true_iff_forall_mem.1 h1 e he
      simpa [hb] using h2
    · have h1 := List.all_eq_true.1 htl t (List.mem_range.2 htlt)
      simp only [Bool.or_eq_true, decide_eq_true_eq, Bool.not_eq_true'] at h1
      rcases h1 with h1 | h1
      · omega
      · exact h1
    · exact List.all_eq_true.1 hpre p hp
  have H := anyHead_idx (md := .any) (g := l.toArray.size - n) (C := fun w' => ∃ x, w' = ext w x) hsel hs hc hn idx lh listed a hidx inv0 hlex h
  have hdl : (l.drop n).length = l.toArray.size - n := by simp
  rw [hfuel]
  exact wpAny_of_anyHead (Q' := Q) (g := l.toArray.size - n) (fun listed a' w' hw' hL => by
    obtain ⟨x, rfl⟩ := hw'
    have := wpAny_of_seq (md := .any) (Q' := Q) (l.drop n) n listed a' (ext w x) (fun j => by simp [List.getElem?_drop]) (by rw [hdl]; exact hL.1) (hL.2 x)
    rwa [hdl] at this) _ _ _ u hu H
theorem idx_ok (l : List Oper) : ∀ (idx : List Nat), (idx.all fun i => decide (i < l.length)) = true → idx.map (l.toArray[·]?) = (idx.filterMap fun i => l[i]?).map some
  | [], _ => rfl
  | k :: ks, h => by
    simp only [List.all_cons, Bool.and_eq_true, decide_eq_true_eq] at h
    have hk : l[k]? = some l[k] := List.getElem?_eq_getElem h.1
    simp only [List.map_cons, List.filterMap_cons, hk, List.getElem?_toArray]
    rw [← idx_ok l ks h.2]
    simp
theorem wpAny_exti {Q : Exit → Act → World → Prop} {a : Act} {w u : World} {l : List Oper} {listed : Array Bool} {fuel : Nat} (n : Nat) (pre idx : List Nat) (hB : headB .any l.toArray n pre idx listed = true)
    (hidx : (idx.all fun i => decide (i < l.length)) = true) (hfuel : fuel = idx.length + (l.toArray.size - n)) (hu : ∃ x, u = ext w x)
    (h : wpQuiet P l.toArray (fun w' => ∃ x, w' = ext w x) (fun a' => ∀ x, wpList P l.toArray Q (l.drop n) a' (ext w x)) (idx.filterMap fun i => l[i]?) a) : wpAny P .any l.toArray Q fuel listed a u :=
  wpAny_ext n pre idx hB (idx_ok l idx hidx) hfuel hu h
theorem ext_drawn (w : World) : ∃ x, ({ w with drawn := w.drawn + 1 } : World) = ext w x := ⟨{ w with heap := #[], drawn := w.drawn + 1 }, by simp [ext]⟩
/-- A callee's contract, met in such a world. -/
theorem calls_ext {f : FuncId} {args : Array Value} {w : World} {x : World} {v : Value}
    (h : Calls P f args (ext w x) fun e w' => e = .returned v ∧ Below (ext w x).heap.size (ext w x) w') : Calls P f args (ext w x) fun e w'' => e = .returned v ∧ ∃ x, w'' = ext w x :=
  h.mono fun _ _ ⟨he, hb⟩ => ⟨he, by obtain ⟨y, rfl⟩ := ext_of_below hb; exact ⟨_, ext_ext _ _ _⟩⟩
end
end Go.Proofs.YtkmdegmpffgplaaGreatDoor
/- A region that draws its order, within a round of a range over a function: by the laws for regions outside of one. -/
namespace Go.Proofs.YtkmdegmpffgplaaGreatDoor
open Go.RowKit
set_option linter.unusedVariables false

variable {P : Program} {ops : Array Oper} {Q : Exit → Act → World → Prop} {md : Region.Mode} {n l : Nat}
theorem oper_round {o : Oper} {a : Act} {w : World} {K : Act → World → Prop} (hd : ∀ c, o.op ≠ .defer c) (h : o.wp P a w K Q) : o.wpIn (Fence.wide.inRound l) n P a w K Q := by
  refine ⟨fun _ _ => trivial, ?_⟩
  have e : o.semAt (Fence.wide.inRound l).round a.eval = execOp a.eval o := Oper.semAt_some l _ _ hd
  rw [e]
  unfold Oper.wp at h
  generalize (execOp a.eval o).run P w = r at *
  cases r with
  | ok x w' =>
    cases x with
    | value v => exact h
    | skip => exact h
    | defer d => exact h
    | enter f args => exact ⟨fun e => (by cases e), CallsIn.inRound l (callsIn_wide.2 h)⟩
    | row r args =>
      refine ⟨fun e => (by cases e), fun c cs _ => ?_⟩
      obtain ⟨v, w'', h1, h2⟩ := h c cs
      exact ⟨v, w'', h1, stepsIn_wide.2 h2⟩
    | round => exact h.elim
    | _ => exact h
  | halt x w' => cases x <;> exact h
theorem wpOp_round {i : Nat} {a : Act} {w : World} {K : Act → World → Prop} (hd : ∀ o c, ops[i]? = some o → o.op ≠ .defer c) (hq : ¬ LetsOut Q) (h : wpOp P ops Q i K a w) : wpOpIn (Fence.wide.inRound l) n P ops Q i K a w := by
  unfold wpOp at h
  unfold wpOpIn
  cases ho : ops[i]? with
  | none => simpa [ho] using h
  | some o =>
    simp only [ho] at h ⊢
    split
    · rename_i hw
      simp only [hw, if_true] at h
      rcases h with h | h
      · exact oper_round (fun c => hd o c ho) h
      · exact absurd h.2 hq
    · rename_i hw
      simp only [hw] at h
      exact ⟨fun _ _ => trivial, h⟩
theorem wpAny_round (hd : ∀ (i : Nat) (o : Oper) (c : Call), ops[i]? = some o → o.op ≠ .defer c) (hq : ¬ LetsOut Q) : ∀ (fuel : Nat) (listed : Array Bool) (a : Act) (w : World), wpAny P md ops Q fuel listed a w → wpAnyIn (Fence.wide.inRound l) n P md ops Q fuel listed a w
  | 0, listed, a, w, h => h
  | fuel + 1, listed, a, w, h => ⟨h.1, fun i hi => wpOpIn_mono (fun a' w' h' => wpAny_round hd hq fuel _ a' w' h') (wpOp_round (fun o c => hd i o c) hq (h.2 i hi))⟩
/-- no deferring -/
def noDefer (ops : Array Oper) : Bool := ops.all fun o => match o.op with | .defer _ => false | _ => true
theorem noDefer_spec {ops : Array Oper} (h : noDefer ops = true) (i : Nat) (o : Oper) (c : Call) (ho : ops[i]? = some o) : o.op ≠ .defer c := by
  intro e
  have := Array.all_eq_true_iff_forall_mem.1 h o (Array.mem_of_getElem? ho)
  rw [e] at this
  cases this
theorem region_round {id : Nat} {a : Act} {w : World} (hm : P.follows .mixedOrders = true) (hd : noDefer ops = true) (hq : ¬ LetsOut Q)
    (h : wpAny P .any ops Q ops.size (Array.replicate ops.size false) a { w with drawn := w.drawn + 1 }) : (Code.region id ops true).wpIn (Fence.wide.inRound l) n P Q a w :=
  wpIn_region_any hm (wpAny_round (fun i o c => noDefer_spec hd i o c) hq _ _ _ _ h)
/-- the first n operations are quiet in the worlds that w has become the front of; the others follow one another -/
theorem region_round_ext {id : Nat} {a : Act} {w : World} {L : List Oper} (k : Nat) (hm : P.follows .mixedOrders = true) (hd : noDefer L.toArray = true) (hq : ¬ LetsOut Q) (hB : Region.lexTailB .any L.toArray k = true)
    (h : wpQuiet P L.toArray (fun w' => ∃ x, w' = ext w x) (fun a' => ∀ x, wpList P L.toArray Q (L.drop k) a' (ext w x)) (L.take k) a) : (Code.region id L.toArray true).wpIn (Fence.wide.inRound l) n P Q a w := by
  simp only [Region.lexTailB, Bool.and_eq_true, decide_eq_true_eq] at hB
  obtain ⟨⟨⟨⟨hsel, hn⟩, hs⟩, hc⟩, hlex⟩ := hB
  have htl : (L.take k).length = k := by simp at hn ⊢; omega
  have hdl : (L.drop k).length = L.toArray.size - k := by simp
  have inv0 : HeadInv .any L.toArray k (Array.replicate L.toArray.size false) :=
    ⟨by simp, fun j oj _ hl => (by rw [getD_replicate_false] at hl; cases hl), fun t _ ht => getD_in (by simpa using ht) (getD_replicate_false _ _)⟩
  have H := anyHead_lex (md := .any) (g := L.toArray.size - k) hsel hs hc hn (L.take k) 0 _ a (fun j hj => by
    have hj' : j < k := by rw [htl] at hj; exact hj
    simp [hj']) (by simpa using htl) inv0 (by rw [htl]; exact hlex) h
  refine region_round hm hd hq ?_
  have := wpAny_of_anyHead (Q' := Q) (g := L.toArray.size - k) (fun listed a' w' hw' hL => by
    obtain ⟨x, rfl⟩ := hw'
    have := wpAny_of_seq (md := .any) (Q' := Q) (L.drop k) k listed a' (ext w x) (fun j => by simp [List.getElem?_drop]) (by rw [hdl]; exact hL.1) (hL.2 x)
    rwa [hdl] at this) _ _ _ { w with drawn := w.drawn + 1 } ⟨{ w with heap := #[], drawn := w.drawn + 1 }, by simp [ext]⟩ H
  rw [htl, show k + (L.toArray.size - k) = L.toArray.size by omega] at this
  exact this
end Go.Proofs.YtkmdegmpffgplaaGreatDoor
