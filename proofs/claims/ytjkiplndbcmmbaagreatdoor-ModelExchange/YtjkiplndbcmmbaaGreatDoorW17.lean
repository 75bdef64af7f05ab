/- texts of the model: Mpa -/
import Derived.Test.YtjkiplndbcmmbaaGreatDoorW06
import Derived.Test.YtjkiplndbcmmbaaGreatDoorW16
import Derived.Maps.RangeWalk
set_option linter.unusedVariables false
set_option linter.unusedSimpArgs false
set_option maxHeartbeats 16000000
set_option maxRecDepth 100000
namespace Go.Proofs.YtjkiplndbcmmbaaGreatDoor
open Tryz
open Go.RowKit Go.Maps
open Go.WideElems (Fit rd rg pl rd_key rd_val rg_of other_key)
structure But (X : Nat → Prop) (w w' : World) : Prop where
 os : w'.os = w.os
 tape : w'.tape = w.tape
 output : w'.output = w.output
 size : w.heap.size ≤ w'.heap.size
 block : ∀ i, i < w.heap.size → ¬ X i → w'.heap[i]? = w.heap[i]?
theorem But.refl (X : Nat → Prop) (w : World) : But X w w := ⟨rfl, rfl, rfl, Nat.le_refl _, fun _ _ _ => rfl⟩
theorem But.trans {X Y : Nat → Prop} {a b c : World} (h : But X a b) (k : But Y b c) (hy : ∀ i, i < a.heap.size → Y i → X i) : But X a c :=
 ⟨k.os.trans h.os, k.tape.trans h.tape, k.output.trans h.output, Nat.le_trans h.size k.size, fun i hi hx => (k.block i (Nat.lt_of_lt_of_le hi h.size) (fun y => hx (hy i hi y))).trans (h.block i hi hx)⟩
theorem But.mono {X Y : Nat → Prop} {a b : World} (h : But X a b) (hy : ∀ i, X i → Y i) : But Y a b := ⟨h.os, h.tape, h.output, h.size, fun i hi hx => h.block i hi (fun y => hx (hy i y))⟩
theorem ac {w w' : World} (h : Below w.heap.size w w') (X : Nat → Prop) : But X w w' := ⟨h.os, h.tape, h.output, h.size, fun i hi _ => h.block i hi⟩
theorem But.below {X : Nat → Prop} {w w' : World} {B : Nat} (h : But X w w') (hB : B ≤ w.heap.size) (hx : ∀ i, X i → B ≤ i) : Below B w w' := ⟨h.os, h.tape, h.output, h.size, fun i hi => h.block i (by omega) (fun y => by have := hx i y; omega)⟩
theorem But.then {X : Nat → Prop} {a b c : World} (h : But X a b) (k : Below b.heap.size b c) : But X a c := h.trans (ac k (fun _ => False)) (fun _ _ y => False.elim y)
theorem But.bel {X : Nat → Prop} {a b c : World} {B : Nat} (h : Below B a b) (k : But X b c) (hB : B ≤ b.heap.size) (hx : ∀ i, X i → B ≤ i) : Below B a c := h.trans (k.below hB hx)
theorem Upd.but {p : Nat} {w w' : World} (h : Upd p w w') : But (fun i => i = p) w w' := ⟨h.os, h.tape, h.output, Nat.le_of_eq h.size.symm, fun i _ hx => h.block i hx⟩
theorem aI {w w' : World} {b : Nat} (h : w.mapTurned w' b) : But (fun i => i = b) w w' := by
 refine ⟨?_, ?_, ?_, Nat.le_of_eq (li h).symm, fun i _ hx => bF h i hx⟩ <;> (obtain ⟨es, clock, es', clock', hb, rfl⟩ := h; rfl)
theorem od {w w' : World} {b : Nat} (h : w.grownBy w' (some b)) : But (fun i => i = b) w w' := ⟨h.os, h.tape, h.output, h.size, fun i hi hx => h.block i hi (fun e => hx (by cases e; rfl))⟩
theorem lY {w w' : World} (h : w.grownBy w' none) : Below w.heap.size w w' := ⟨h.os, h.tape, h.output, h.size, fun i hi => h.block i hi (by simp)⟩
theorem VA.but {X : Nat → Prop} {w w' : World} {p : Nat} {cs : List Value} {T : TypeId} (h : VA w p cs T) (k : But X w w') (hp : ¬ X p) : VA w' p cs T := ⟨(k.block p h.lt hp).trans h.blk⟩
theorem MapF.but {X : Nat → Prop} {w w' : World} {k : TypeId} {b n : Nat} {f : Lit → Option Value} (h : MapF w k b n f) (s : But X w w') (hb : ¬ X b) : MapF w' k b n f := h.blk (s.block b h.lt hb)
theorem Own.but {α : Type} {K : Kd α} {X : Nat → Prop} {w w' : World} {B : Nat} {v : Value} {xs : List α} (h : Own K w B v xs) (k : But X w w') (hx : ∀ g, v.ownBlock = some g → ¬ X g) : Own K w' B v xs := h.blk fun g hg => k.block g (h.lt g hg) (hx g hg)
theorem ur {w : World} {y : Nat → Option Bool} {o : Oper} {a : Act} {Q : Exit → Act → World → Prop} {K' : Act → World → Prop} {k0 : Prop} (hgd : Region.wanted o y = true) (m x v : Operand) (t : TypeId) (hop : o.op = Op.mapUpdate t m x v)
  (k e : TypeId) (K : Keyed prog k) (ht : prog.underlying t = some (.map k e)) (b n : Nat) (f : Lit → Option Value) (hm : a.eval m = .map (some b)) (h : MapF w k b n f) (hn : n < maxLen)
  (key val : Value) (kl : Lit) (hx : a.eval x = key) (hv : a.eval v = val) (hkey : keyOf prog k key = some kl)
  (hK : ∀ w', MapF w' k b (n + 1) (upF f kl val) → w.mapTurned w' b → K' (a.put o.dst undef) w') : if Region.wanted o y then o.wp prog a w K' Q else k0 := by
 rw [if_pos hgd]
 obtain ⟨w', hrun, r1, r2⟩ := h.store K ht hn hkey val
 unfold Oper.wp
 simp [execOp, hop, hm, hx, hv, hrun, Result.andThen]
 exact hK w' r1 r2
def RanF (w : World) (k : TypeId) (b r n : Nat) (f : Lit → Option Value) (left : Lit → Bool) (cnt : Nat) : Prop :=
 ∃ D : DataW Value, w.ranges prog k heldR b r n D left cnt ∧ ∀ key kl, keyOf prog k key = some kl → (Maps.has D kl = (f kl).isSome) ∧ ∀ z, D.atKey kl (.held z) = .held ((f kl).getD z)
theorem RanF.map {w : World} {k : TypeId} {b r n : Nat} {f : Lit → Option Value} {left : Lit → Bool} {cnt : Nat} (h : RanF w k b r n f left cnt) : MapF w k b n f := by
 obtain ⟨D, h, hf⟩ := h; exact ⟨D, h.owns, hf⟩
theorem RanF.left_eq {w : World} {k : TypeId} {b r n : Nat} {f : Lit → Option Value} {left : Lit → Bool} {cnt : Nat} (h : RanF w k b r n f left cnt) : w.rangeLeft b r = cnt := by
 obtain ⟨D, h, hf⟩ := h; exact h.left_eq
theorem RanF.lt {w : World} {k : TypeId} {b r n : Nat} {f : Lit → Option Value} {left : Lit → Bool} {cnt : Nat} (h : RanF w k b r n f left cnt) : r < w.heap.size := by
 obtain ⟨D, h, hf⟩ := h; exact h.lt
theorem RanF.blk {w w' : World} {k : TypeId} {b r n : Nat} {f : Lit → Option Value} {left : Lit → Bool} {cnt : Nat} (h : RanF w k b r n f left cnt) (e1 : w'.heap[b]? = w.heap[b]?) (e2 : w'.heap[r]? = w.heap[r]?) : RanF w' k b r n f left cnt := by
 obtain ⟨D, ⟨es, clock, since, seen, c0, hb, F, hs, hD, hr, rest⟩, hf⟩ := h
 exact ⟨D, ⟨es, clock, since, seen, c0, e1.trans hb, F, hs, hD, e2.trans hr, rest⟩, hf⟩
theorem RanF.but {X : Nat → Prop} {w w' : World} {k : TypeId} {b r n : Nat} {f : Lit → Option Value} {left : Lit → Bool} {cnt : Nat} (h : RanF w k b r n f left cnt) (s : But X w w') (hb : ¬ X b) (hr : ¬ X r) : RanF w' k b r n f left cnt :=
 h.blk (s.block b h.map.lt hb) (s.block r h.lt hr)
theorem RanF.step {w w' : World} {k : TypeId} {b r n : Nat} {f : Lit → Option Value} {left : Lit → Bool} {cnt : Nat} (h : RanF w k b r n f left cnt) (s : Below w.heap.size w w') : RanF w' k b r n f left cnt :=
 h.blk (s.block b h.map.lt) (s.block r h.lt)
theorem rgM {w : World} {ops : Array Oper} {rest : List Oper} {o : Oper} {a : Act} {Q : Exit → Act → World → Prop} (hg : o.guard = none) (m : Operand) (t : TypeId) (hop : o.op = Op.range t m) (k e : TypeId) (K : Keyed prog k) (ht : prog.underlying t = some (.map k e)) (b n : Nat) (f : Lit → Option Value)
  (hm : a.eval m = .map (some b)) (h : MapF w k b n f)
  (hK : ∀ w' left cnt, RanF w' k b w.heap.size n f left cnt → (∀ key kl, keyOf prog k key = some kl → left kl = (f kl).isSome) → Below w.heap.size w w' → wpList prog ops Q rest (a.put o.dst (.pointer (some ⟨w.heap.size, 0, none⟩))) w') :
  wpList prog ops Q (o :: rest) a w := by
 obtain ⟨D, h, hf⟩ := h
 exact wpList_range_own w hg m t hop k e K ht heldR b n D hm h (fun w' h1 h2 h3 => hK w' _ _ ⟨D, h1, hf⟩ (fun key kl hk => (hf key kl hk).1) (lY h2))
theorem nxM {w : World} {ops : Array Oper} {rest : List Oper} {o : Oper} {a : Act} {Q : Exit → Act → World → Prop} (hg : o.guard = none) (it : Operand) (hop : o.op = Op.next it false) (k : TypeId) (K : Keyed prog k) (b r n : Nat) (f : Lit → Option Value) (left : Lit → Bool) (cnt : Nat)
  (hit : a.eval it = .pointer (some ⟨r, 0, none⟩)) (h : RanF w k b r n f left cnt)
  (hDone : (∀ kl, left kl = false) → wpList prog ops Q rest (a.put o.dst (.tuple #[.bool false])) w)
  (hMore : ∀ (x c : Value) (kl : Lit) (w' : World) (cnt' : Nat), keyOf prog k x = some kl → left kl = true → f kl = some c → RanF w' k b r n f (fun z => left z && !z.sameKey kl) cnt' → cnt' < cnt →
   But (fun i => i = r) w w' → (Instr.entry (.pointer (some ⟨r, 0, none⟩))).run prog w' = .ok (.tuple #[x, c]) w' → wpList prog ops Q rest (a.put o.dst (.tuple #[.bool true, x, c])) w') :
  wpList prog ops Q (o :: rest) a w := by
 obtain ⟨D, h, hf⟩ := h
 refine wpList_next_ranges w hg it hop k K heldR (fun x : Value => x) (fun x : Value => x) (fun key _ _ => ⟨key, rfl⟩) (fun v _ _ => ⟨v, rfl⟩) b r n D left cnt hit h (fun _ hl => hDone hl) ?_
 intro x c kl y w' cnt' hkey hlk hv hat hrg hlt hgr hsz hen
 have h1 : D.atKey kl (.held c) = y.1 := hat _
 have h2 : y.1 = .held c := by
  simp only [heldR, Option.some.injEq] at hv
  rw [← hv]
 have h3 := (hf x kl hkey).2
 have hc : f kl = some c := by
  have a1 := h3 (.bool true)
  have a2 := h3 (.bool false)
  rw [hat, h2] at a1 a2
  cases e : f kl with
  | none =>
   rw [e] at a1 a2
   simp at a1 a2
   rw [a1] at a2
   cases a2
  | some d =>
   rw [e] at a1
   simp at a1
   rw [a1]
 exact hMore x c kl w' cnt' hkey hlk hc ⟨D, hrg, hf⟩ hlt (od hgr) hen
theorem pig : ∀ (l L : List Lit), l.Pairwise (fun a b => a ≠ b) → (∀ x ∈ l, x ∈ L) → l.length ≤ L.length
 | [], L, _, _ => Nat.zero_le _
 | a :: l, L, hp, hs => by
  classical
  obtain ⟨h1, h2⟩ := List.pairwise_cons.1 hp
  have h3 := pig l (L.filter (fun x => decide (x ≠ a))) h2 (fun x hx => List.mem_filter.2 ⟨hs x (List.mem_cons_of_mem _ hx), decide_eq_true (Ne.symm (h1 x hx))⟩)
  have h4 : (L.filter (fun x => decide (x ≠ a))).length < L.length := List.length_filter_lt_length_iff_exists.2 ⟨a, hs a (List.mem_cons_self ..), by simp⟩
  simp only [List.length_cons]
  omega
theorem MapF.fit {w : World} {k : TypeId} {b n : Nat} {f : Lit → Option Value} (h : MapF w k b n f) (K : Keyed prog k) (L : List Lit) (hL : ∀ key kl, keyOf prog k key = some kl → (f kl).isSome = true → kl ∈ L) : MapF w k b L.length f := by
 obtain ⟨D, ⟨es, clock, hb, F, hs, rfl⟩, hf⟩ := h
 refine ⟨_, ⟨es, clock, hb, F, ?_, rfl⟩, hf⟩
 have h1 := Maps.fit_apart K F
 have h2 := pig ((es.toList.map (rg prog k heldR)).map (·.1)) L (List.pairwise_map.2 h1) (fun x hx => by
  obtain ⟨p, hp, rfl⟩ := List.mem_map.1 hx
  obtain ⟨e, he, rfl⟩ := List.mem_map.1 hp
  obtain ⟨y, hy⟩ := F.reads e he
  rw [rg_of hy]
  refine hL _ _ (rd_key hy) ?_
  rw [← (hf _ _ (rd_key hy)).1]
  refine List.any_eq_true.2 ⟨rg prog k heldR e, mem_sorted.2 (List.mem_map.2 ⟨e, he, rfl⟩), ?_⟩
  rw [rg_of hy]
  exact WideAt.sameKey_self (K.key (rd_key hy)))
 simpa using h2
end Go.Proofs.YtjkiplndbcmmbaaGreatDoor