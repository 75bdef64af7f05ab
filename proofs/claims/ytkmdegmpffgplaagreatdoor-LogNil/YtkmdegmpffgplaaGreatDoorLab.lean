/- Rows of elements of several cells, whatever they are: slices that are read, rows of the call's own, append, a cell that is stored. -/
import Derived.Test.YtkmdegmpffgplaaGreatDoorLaa
import Derived.Maps.RangeWalk
namespace Go.Proofs.YtkmdegmpffgplaaGreatDoor
open Go.RowKit
set_option linter.unusedVariables false

/-- a kind of elements: the type, the slice's type, how many cells and bytes, the cells of an element -/
structure Kd (α : Type) where
  T : TypeId
  S : TypeId
  k : Nat
  bt : Nat
  enc : α → List Value
  info : ∃ i z, Tryz.prog.info? T = some i ∧ i.zero = some z ∧ i.size = k ∧ i.bytes = bt ∧ z.cells.size = k
  und : Tryz.prog.underlying S = some (.slice T)
  pos : 0 < k
  len : ∀ x, (enc x).length = k
  one : ∀ x, ∀ v ∈ enc x, v.oneCell' = true
variable {α : Type}
def Kd.cells (K : Kd α) (xs : List α) : List Value := xs.flatMap K.enc
theorem Kd.cells_len (K : Kd α) (xs : List α) : (K.cells xs).length = xs.length * K.k := by
  induction xs with
  | nil => simp [Kd.cells]
  | cons x xs ih =>
    show (K.enc x ++ K.cells xs).length = _
    rw [List.length_append, ih, K.len, List.length_cons, Nat.add_mul, Nat.one_mul, Nat.add_comm]
theorem Kd.cells_app (K : Kd α) (xs ys : List α) : K.cells (xs ++ ys) = K.cells xs ++ K.cells ys := by simp [Kd.cells]
theorem Kd.cells_mem (K : Kd α) {xs : List α} {u : Value} (h : u ∈ K.cells xs) : u.oneCell' = true := by
  obtain ⟨x, _, hx⟩ := List.mem_flatMap.1 h
  exact K.one x u hx
theorem Kd.cells_get (K : Kd α) (xs : List α) : ∀ (i : Nat) (x : α), xs[i]? = some x → ∀ j, j < K.k → (K.cells xs)[i * K.k + j]? = (K.enc x)[j]? := by
  induction xs with
  | nil => intro i x h; simp at h
  | cons y ys ih =>
    intro i x h j hj
    show (K.enc y ++ K.cells ys)[i * K.k + j]? = _
    cases i with
    | zero =>
      simp at h
      subst h
      rw [Nat.zero_mul, Nat.zero_add, List.getElem?_append_left (by rw [K.len]; exact hj)]
    | succ i =>
      rw [List.getElem?_append_right (by rw [K.len, Nat.add_mul]; omega), K.len, show (i + 1) * K.k + j - K.k = i * K.k + j by rw [Nat.add_mul]; omega]
      exact ih i x (by simpa using h) j hj
theorem Kd.cells_inv (K : Kd α) (xs : List α) (p : Nat) (u : Value) (h : (K.cells xs)[p]? = some u) : ∃ i j x, p = i * K.k + j ∧ j < K.k ∧ xs[i]? = some x ∧ (K.enc x)[j]? = some u := by
  have hp : p < xs.length * K.k := by rw [← K.cells_len]; exact (List.getElem?_eq_some_iff.1 h).1
  have e : p = p / K.k * K.k + p % K.k := by rw [Nat.mul_comm]; exact (Nat.div_add_mod p K.k).symm
  have hj : p % K.k < K.k := Nat.mod_lt _ K.pos
  have hi : p / K.k < xs.length := Nat.div_lt_of_lt_mul (by rw [Nat.mul_comm]; exact hp)
  obtain ⟨x, hx⟩ : ∃ x, xs[p / K.k]? = some x := ⟨xs[p / K.k], by simp [hi]⟩
  refine ⟨p / K.k, p % K.k, x, e, hj, hx, ?_⟩
  rw [← K.cells_get xs _ x hx _ hj, ← e, h]

/-- the slice v holds the elements xs -/
structure Sl (K : Kd α) (w : World) (v : Value) (xs : List α) : Prop where
  form : ∃ a c, v = .slice a xs.length c ∧ xs.length ≤ c ∧ c ≤ 9223372036854775807 ∧ (0 < xs.length → ∃ b off, a = some ⟨b, off, none⟩ ∧ b < w.heap.size ∧
    ∀ i x, xs[i]? = some x → ∀ j u, (K.enc x)[j]? = some u → w.cell? ⟨b, off + i * K.k + j, none⟩ = some u)
theorem Sl.step {K : Kd α} {w w' : World} {v : Value} {xs : List α} (h : Sl K w v xs) (k : Below w.heap.size w w') : Sl K w' v xs := by
  obtain ⟨a, c, e, h1, h2, h3⟩ := h
  refine ⟨a, c, e, h1, h2, fun h0 => ?_⟩
  obtain ⟨b, off, ea, hb, hx⟩ := h3 h0
  exact ⟨b, off, ea, Nat.lt_of_lt_of_le hb k.size, fun i x hi j u hj => (k.cell (p := ⟨b, off + i * K.k + j, none⟩) hb).trans (hx i x hi j u hj)⟩
theorem Sl.alloc {K : Kd α} {w : World} {v : Value} {xs : List α} (h : Sl K w v xs) (o : Obj) : Sl K (w.alloc o) v xs := h.step ((Below.refl _ _).alloc (Nat.le_refl _) o)
theorem Sl.at {K : Kd α} {w : World} {a : Option Addr} {n c : Nat} {xs : List α} (h : Sl K w (.slice a n c) xs) (i : Nat) (x : α) (hi : xs[i]? = some x) : ∃ b off, a = some ⟨b, off, none⟩ ∧ b < w.heap.size ∧ ∀ j u, (K.enc x)[j]? = some u → w.cell? ⟨b, off + i * K.k + j, none⟩ = some u := by
  obtain ⟨a', c', e, h1, h2, h3⟩ := h
  cases e
  have hlt : i < xs.length := (List.getElem?_eq_some_iff.1 hi).1
  obtain ⟨b, off, ea, hb, hx⟩ := h3 (by omega)
  exact ⟨b, off, ea, hb, hx i x hi⟩
theorem Sl.front {K : Kd α} {w : World} {a : Option Addr} {n c : Nat} {xs ys : List α} (h : Sl K w (.slice a n c) (xs ++ ys)) : Sl K w (.slice a xs.length c) xs := by
  obtain ⟨a', c', e, h1, h2, h3⟩ := h
  cases e
  rw [List.length_append] at h1 h3
  refine ⟨a, c, rfl, by omega, h2, fun h0 => ?_⟩
  obtain ⟨b, off, ea, hb, hx⟩ := h3 (by omega)
  exact ⟨b, off, ea, hb, fun i x hi => hx i x (by rw [List.getElem?_append_left (List.getElem?_eq_some_iff.1 hi).1]; exact hi)⟩

/-- the row v of the call's own holds the elements xs -/
structure Own (K : Kd α) (w : World) (B : Nat) (v : Value) (xs : List α) : Prop where
  own : w.ownsRow B K.T K.k v xs.length (K.cells xs)
theorem own_nil (K : Kd α) (w : World) (B : Nat) : Own K w B (.slice none 0 0) [] := ⟨World.ownsRow_nil _ _ _ _⟩
theorem own_made (K : Kd α) (w : World) : Own K (w.alloc (.cells #[] K.T)) w.heap.size (.slice (some ⟨w.heap.size, 0, none⟩) 0 0) [] :=
  ⟨World.ownsRow_made w #[] 0 (Nat.le_refl _) (by unfold maxLen; omega) (by simp)⟩
theorem Own.block {K : Kd α} {w : World} {B : Nat} {v : Value} {xs : List α} (h : Own K w B v xs) : ∀ k, v.ownBlock = some k → B ≤ k := by
  obtain ⟨hl, h2⟩ := h.own
  rcases h2 with ⟨rfl, h0⟩ | ⟨g, cap, cur, rfl, hb, _⟩
  · intro k hk; simp [Value.ownBlock] at hk
  · intro k hk; simp [Value.ownBlock] at hk; omega
theorem Own.lower {K : Kd α} {w : World} {B B' : Nat} {v : Value} {xs : List α} (h : Own K w B v xs) (hB : B' ≤ B) : Own K w B' v xs := by
  refine ⟨h.own.1, ?_⟩
  rcases h.own.2 with h2 | ⟨g, cap, cur, e, hb, r⟩
  · exact Or.inl h2
  · exact Or.inr ⟨g, cap, cur, e, by omega, r⟩
theorem Own.blk {K : Kd α} {w w' : World} {B : Nat} {v : Value} {xs : List α} (h : Own K w B v xs) (k : ∀ g, v.ownBlock = some g → w'.heap[g]? = w.heap[g]?) : Own K w' B v xs := by
  refine ⟨h.own.1, ?_⟩
  rcases h.own.2 with h2 | ⟨g, cap, cur, e, hb, hg, r⟩
  · exact Or.inl h2
  · exact Or.inr ⟨g, cap, cur, e, hb, (k g (by rw [e]; rfl)).trans hg, r⟩
theorem Own.lt {K : Kd α} {w : World} {B : Nat} {v : Value} {xs : List α} (h : Own K w B v xs) : ∀ k, v.ownBlock = some k → k < w.heap.size := by
  rcases h.own.2 with ⟨rfl, h0⟩ | ⟨g, cap, cur, rfl, hb, hg, _⟩
  · intro k hk; simp [Value.ownBlock] at hk
  · intro k hk
    simp [Value.ownBlock] at hk
    subst hk
    rcases Nat.lt_or_ge g w.heap.size with hlt | hge
    · exact hlt
    · rw [Array.getElem?_eq_none hge] at hg; cases hg
theorem Own.step {K : Kd α} {w w' : World} {B : Nat} {v : Value} {xs : List α} (h : Own K w B v xs) (k : Below w.heap.size w w') : Own K w' B v xs := h.blk fun g hg => k.block g (h.lt g hg)
theorem Own.alloc {K : Kd α} {w : World} {B : Nat} {v : Value} {xs : List α} (h : Own K w B v xs) (o : Obj) : Own K (w.alloc o) B v xs := h.step ((Below.refl _ _).alloc (Nat.le_refl _) o)
theorem Own.upd {K : Kd α} {w w' : World} {B p : Nat} {v : Value} {xs : List α} (h : Own K w B v xs) (k : Upd p w w') (hp : p < B) : Own K w' B v xs := h.blk fun g hg => k.block g (by have := h.block g hg; omega)
theorem Own.form {K : Kd α} {w : World} {B : Nat} {v : Value} {xs : List α} (h : Own K w B v xs) : ∃ a c, v = .slice a xs.length c ∧ xs.length ≤ c ∧ c ≤ 9223372036854775807 := by
  rcases h.own.2 with ⟨rfl, h0⟩ | ⟨g, cap, cur, rfl, hb, hg, hcap, hcm, _⟩
  · exact ⟨none, 0, by rw [h0], by omega, by omega⟩
  · exact ⟨_, cap, rfl, hcap, by unfold maxLen at hcm; omega⟩
theorem Own.sl {K : Kd α} {w : World} {B : Nat} {v : Value} {xs : List α} (h : Own K w B v xs) : Sl K w v xs := by
  have ho := h.own
  have hlt := h.lt
  refine ⟨?_⟩
  rcases h.own.2 with ⟨rfl, h0⟩ | ⟨g, cap, cur, rfl, hb, hg, hcap, hcm, hcs, htk⟩
  · exact ⟨none, 0, by rw [h0], by omega, by omega, fun h => by omega⟩
  · refine ⟨some ⟨g, 0, none⟩, cap, rfl, hcap, by unfold maxLen at hcm; omega, fun h0 => ⟨g, 0, rfl, hlt g rfl, fun i x hi j u hj => ?_⟩⟩
    have hjk : j < K.k := by rw [← K.len x]; exact (List.getElem?_eq_some_iff.1 hj).1
    have e := K.cells_get xs i x hi j hjk
    have hp : i * K.k + j < (K.cells xs).length := (List.getElem?_eq_some_iff.1 (e.trans hj)).1
    rw [K.cells_len] at hp
    rw [Nat.zero_add, ho.cellAt (i * K.k + j) hp, e, hj]
/-- another block stays when a row of the call's own grows: blocks of another type, and those ahead of B -/
theorem VA.grownO {K : Kd α} {w w' : World} {p B : Nat} {cs : List Value} {T : TypeId} {v : Value} {xs : List α} (h : VA w p cs T) (g : w.grownBy w' v.ownBlock) (o : Own K w B v xs) (hT : T ≠ K.T ∨ p < B) : VA w' p cs T := by
  refine ⟨(g.block p h.lt (fun e => ?_)).trans h.blk⟩
  rcases hT with hT | hT
  · rcases o.own.2 with ⟨rfl, _⟩ | ⟨q, cap, cur, rfl, _, hq, _⟩
    · cases e
    · cases e
      have := h.blk.symm.trans hq
      simp at this
      exact hT this.2
  · have := o.block p e.symm
    omega
/-- append(l, x..): a row of the call's own, in a region that draws its order -/
theorem appK {K : Kd α} {w : World} {y : Nat → Option Bool} {o : Oper} {a : Act} {Q : Exit → Act → World → Prop} {KK : Act → World → Prop} {k0 : Prop} (hgd : Region.wanted o y = true) (s x : Operand)
    (ho : o.op = .call { callee := .builtin .append, args := #[s, x], argTypes := #[K.S, K.S] })
    (B : Nat) (xs ys : List α) (v : Value) (ad : Addr) (c : Nat) (hs : a.eval s = v) (hx : a.eval x = .slice (some ad) ys.length c)
    (hown : Own K w B v xs) (hcell : ∀ j u, (K.cells ys)[j]? = some u → w.cell? (ad.add j) = some u) (hB : B ≤ w.heap.size) (hl : (xs.length + ys.length) * K.bt ≤ 140737488355328) (hl2 : xs.length + ys.length ≤ 140737488355328)
    (h : ∀ v' w', Own K w' B v' (xs ++ ys) → Below B w w' → w.grownBy w' v.ownBlock → KK (a.put o.dst v') w') :
    if Region.wanted o y then o.wp Tryz.prog a w KK Q else k0 := by
  obtain ⟨i0, z, hi, hz0, hz1, hz2, hz3⟩ := K.info
  rw [if_pos hgd]
  refine wp_append_own _ s x K.S ho B K.T i0 z K.k K.bt K.und hi hz0 hz1 hz2 hz3 K.pos v xs.length (K.cells xs) hs hown.own ad ys.length c (K.cells ys) hx (K.cells_len ys) hcell (fun u hu => K.cells_mem hu) (by unfold maxLen; omega) hl hB (fun v' w' g1 g2 _ => h v' w' ⟨?_⟩ ((Below.refl _ _).grown g2 hB hown.block) g2)
  rw [List.length_append, K.cells_app]
  exact g1
theorem appG {K : Kd α} {w : World} {ops : Array Oper} {rest : List Oper} {o : Oper} {a : Act} {Q : Exit → Act → World → Prop} (hgd : o.guard = none) (s x : Operand)
    (ho : o.op = .call { callee := .builtin .append, args := #[s, x], argTypes := #[K.S, K.S] })
    (B : Nat) (xs ys : List α) (v : Value) (ad : Addr) (c : Nat) (hs : a.eval s = v) (hx : a.eval x = .slice (some ad) ys.length c)
    (hown : Own K w B v xs) (hcell : ∀ j u, (K.cells ys)[j]? = some u → w.cell? (ad.add j) = some u) (hB : B ≤ w.heap.size) (hl : (xs.length + ys.length) * K.bt ≤ 140737488355328) (hl2 : xs.length + ys.length ≤ 140737488355328)
    (h : ∀ v' w', Own K w' B v' (xs ++ ys) → Below B w w' → w.grownBy w' v.ownBlock → wpList Tryz.prog ops Q rest (a.put o.dst v') w') :
    wpList Tryz.prog ops Q (o :: rest) a w :=
  wpList_step fun KK hK => appK (by simp [Region.wanted, hgd]) s x ho B xs ys v ad c hs hx hown hcell hB hl hl2 (fun v' w' p q r => hK _ _ (h v' w' p q r))
/-- append(l, d): of one that was just built -/
theorem appOne {K : Kd α} {w : World} {ops : Array Oper} {rest : List Oper} {o : Oper} {a : Act} {Q : Exit → Act → World → Prop} {T : TypeId} (hgd : o.guard = none) (s x : Operand)
    (ho : o.op = .call { callee := .builtin .append, args := #[s, x], argTypes := #[K.S, K.S] })
    (B : Nat) (xs : List α) (v : Value) (d : α) (hs : a.eval s = v) (hx : a.eval x = .slice (some ⟨w.heap.size, 0, none⟩) 1 1)
    (hown : Own K w B v xs) (hB : B ≤ w.heap.size) (hl : (xs.length + 1) * K.bt ≤ 140737488355328) (hl2 : xs.length + 1 ≤ 140737488355328)
    (cs : Array Value) (hcs : cs = (K.enc d).toArray)
    (h : ∀ v' w', Own K w' B v' (xs ++ [d]) → Below B w w' → wpList Tryz.prog ops Q rest (a.put o.dst v') w') :
    wpList Tryz.prog ops Q (o :: rest) a (w.alloc (.cells cs T)) := by
  subst hcs
  refine appG hgd s x ho B xs [d] v ⟨w.heap.size, 0, none⟩ 1 hs hx (hown.alloc _) ?_ (by simp; omega) (by simpa using hl) (by simpa using hl2) (fun v' w' p q r => h v' w' p ?_)
  · intro j u hj
    have : (K.enc d)[j]? = some u := by simpa [Kd.cells] using hj
    rw [Go.WideShapes.add_plain, Nat.zero_add]
    exact (va_new w (K.enc d) T).cell j this
  · exact ((Below.refl _ _).alloc hB _).trans q
/-- append(l, m...) of a slice that is read -/
theorem appS {K : Kd α} {w : World} {ops : Array Oper} {rest : List Oper} {o : Oper} {a : Act} {Q : Exit → Act → World → Prop} (hgd : o.guard = none) (s x : Operand)
    (ho : o.op = .call { callee := .builtin .append, args := #[s, x], argTypes := #[K.S, K.S] })
    (B : Nat) (xs ys : List α) (v u : Value) (hs : a.eval s = v) (hx : a.eval x = u)
    (hown : Own K w B v xs) (hu : Sl K w u ys) (hno : ∀ n c, u = .slice none n c → c = 0) (hB : B ≤ w.heap.size) (hl : (xs.length + ys.length) * K.bt ≤ 140737488355328) (hl2 : xs.length + ys.length ≤ 140737488355328)
    (h : ∀ v' w', Own K w' B v' (xs ++ ys) → Below B w w' → w.grownBy w' v.ownBlock → wpList Tryz.prog ops Q rest (a.put o.dst v') w') :
    wpList Tryz.prog ops Q (o :: rest) a w := by
  obtain ⟨ad, c, rfl, h1, h2, h4⟩ := hu
  by_cases h0 : ys = []
  · subst h0
    cases ad with
    | none =>
      obtain rfl : c = 0 := hno _ _ rfl
      obtain ⟨i0, z, hi, hz0, hz1, hz2, hz3⟩ := K.info
      refine wpList_append_own_none hgd s x K.S ho B K.T i0 K.k K.und hi v xs.length (K.cells xs) hs hown.own hx ?_
      exact h v w (by simpa using hown) (Below.refl _ _) (World.grownBy.refl _ _)
    | some ad =>
      exact appG hgd s x ho B xs [] v ad c hs hx hown (fun j u hj => by simp [Kd.cells] at hj) hB hl hl2 h
  · have hp : 0 < ys.length := List.length_pos_iff.2 h0
    obtain ⟨b, off, rfl, hb, hcell⟩ := h4 hp
    refine appG hgd s x ho B xs ys v ⟨b, off, none⟩ c hs hx hown (fun p u hp => ?_) hB hl hl2 h
    obtain ⟨i, j, y, rfl, hj, hy, hu⟩ := K.cells_inv ys p u hp
    rw [Go.WideShapes.add_plain, ← Nat.add_assoc]
    exact hcell i y hy j u hu
end Go.Proofs.YtkmdegmpffgplaaGreatDoor
/- Maps, whatever their elements, II: a store in a drawn region, a range over a map, how many entries there can be; worlds that differ in some blocks alone. -/
namespace Go.Proofs.YtkmdegmpffgplaaGreatDoor
open Go.RowKit Go.Maps
open Go.WideElems (Fit rd rg pl rd_key rd_val rg_of other_key)
set_option linter.unusedVariables false

/-- all blocks that there were are as they were, but for those of X -/
structure But (X : Nat → Prop) (w w' : World) : Prop where
  os : w'.os = w.os
  tape : w'.tape = w.tape
  output : w'.output = w.output
  size : w.heap.size ≤ w'.heap.size
  block : ∀ i, i < w.heap.size → ¬ X i → w'.heap[i]? = w.heap[i]?
theorem But.refl (X : Nat → Prop) (w : World) : But X w w := ⟨rfl, rfl, rfl, Nat.le_refl _, fun _ _ _ => rfl⟩
theorem But.trans {X Y : Nat → Prop} {a b c : World} (h : But X a b) (k : But Y b c) (hy : ∀ i, i < a.heap.size → Y i → X i) : But X a c :=
  ⟨k.os.trans h.os, k.tape.trans h.tape, k.output.trans h.output, Nat.le_trans h.size k.size, fun i hi hx => (k.block i (Nat.lt_of_lt_of_le hi h.size) (fun y => hx (hy i hi y))).trans (h.block i hi hx)⟩
theorem But.mono {X Y : Nat → Prop} {a b : World} (h : But X a b) (hy : ∀ i, X i → Y i) : But Y a b := ⟨h.os, h.tape, h.output, h.size, fun i hi hx => h.block i hi (fun y => hx (hy i y))⟩
theorem below_but {w w' : World} (h : Below w.heap.size w w') (X : Nat → Prop) : But X w w' := ⟨h.os, h.tape, h.output, h.size, fun i hi _ => h.block i hi⟩
theorem But.below {X : Nat → Prop} {w w' : World} {B : Nat} (h : But X w w') (hB : B ≤ w.heap.size) (hx : ∀ i, X i → B ≤ i) : Below B w w' := ⟨h.os, h.tape, h.output, h.size, fun i hi => h.block i (by omega) (fun y => by have := hx i y; omega)⟩
theorem But.then {X : Nat → Prop} {a b c : World} (h : But X a b) (k : Below b.heap.size b c) : But X a c := h.trans (below_but k (fun _ => False)) (fun _ _ y => False.elim y)
theorem But.bel {X : Nat → Prop} {a b c : World} {B : Nat} (h : Below B a b) (k : But X b c) (hB : B ≤ b.heap.size) (hx : ∀ i, X i → B ≤ i) : Below B a c := h.trans (k.below hB hx)
theorem Upd.but {p : Nat} {w w' : World} (h : Upd p w w') : But (fun i => i = p) w w' := ⟨h.os, h.tape, h.output, Nat.le_of_eq h.size.symm, fun i _ hx => h.block i hx⟩
theorem turned_but {w w' : World} {b : Nat} (h : w.mapTurned w' b) : But (fun i => i = b) w w' := by
  refine ⟨?_, ?_, ?_, Nat.le_of_eq (turned_size h).symm, fun i _ hx => turned_block h i hx⟩ <;> (obtain ⟨es, clock, es', clock', hb, rfl⟩ := h; rfl)
theorem grown_but {w w' : World} {b : Nat} (h : w.grownBy w' (some b)) : But (fun i => i = b) w w' := ⟨h.os, h.tape, h.output, h.size, fun i hi hx => h.block i hi (fun e => hx (by cases e; rfl))⟩
theorem grown_none {w w' : World} (h : w.grownBy w' none) : Below w.heap.size w w' := ⟨h.os, h.tape, h.output, h.size, fun i hi => h.block i hi (by simp)⟩
theorem VA.but {X : Nat → Prop} {w w' : World} {p : Nat} {cs : List Value} {T : TypeId} (h : VA w p cs T) (k : But X w w') (hp : ¬ X p) : VA w' p cs T := ⟨(k.block p h.lt hp).trans h.blk⟩
theorem MapF.but {X : Nat → Prop} {w w' : World} {k : TypeId} {b n : Nat} {f : Lit → Option Value} (h : MapF w k b n f) (s : But X w w') (hb : ¬ X b) : MapF w' k b n f := h.blk (s.block b h.lt hb)
theorem Own.but {α : Type} {K : Kd α} {X : Nat → Prop} {w w' : World} {B : Nat} {v : Value} {xs : List α} (h : Own K w B v xs) (k : But X w w') (hx : ∀ g, v.ownBlock = some g → ¬ X g) : Own K w' B v xs := h.blk fun g hg => k.block g (h.lt g hg) (hx g hg)
/-- m[key] = v as a region that draws its order meets it -/
theorem stMd {w : World} {y : Nat → Option Bool} {o : Oper} {a : Act} {Q : Exit → Act → World → Prop} {K' : Act → World → Prop} {k0 : Prop} (hgd : Region.wanted o y = true) (m x v : Operand) (t : TypeId) (hop : o.op = Op.mapUpdate t m x v)
    (k e : TypeId) (K : Keyed Tryz.prog k) (ht : Tryz.prog.underlying t = some (.map k e)) (b n : Nat) (f : Lit → Option Value) (hm : a.eval m = .map (some b)) (h : MapF w k b n f) (hn : n < maxLen)
    (key val : Value) (kl : Lit) (hx : a.eval x = key) (hv : a.eval v = val) (hkey : keyOf Tryz.prog k key = some kl)
    (hK : ∀ w', MapF w' k b (n + 1) (upF f kl val) → w.mapTurned w' b → K' (a.put o.dst undef) w') : if Region.wanted o y then o.wp Tryz.prog a w K' Q else k0 := by
  rw [if_pos hgd]
  obtain ⟨w', hrun, r1, r2⟩ := h.store K ht hn hkey val
  unfold Oper.wp
  simp [execOp, hop, hm, hx, hv, hrun, Result.andThen]
  exact hK w' r1 r2

/-- a range over a map is under way: the map in block b holds what f says, the iterator is block r; left: what is still to come -/
def RanF (w : World) (k : TypeId) (b r n : Nat) (f : Lit → Option Value) (left : Lit → Bool) (cnt : Nat) : Prop :=
  ∃ D : DataW Value, w.ranges Tryz.prog k heldR b r n D left cnt ∧ ∀ key kl, keyOf Tryz.prog k key = some kl → (Maps.has D kl = (f kl).isSome) ∧ ∀ z, D.atKey kl (.held z) = .held ((f kl).getD z)
theorem RanF.map {w : World} {k : TypeId} {b r n : Nat} {f : Lit → Option Value} {left : Lit → Bool} {cnt : Nat} (h : RanF w k b r n f left cnt) : MapF w k b n f := by
  obtain ⟨D, h, hf⟩ := h; exact ⟨D, h.owns, hf⟩
theorem RanF.left_eq {w : World} {k : TypeId} {b r n : Nat} {f : Lit → Option Value} {left : Lit → Bool} {cnt : Nat} (h : RanF w k b r n f left cnt) : w.rangeLeft b r = cnt := by
  obtain ⟨D, h, hf⟩ := h; exact h.left_eq
theorem RanF.lt {w : World} {k : TypeId} {b r n : Nat} {f : Lit → Option Value} {left : Lit → Bool} {cnt : Nat} (h : RanF w k b r n f left cnt) : r < w.heap.size := by
  obtain ⟨D, h, hf⟩ := h; exact h.lt
theorem RanF.blk {w w' : World} {k : TypeId} {b r n : Nat} {f : Lit → Option Value} {left : Lit → Bool} {cnt : Nat} (h : RanF w k b r n f left cnt) (e1 : w'.heap[b]? = w.heap[b]?) (e2 : w'.heap[r]? = w.heap[r]?) : RanF w' k b r n f left cnt := by
  obtain ⟨D, ⟨es, clock, since, seen, c0, hb, F, hs, hD, hr, rest⟩, hf⟩ := h
  exact ⟨D, ⟨es, clock, since, seen, c0, e1.trans hb, F, hs, hD, e2.trans hr, rest⟩, hf⟩
theorem RanF.but {X : Nat → Prop} {w w' : World} {k : TypeId} {b r n : Nat} {f : Lit → Option Value} {left : Lit → Bool} {cnt : Nat} (h : RanF w k b r n f left cnt) (s : But X w w') (hb : ¬ X b) (hr : ¬ X r) : RanF w' k b r n f left cnt :=
  h.blk (s.block b h.map.lt hb) (s.block r h.lt hr)
theorem RanF.step {w w' : World} {k : TypeId} {b r n : Nat} {f : Lit → Option Value} {left : Lit → Bool} {cnt : Nat} (h : RanF w k b r n f left cnt) (s : Below w.heap.size w w') : RanF w' k b r n f left cnt :=
  h.blk (s.block b h.map.lt) (s.block r h.lt)
/-- 'range m' at the operation -/
theorem rgM {w : World} {ops : Array Oper} {rest : List Oper} {o : Oper} {a : Act} {Q : Exit → Act → World → Prop} (hg : o.guard = none) (m : Operand) (t : TypeId) (hop : o.op = Op.range t m) (k e : TypeId) (K : Keyed Tryz.prog k) (ht : Tryz.prog.underlying t = some (.map k e)) (b n : Nat) (f : Lit → Option Value)
    (hm : a.eval m = .map (some b)) (h : MapF w k b n f)
    (hK : ∀ w' left cnt, RanF w' k b w.heap.size n f left cnt → (∀ key kl, keyOf Tryz.prog k key = some kl → left kl = (f kl).isSome) → Below w.heap.size w w' → wpList Tryz.prog ops Q rest (a.put o.dst (.pointer (some ⟨w.heap.size, 0, none⟩))) w') :
    wpList Tryz.prog ops Q (o :: rest) a w := by
  obtain ⟨D, h, hf⟩ := h
  exact wpList_range_own w hg m t hop k e K ht heldR b n D hm h (fun w' h1 h2 h3 => hK w' _ _ ⟨D, h1, hf⟩ (fun key kl hk => (hf key kl hk).1) (grown_none h2))
/-- the step of a range -/
theorem nxM {w : World} {ops : Array Oper} {rest : List Oper} {o : Oper} {a : Act} {Q : Exit → Act → World → Prop} (hg : o.guard = none) (it : Operand) (hop : o.op = Op.next it false) (k : TypeId) (K : Keyed Tryz.prog k) (b r n : Nat) (f : Lit → Option Value) (left : Lit → Bool) (cnt : Nat)
    (hit : a.eval it = .pointer (some ⟨r, 0, none⟩)) (h : RanF w k b r n f left cnt)
    (hDone : (∀ kl, left kl = false) → wpList Tryz.prog ops Q rest (a.put o.dst (.tuple #[.bool false])) w)
    (hMore : ∀ (x c : Value) (kl : Lit) (w' : World) (cnt' : Nat), keyOf Tryz.prog k x = some kl → left kl = true → f kl = some c → RanF w' k b r n f (fun z => left z && !z.sameKey kl) cnt' → cnt' < cnt →
      But (fun i => i = r) w w' → (Instr.entry (.pointer (some ⟨r, 0, none⟩))).run Tryz.prog w' = .ok (.tuple #[x, c]) w' → wpList Tryz.prog ops Q rest (a.put o.dst (.tuple #[.bool true, x, c])) w') :
    wpList Tryz.prog ops Q (o :: rest) a w := by
  obtain ⟨D, h, hf⟩ := h
  refine wpList_next_ranges w hg it hop k K heldR (fun x : Value => x) (fun x : Value => x) (fun key _ _ => ⟨key, rfl⟩) (fun v _ _ => ⟨v, rfl⟩) b r n D left cnt hit h (fun _ hl => hDone hl) ?_
  intro x c kl y w' cnt' hkey hlk hv hat hrg hlt hgr hsz hen
  have h1 : D.atKey kl (.held c) = y.1 := hat _
  have h2 : y.1 = .held c := by
    simp only [heldR, Option.some.injEq] at hv
    rw [← hv]
  have h3 := (hf x kl hkey).2
  have hc : f kl = some c := by
    have a1 := h3 (.bool true)
    have a2 := h3 (.bool false)
    rw [hat, h2] at a1 a2
    cases e : f kl with
    | none =>
      rw [e] at a1 a2
      simp at a1 a2
      rw [a1] at a2
      cases a2
    | some d =>
      rw [e] at a1
      simp at a1
      rw [a1]
  exact hMore x c kl w' cnt' hkey hlk hc ⟨D, hrg, hf⟩ hlt (grown_but hgr) hen

theorem pig : ∀ (l L : List Lit), l.Pairwise (fun a b => a ≠ b) → (∀ x ∈ l, x ∈ L) → l.length ≤ L.length
  | [], L, _, _ => Nat.zero_le _
  | a :: l, L, hp, hs => by
    classical
    obtain ⟨h1, h2⟩ := List.pairwise_cons.1 hp
    have h3 := pig l (L.filter (fun x => decide (x ≠ a))) h2 (fun x hx => List.mem_filter.2 ⟨hs x (List.mem_cons_of_mem _ hx), decide_eq_true (Ne.symm (h1 x hx))⟩)
    have h4 : (L.filter (fun x => decide (x ≠ a))).length < L.length := List.length_filter_lt_length_iff_exists.2 ⟨a, hs a (List.mem_cons_self ..), by simp⟩
    simp only [List.length_cons]
    omega
/-- a map has no more entries than there are keys for it -/
theorem MapF.fit {w : World} {k : TypeId} {b n : Nat} {f : Lit → Option Value} (h : MapF w k b n f) (K : Keyed Tryz.prog k) (L : List Lit) (hL : ∀ key kl, keyOf Tryz.prog k key = some kl → (f kl).isSome = true → kl ∈ L) : MapF w k b L.length f := by
  obtain ⟨D, ⟨es, clock, hb, F, hs, rfl⟩, hf⟩ := h
  refine ⟨_, ⟨es, clock, hb, F, ?_, rfl⟩, hf⟩
  have h1 := Maps.fit_apart K F
  have h2 := pig ((es.toList.map (rg Tryz.prog k heldR)).map (·.1)) L (List.pairwise_map.2 h1) (fun x hx => by
    obtain ⟨p, hp, rfl⟩ := List.mem_map.1 hx
    obtain ⟨e, he, rfl⟩ := List.mem_map.1 hp
    obtain ⟨y, hy⟩ := F.reads e he
    rw [rg_of hy]
    refine hL _ _ (rd_key hy) ?_
    rw [← (hf _ _ (rd_key hy)).1]
    refine List.any_eq_true.2 ⟨rg Tryz.prog k heldR e, mem_sorted.2 (List.mem_map.2 ⟨e, he, rfl⟩), ?_⟩
    rw [rg_of hy]
    exact WideAt.sameKey_self (K.key (rd_key hy)))
  simpa using h2
end Go.Proofs.YtkmdegmpffgplaaGreatDoor
