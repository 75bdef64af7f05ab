/- event: rows of tiers that a call makes itself; what the document's Read reads is what there is. -/
import Derived.Test.YtcognhhbpapibaaDoorFh
namespace Go.Proofs.YtcognhhbpapibaaDoor
open Go.RowKit
set_option linter.unusedVariables false

/-- the row v of the call's own holds the tiers ts -/
structure OwnT (w : World) (B : Nat) (v : Value) (ts : List (Int × Int)) : Prop where
  wf : ∀ t ∈ ts, I64 t.1 ∧ I64 t.2
  own : w.ownsRow B 44 2 v ts.length (tcs ts)
theorem ownT_nil (w : World) (B : Nat) : OwnT w B (.slice none 0 0) [] := ⟨fun t h => (by cases h), World.ownsRow_nil _ _ _ _⟩
theorem OwnT.block {w : World} {B : Nat} {v : Value} {cs : List (Int × Int)} (h : OwnT w B v cs) : ∀ k, v.ownBlock = some k → B ≤ k := by
  obtain ⟨hl, h2⟩ := h.own
  rcases h2 with ⟨rfl, h0⟩ | ⟨g, cap, cur, rfl, hb, _⟩
  · intro k hk; simp [Value.ownBlock] at hk
  · intro k hk; simp [Value.ownBlock] at hk; omega
theorem OwnT.lower {w : World} {B B' : Nat} {v : Value} {cs : List (Int × Int)} (h : OwnT w B v cs) (hB : B' ≤ B) : OwnT w B' v cs := by
  refine ⟨h.wf, h.own.1, ?_⟩
  rcases h.own.2 with h2 | ⟨g, cap, cur, e, hb, r⟩
  · exact Or.inl h2
  · exact Or.inr ⟨g, cap, cur, e, by omega, r⟩
theorem OwnT.step {w w' : World} {B : Nat} {v : Value} {cs : List (Int × Int)} (h : OwnT w B v cs) (k : Below w.heap.size w w') : OwnT w' B v cs := by
  refine ⟨h.wf, h.own.1, ?_⟩
  rcases h.own.2 with h2 | ⟨g, cap, cur, e, hb, hg, r⟩
  · exact Or.inl h2
  · have hlt : g < w.heap.size := by
      rcases Nat.lt_or_ge g w.heap.size with hlt | hge
      · exact hlt
      · rw [Array.getElem?_eq_none hge] at hg; cases hg
    exact Or.inr ⟨g, cap, cur, e, hb, (k.block g hlt).trans hg, r⟩
theorem tcs_app (a b : List (Int × Int)) : tcs (a ++ b) = tcs a ++ tcs b := by simp [tcs]
theorem tcs_mem {ts : List (Int × Int)} {u : Value} (h : u ∈ tcs ts) : u.oneCell' = true := by
  unfold tcs at h
  obtain ⟨t, _, ht⟩ := List.mem_flatMap.1 h
  simp at ht
  rcases ht with rfl | rfl <;> rfl
theorem OwnT.tr {w : World} {B : Nat} {v : Value} {ts : List (Int × Int)} (h : OwnT w B v ts) : Tr w v ts := by
  refine ⟨h.wf, ?_⟩
  have ho := h.own
  rcases h.own.2 with ⟨rfl, h0⟩ | ⟨g, cap, cur, rfl, hb, hg, hcap, hcm, hcs, htk⟩
  · exact ⟨none, 0, by rw [h0], by omega, by omega, fun h => by omega⟩
  · refine ⟨some ⟨g, 0, none⟩, cap, rfl, hcap, by unfold maxLen at hcm; omega, fun h0 => ⟨g, 0, rfl, ?_, fun k hk => ?_⟩⟩
    · rcases Nat.lt_or_ge g w.heap.size with hlt | hge
      · exact hlt
      · rw [Array.getElem?_eq_none hge] at hg; cases hg
    · have hlt1 : 2 * k + 1 < (tcs ts).length := by rw [tcs_len]; omega
      have e1 := ho.cellAt (2 * k) (by omega)
      have e2 := ho.cellAt (2 * k + 1) (by omega)
      rw [Nat.zero_add]
      exact ⟨by rw [e1, (tcs_get ts k hk).1], by rw [e2, (tcs_get ts k hk).2]⟩
/-- append(l, t...) as a region that draws its order meets it -/
theorem appTk {w : World} {y : Nat → Option Bool} {o : Oper} {a : Act} {Q : Exit → Act → World → Prop} {K : Act → World → Prop} {k0 : Prop} (hgd : Region.wanted o y = true) (s x : Operand)
    (ho : o.op = .call { callee := .builtin .append, args := #[s, x], argTypes := #[24, 24] })
    (B : Nat) (cs bs : List (Int × Int)) (v : Value) (b off c : Nat) (hs : a.eval s = v) (hx : a.eval x = .slice (some ⟨b, off, none⟩) bs.length c)
    (hown : OwnT w B v cs) (hwf : ∀ t ∈ bs, I64 t.1 ∧ I64 t.2) (hcell : ∀ k, k < bs.length → w.cell? ⟨b, off + 2 * k, none⟩ = some (.int .i64 (bs.getD k (0, 0)).1) ∧ w.cell? ⟨b, off + 2 * k + 1, none⟩ = some (.int .i64 (bs.getD k (0, 0)).2)) (hB : B ≤ w.heap.size) (hl : cs.length + bs.length ≤ 8796093022208)
    (h : ∀ v' w', OwnT w' B v' (cs ++ bs) → Below B w w' → w.grownBy w' v.ownBlock → K (a.put o.dst v') w') :
    if Region.wanted o y then o.wp Tryd.prog a w K Q else k0 := by
  obtain ⟨i0, hi, hz0, hz1, hz2⟩ := info44_parts
  rw [if_pos hgd]
  refine wp_append_own _ s x 24 ho B 44 i0 (.agg #[.int .i64 0, .int .i64 0]) 2 16 Tryd.underlying24 hi hz0 hz1 hz2 rfl (by decide) v cs.length (tcs cs) hs hown.own ⟨b, off, none⟩ bs.length c (tcs bs) hx (by rw [tcs_len]; omega) ?_ (fun u hu => tcs_mem hu) (by unfold maxLen; omega) (by omega) hB (fun v' w' g1 g2 _ => h v' w' ⟨fun t ht => ?_, ?_⟩ ((Below.refl _ _).grown g2 hB hown.block) g2)
  · intro j u hj
    have hj' : j < (tcs bs).length := (List.getElem?_eq_some_iff.1 hj).1
    rw [tcs_len] at hj'
    rw [Go.WideShapes.add_plain]
    have e : j = 2 * (j / 2) ∨ j = 2 * (j / 2) + 1 := by omega
    have hk := hcell (j / 2) (by omega)
    have hg := tcs_get bs (j / 2) (by omega)
    rcases e with e | e
    · rw [e] at hj ⊢
      rw [hk.1, ← hg.1, hj]
    · rw [e] at hj ⊢
      rw [← Nat.add_assoc, hk.2, ← hg.2, hj]
  · rcases List.mem_append.1 ht with ht | ht
    · exact hown.wf t ht
    · exact hwf t ht
  · rw [List.length_append, tcs_app]
    exact g1
theorem appTg {w : World} {ops : Array Oper} {rest : List Oper} {o : Oper} {a : Act} {Q : Exit → Act → World → Prop} (hgd : o.guard = none) (s x : Operand)
    (ho : o.op = .call { callee := .builtin .append, args := #[s, x], argTypes := #[24, 24] })
    (B : Nat) (cs bs : List (Int × Int)) (v : Value) (b off c : Nat) (hs : a.eval s = v) (hx : a.eval x = .slice (some ⟨b, off, none⟩) bs.length c)
    (hown : OwnT w B v cs) (hwf : ∀ t ∈ bs, I64 t.1 ∧ I64 t.2) (hcell : ∀ k, k < bs.length → w.cell? ⟨b, off + 2 * k, none⟩ = some (.int .i64 (bs.getD k (0, 0)).1) ∧ w.cell? ⟨b, off + 2 * k + 1, none⟩ = some (.int .i64 (bs.getD k (0, 0)).2)) (hB : B ≤ w.heap.size) (hl : cs.length + bs.length ≤ 8796093022208)
    (h : ∀ v' w', OwnT w' B v' (cs ++ bs) → Below B w w' → w.grownBy w' v.ownBlock → wpList Tryd.prog ops Q rest (a.put o.dst v') w') :
    wpList Tryd.prog ops Q (o :: rest) a w :=
  wpList_step fun K hK => appTk (by simp [Region.wanted, hgd]) s x ho B cs bs v b off c hs hx hown hwf hcell hB hl (fun v' w' p q r => hK _ _ (h v' w' p q r))
/-- a block of another type stays when tiers are appended -/
theorem VA.grownT {w w' : World} {p B : Nat} {cs : List Value} {T : TypeId} {v : Value} {bs : List (Int × Int)} (h : VA w p cs T) (g : w.grownBy w' v.ownBlock) (o : OwnT w B v bs) (hT : T ≠ 44) : VA w' p cs T := by
  refine ⟨(g.block p h.lt (fun e => ?_)).trans h.blk⟩
  rcases o.own.2 with ⟨rfl, _⟩ | ⟨q, cap, cur, rfl, _, hq, _⟩
  · cases e
  · cases e
    have := h.blk.symm.trans hq
    simp at this
    exact hT this.2

/-! what is read is what there is -/
theorem nums_det : ∀ (zs ns : List Int) (q r : List Nat), zs.flatMap n1 ++ q = ns.flatMap n1 ++ r → zs.length ≤ ns.length → (zs.length < ns.length → Non q) → (∀ n ∈ ns, I64 n) → zs = ns ∧ q = r
  | [], [], q, r, h, _, _, _ => ⟨rfl, by simpa using h⟩
  | [], b :: ns, q, r, h, _, hn, hI => by
    have hb := hI b (by simp)
    refine absurd ?_ (hn (by simp) (zz b) (zz_lt hb.1 hb.2))
    rw [List.flatMap_nil, List.nil_append, List.flatMap_cons, List.append_assoc] at h
    rw [h]
    exact ⟨_, rfl⟩
  | a :: zs, [], q, r, h, hl, _, _ => by simp at hl
  | a :: zs, b :: ns, q, r, h, hl, hn, hI => by
    rw [List.flatMap_cons, List.flatMap_cons, List.append_assoc, List.append_assoc] at h
    have e : zz a = zz b := enc_inj_front _ _ (n1 a ++ (zs.flatMap n1 ++ q)) ⟨_, rfl⟩ ⟨_, h.symm⟩
    have e2 := zz_inj e
    subst e2
    have := nums_det zs ns q r (List.append_cancel_left h) (by simpa using hl) (fun h => hn (by simpa using h)) (fun n hn => hI n (by simp [hn]))
    rw [this.1]
    exact ⟨rfl, this.2⟩
theorem numbers_det {bs r : List Nat} {ns zs : List Int} {k most : Nat} (hb : bs = ns.flatMap n1 ++ r) (hm : ns.length = most) (h : Nums bs most zs k) (hn : zs.length < most → Non (bs.drop k)) (hI : ∀ n ∈ ns, I64 n) : zs = ns ∧ bs.drop k = r := by
  refine nums_det zs ns _ _ ?_ (by rw [hm]; exact h.len) (by rw [hm]; exact hn) hI
  rw [h.front, List.take_append_drop, hb]
/-- a tier's two numbers -/
def two (t : Int × Int) : List Int := [t.1, t.2]
theorem two_flat (ts : List (Int × Int)) : (ts.flatMap two).flatMap n1 = ts.flatMap t2 := by
  induction ts with
  | nil => rfl
  | cons a ts ih => simp [two, t2, n1] at ih ⊢; rw [ih]
theorem two_len (ts : List (Int × Int)) : (ts.flatMap two).length = 2 * ts.length := by
  induction ts with
  | nil => rfl
  | cons a ts ih => simp [two] at ih ⊢; omega
theorem two_inj : ∀ (a b : List (Int × Int)), a.flatMap two = b.flatMap two → a = b
  | [], [], _ => rfl
  | [], b :: bs, h => by simp [two] at h
  | a :: as', [], h => by simp [two] at h
  | a :: as', b :: bs, h => by
    rw [List.flatMap_cons, List.flatMap_cons] at h
    simp only [two, List.cons_append, List.nil_append, List.cons.injEq] at h
    obtain ⟨h1, h2, h3⟩ := h
    rw [two_inj as' bs h3, Prod.ext h1 h2]
end Go.Proofs.YtcognhhbpapibaaDoor
