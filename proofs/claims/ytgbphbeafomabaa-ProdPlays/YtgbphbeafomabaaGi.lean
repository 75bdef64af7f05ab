/- prod: rows of keys; the catalogue; New. -/
import Derived.Test.YtgbphbeafomabaaGh
namespace Go.Proofs.Ytgbphbeafomabaa
open Go.RowKit Go.Maps
set_option linter.unusedVariables false

theorem infoK : (Try.prog.info? 67).map (fun i => (i.zero, i.size, i.bytes)) = some (some (.agg #[.int .i64 0, .int .i64 0]), 2, 16) := by kernel_rfl
theorem infoK_parts : ∃ i, Try.prog.info? 67 = some i ∧ i.zero = some (.agg #[.int .i64 0, .int .i64 0]) ∧ i.size = 2 ∧ i.bytes = 16 := by
  obtain ⟨i, hi, hz⟩ := Option.map_eq_some_iff.1 infoK
  simp only [Prod.mk.injEq] at hz
  exact ⟨i, hi, hz.1, hz.2.1, hz.2.2⟩
/-- the row v of the call's own holds the tiers ts -/
structure OwnK (w : World) (B : Nat) (v : Value) (ts : List (Int × Int)) : Prop where
  wf : ∀ t ∈ ts, I64 t.1 ∧ I64 t.2
  own : w.ownsRow B 67 2 v ts.length (tcs ts)
theorem ownK_nil (w : World) (B : Nat) : OwnK w B (.slice none 0 0) [] := ⟨fun t h => (by cases h), World.ownsRow_nil _ _ _ _⟩
theorem OwnK.block {w : World} {B : Nat} {v : Value} {cs : List (Int × Int)} (h : OwnK w B v cs) : ∀ k, v.ownBlock = some k → B ≤ k := by
  obtain ⟨hl, h2⟩ := h.own
  rcases h2 with ⟨rfl, h0⟩ | ⟨g, cap, cur, rfl, hb, _⟩
  · intro k hk; simp [Value.ownBlock] at hk
  · intro k hk; simp [Value.ownBlock] at hk; omega
theorem OwnK.lower {w : World} {B B' : Nat} {v : Value} {cs : List (Int × Int)} (h : OwnK w B v cs) (hB : B' ≤ B) : OwnK w B' v cs := by
  refine ⟨h.wf, h.own.1, ?_⟩
  rcases h.own.2 with h2 | ⟨g, cap, cur, e, hb, r⟩
  · exact Or.inl h2
  · exact Or.inr ⟨g, cap, cur, e, by omega, r⟩
theorem OwnK.step {w w' : World} {B : Nat} {v : Value} {cs : List (Int × Int)} (h : OwnK w B v cs) (k : Below w.heap.size w w') : OwnK w' B v cs := by
  refine ⟨h.wf, h.own.1, ?_⟩
  rcases h.own.2 with h2 | ⟨g, cap, cur, e, hb, hg, r⟩
  · exact Or.inl h2
  · have hlt : g < w.heap.size := by
      rcases Nat.lt_or_ge g w.heap.size with hlt | hge
      · exact hlt
      · rw [Array.getElem?_eq_none hge] at hg; cases hg
    exact Or.inr ⟨g, cap, cur, e, hb, (k.block g hlt).trans hg, r⟩
theorem OwnK.tr {w : World} {B : Nat} {v : Value} {ts : List (Int × Int)} (h : OwnK w B v ts) : Tr w v ts := by
  refine ⟨h.wf, ?_⟩
  have ho := h.own
  rcases h.own.2 with ⟨rfl, h0⟩ | ⟨g, cap, cur, rfl, hb, hg, hcap, hcm, hcs, htk⟩
  · exact ⟨none, 0, by rw [h0], by omega, by omega, fun h => by omega⟩
  · refine ⟨some ⟨g, 0, none⟩, cap, rfl, hcap, by unfold maxLen at hcm; omega, fun h0 => ⟨g, 0, rfl, ?_, fun k hk => ?_⟩⟩
    · rcases Nat.lt_or_ge g w.heap.size with hlt | hge
      · exact hlt
      · rw [Array.getElem?_eq_none hge] at hg; cases hg
    · have hlt1 : 2 * k + 1 < (tcs ts).length := by rw [tcs_len]; omega
      have e1 := ho.cellAt (2 * k) (by omega)
      have e2 := ho.cellAt (2 * k + 1) (by omega)
      rw [Nat.zero_add]
      exact ⟨by rw [e1, (tcs_get ts k hk).1], by rw [e2, (tcs_get ts k hk).2]⟩
/-- append(l, t...) as a region that draws its order meets it -/
theorem appKk {w : World} {y : Nat → Option Bool} {o : Oper} {a : Act} {Q : Exit → Act → World → Prop} {K : Act → World → Prop} {k0 : Prop} (hgd : Region.wanted o y = true) (s x : Operand)
    (ho : o.op = .call { callee := .builtin .append, args := #[s, x], argTypes := #[63, 63] })
    (B : Nat) (cs bs : List (Int × Int)) (v : Value) (b off c : Nat) (hs : a.eval s = v) (hx : a.eval x = .slice (some ⟨b, off, none⟩) bs.length c)
    (hown : OwnK w B v cs) (hwf : ∀ t ∈ bs, I64 t.1 ∧ I64 t.2) (hcell : ∀ k, k < bs.length → w.cell? ⟨b, off + 2 * k, none⟩ = some (.int .i64 (bs.getD k (0, 0)).1) ∧ w.cell? ⟨b, off + 2 * k + 1, none⟩ = some (.int .i64 (bs.getD k (0, 0)).2)) (hB : B ≤ w.heap.size) (hl : cs.length + bs.length ≤ 8796093022208)
    (h : ∀ v' w', OwnK w' B v' (cs ++ bs) → Below B w w' → w.grownBy w' v.ownBlock → K (a.put o.dst v') w') :
    if Region.wanted o y then o.wp Try.prog a w K Q else k0 := by
  obtain ⟨i0, hi, hz0, hz1, hz2⟩ := infoK_parts
  rw [if_pos hgd]
  refine wp_append_own _ s x 63 ho B 67 i0 (.agg #[.int .i64 0, .int .i64 0]) 2 16 Try.underlying63 hi hz0 hz1 hz2 rfl (by decide) v cs.length (tcs cs) hs hown.own ⟨b, off, none⟩ bs.length c (tcs bs) hx (by rw [tcs_len]; omega) ?_ (fun u hu => tcs_mem hu) (by unfold maxLen; omega) (by omega) hB (fun v' w' g1 g2 _ => h v' w' ⟨fun t ht => ?_, ?_⟩ ((Below.refl _ _).grown g2 hB hown.block) g2)
  · intro j u hj
    have hj' : j < (tcs bs).length := (List.getElem?_eq_some_iff.1 hj).1
    rw [tcs_len] at hj'
    rw [Go.WideShapes.add_plain]
    have e : j = 2 * (j / 2) ∨ j = 2 * (j / 2) + 1 := by omega
    have hk := hcell (j / 2) (by omega)
    have hg := tcs_get bs (j / 2) (by omega)
    rcases e with e | e
    · rw [e] at hj ⊢
      rw [hk.1, ← hg.1, hj]
    · rw [e] at hj ⊢
      rw [← Nat.add_assoc, hk.2, ← hg.2, hj]
  · rcases List.mem_append.1 ht with ht | ht
    · exact hown.wf t ht
    · exact hwf t ht
  · rw [List.length_append, tcs_app]
    exact g1
theorem appKg {w : World} {ops : Array Oper} {rest : List Oper} {o : Oper} {a : Act} {Q : Exit → Act → World → Prop} (hgd : o.guard = none) (s x : Operand)
    (ho : o.op = .call { callee := .builtin .append, args := #[s, x], argTypes := #[63, 63] })
    (B : Nat) (cs bs : List (Int × Int)) (v : Value) (b off c : Nat) (hs : a.eval s = v) (hx : a.eval x = .slice (some ⟨b, off, none⟩) bs.length c)
    (hown : OwnK w B v cs) (hwf : ∀ t ∈ bs, I64 t.1 ∧ I64 t.2) (hcell : ∀ k, k < bs.length → w.cell? ⟨b, off + 2 * k, none⟩ = some (.int .i64 (bs.getD k (0, 0)).1) ∧ w.cell? ⟨b, off + 2 * k + 1, none⟩ = some (.int .i64 (bs.getD k (0, 0)).2)) (hB : B ≤ w.heap.size) (hl : cs.length + bs.length ≤ 8796093022208)
    (h : ∀ v' w', OwnK w' B v' (cs ++ bs) → Below B w w' → w.grownBy w' v.ownBlock → wpList Try.prog ops Q rest (a.put o.dst v') w') :
    wpList Try.prog ops Q (o :: rest) a w :=
  wpList_step fun K hK => appKk (by simp [Region.wanted, hgd]) s x ho B cs bs v b off c hs hx hown hwf hcell hB hl (fun v' w' p q r => hK _ _ (h v' w' p q r))
/-- a block of another type stays when tiers are appended -/
theorem VA.grownK {w w' : World} {p B : Nat} {cs : List Value} {T : TypeId} {v : Value} {bs : List (Int × Int)} (h : VA w p cs T) (g : w.grownBy w' v.ownBlock) (o : OwnK w B v bs) (hT : T ≠ 67) : VA w' p cs T := by
  refine ⟨(g.block p h.lt (fun e => ?_)).trans h.blk⟩
  rcases o.own.2 with ⟨rfl, _⟩ | ⟨q, cap, cur, rfl, _, hq, _⟩
  · cases e
  · cases e
    have := h.blk.symm.trans hq
    simp at this
    exact hT this.2

/-! what is read is what there is -/
theorem OwnK.form {w : World} {B : Nat} {v : Value} {ts : List (Int × Int)} (h : OwnK w B v ts) : ∃ a n c, v = .slice a n c := by
  rcases h.own.2 with ⟨rfl, _⟩ | ⟨g, cap, cur, rfl, _⟩
  · exact ⟨_, _, _, rfl⟩
  · exact ⟨_, _, _, rfl⟩
theorem OwnK.upd {w w' : World} {B p : Nat} {v : Value} {ts : List (Int × Int)} (h : OwnK w B v ts) (k : Upd p w w') (hp : p < B) : OwnK w' B v ts := by
  refine ⟨h.wf, h.own.1, ?_⟩
  rcases h.own.2 with h2 | ⟨g, cap, cur, e, hb, hg, r⟩
  · exact Or.inl h2
  · exact Or.inr ⟨g, cap, cur, e, hb, (k.block g (by omega)).trans hg, r⟩
/-- what lies in a row of one type stays when a row of another one is appended to -/
theorem OwnT.grownK {w w' : World} {B B' : Nat} {v u : Value} {ts ks : List (Int × Int)} (h : OwnT w B v ts) (g : w.grownBy w' u.ownBlock) (o : OwnK w B' u ks) : OwnT w' B v ts := by
  refine ⟨h.wf, h.own.1, ?_⟩
  rcases h.own.2 with h2 | ⟨q, cap, cur, e, hb, hg, r⟩
  · exact Or.inl h2
  · refine Or.inr ⟨q, cap, cur, e, hb, (g.block q ?_ ?_).trans hg, r⟩
    · rcases Nat.lt_or_ge q w.heap.size with hlt | hge
      · exact hlt
      · rw [Array.getElem?_eq_none hge] at hg; cases hg
    · intro e'
      rcases o.own.2 with ⟨rfl, _⟩ | ⟨q', cap', cur', rfl, _, hq, _⟩
      · cases e'
      · simp [Value.ownBlock] at e'
        subst e'
        rw [hg] at hq
        cases hq
theorem MapF.grownK {w w' : World} {k : TypeId} {b n B' : Nat} {f : Lit → Option Value} {u : Value} {ks : List (Int × Int)} (h : MapF w k b n f) (g : w.grownBy w' u.ownBlock) (o : OwnK w B' u ks) : MapF w' k b n f := by
  refine h.blk (g.block b h.lt ?_)
  intro e'
  obtain ⟨D, ⟨es, clock, hb, _⟩, _⟩ := h
  rcases o.own.2 with ⟨rfl, _⟩ | ⟨q', cap', cur', rfl, _, hq, _⟩
  · cases e'
  · simp [Value.ownBlock] at e'
    subst e'
    rw [hb] at hq
    cases hq
theorem OwnT.turned {w w' : World} {B b n : Nat} {k : TypeId} {f : Lit → Option Value} {v : Value} {ts : List (Int × Int)} (h : OwnT w B v ts) (m : MapF w k b n f) (t : w.mapTurned w' b) : OwnT w' B v ts := by
  refine ⟨h.wf, h.own.1, ?_⟩
  rcases h.own.2 with h2 | ⟨q, cap, cur, e, hb, hg, r⟩
  · exact Or.inl h2
  · refine Or.inr ⟨q, cap, cur, e, hb, (turned_block t q ?_).trans hg, r⟩
    rintro rfl
    obtain ⟨D, ⟨es, clock, hb, _⟩, _⟩ := m
    rw [hb] at hg
    cases hg
theorem OwnK.turned {w w' : World} {B b n : Nat} {k : TypeId} {f : Lit → Option Value} {v : Value} {ts : List (Int × Int)} (h : OwnK w B v ts) (m : MapF w k b n f) (t : w.mapTurned w' b) : OwnK w' B v ts := by
  refine ⟨h.wf, h.own.1, ?_⟩
  rcases h.own.2 with h2 | ⟨q, cap, cur, e, hb, hg, r⟩
  · exact Or.inl h2
  · refine Or.inr ⟨q, cap, cur, e, hb, (turned_block t q ?_).trans hg, r⟩
    rintro rfl
    obtain ⟨D, ⟨es, clock, hb, _⟩, _⟩ := m
    rw [hb] at hg
    cases hg
theorem VA.turned {w w' : World} {p b n : Nat} {k : TypeId} {f : Lit → Option Value} {cs : List Value} {T : TypeId} (h : VA w p cs T) (m : MapF w k b n f) (t : w.mapTurned w' b) : VA w' p cs T := by
  refine ⟨(turned_block t p ?_).trans h.blk⟩
  rintro rfl
  obtain ⟨D, ⟨es, clock, hb, _⟩, _⟩ := m
  have := h.blk
  rw [hb] at this
  cases this
theorem VA.notMap {w : World} {p b n : Nat} {k : TypeId} {f : Lit → Option Value} {cs : List Value} {T : TypeId} (h : VA w p cs T) (m : MapF w k b n f) : b ≠ p := by
  rintro rfl
  obtain ⟨D, ⟨es, clock, hb, _⟩, _⟩ := m
  have := h.blk
  rw [hb] at this
  cases this
theorem kl_ne {id day id' day' : Int} (h1 : I64 id) (h2 : I64 day) (h1' : I64 id') (h2' : I64 day') (h : ¬ (id = id' ∧ day = day')) : kl id day ≠ kl id' day' := by
  intro e
  have := keyedP.inj (kl_key h1 h2) (e ▸ kl_key h1' h2')
  unfold kv at this
  injection this with this
  simp only [Array.mk.injEq, List.cons.injEq, Value.int.injEq, true_and, and_true] at this
  exact h this
/-- the order's keys -/
def keysOf (vs : List PV) : List (Int × Int) := vs.map fun x => (x.id, x.day)
/-- The catalogue behind the pointer to block p holds the versions vs; all its blocks lie from B on; tiers lie in blocks of S. -/
structure Cat (w : World) (p B : Nat) (S : Nat → Prop) (vs : List PV) : Prop where
  wf : ∀ x ∈ vs, x.wf
  fine : ∀ x ∈ vs, chk x = 0
  len : vs.length ≤ 64
  mem : ∃ bm sv n f, VA w p [.map (some bm), sv] 65 ∧ B ≤ p ∧ B ≤ bm ∧ MapF w 67 bm n f ∧ n ≤ vs.length ∧ OwnK w B sv (keysOf vs) ∧
    (∀ x ∈ vs, ∃ tv, f (kl x.id x.day) = some (.agg (x.cells tv).toArray) ∧ OwnT w B tv x.ts ∧ ∀ k, tv.ownBlock = some k → S k) ∧
    (∀ id day, I64 id → I64 day → (∀ x ∈ vs, ¬ (x.id = id ∧ x.day = day)) → f (kl id day) = none)
theorem Cat.step {w w' : World} {p B : Nat} {S : Nat → Prop} {vs : List PV} (h : Cat w p B S vs) (k : Below w.heap.size w w') : Cat w' p B S vs := by
  obtain ⟨h1, h2, h3, bm, sv, n, f, a1, a2, a3, a4, a5, a6, a7, a8⟩ := h
  refine ⟨h1, h2, h3, bm, sv, n, f, a1.step k, a2, a3, a4.step k, a5, a6.step k, fun x hx => ?_, a8⟩
  obtain ⟨tv, e1, e2, e3⟩ := a7 x hx
  exact ⟨tv, e1, e2.step k, e3⟩
theorem Cat.lt {w : World} {p B : Nat} {S : Nat → Prop} {vs : List PV} (h : Cat w p B S vs) : p < w.heap.size := by
  obtain ⟨h1, h2, h3, bm, sv, n, f, a1, _⟩ := h
  exact a1.lt
set_option maxHeartbeats 1000000 in
set_option maxRecDepth 100000 in
theorem new_ok (w : World) : Calls Try.prog 16 #[] w fun e w' => (∃ p, e = .returned (.pointer (some ⟨p, 0, none⟩)) ∧ Cat w' p w.heap.size (fun _ => False) []) ∧ Below w.heap.size w w' := by
  have hmm := @run_makeMap Try.prog
  go_enter Try.func16, Try.ntmps16
  go_wp2_with fail
  go_ret
  have V := va_new (w.alloc (.map #[] 0)) [.map (some w.heap.size), .slice none 0 0] 65
  rw [World.size_alloc] at V
  have D := ((Below.refl w.heap.size w).alloc (Nat.le_refl _) (.map #[] 0)).alloc (by simp) (.cells #[.map (some w.heap.size), .slice none 0 0] 65)
  refine ⟨⟨_, rfl, (fun x hx => (by cases hx)), (fun x hx => (by cases hx)), by simp, w.heap.size, .slice none 0 0, 0, _, V, by omega, Nat.le_refl _, (mapF_made w _).alloc _, Nat.le_refl _, ownK_nil _ _, (fun x hx => (by cases hx)), fun _ _ _ _ _ => rfl⟩, D⟩
end Go.Proofs.Ytgbphbeafomabaa
