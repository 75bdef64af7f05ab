/- event: the law's list of tiers with marked room behind it. -/
import Derived.Test.YtcognhhbpapibaaDoorFi
namespace Go.Proofs.YtcognhhbpapibaaDoor
open Go.RowKit
set_option linter.unusedVariables false

/-- append(l, t...) of any tiers -/
theorem appTr {w : World} {ops : Array Oper} {rest : List Oper} {o : Oper} {a : Act} {Q : Exit → Act → World → Prop} (hgd : o.guard = none) (s x : Operand)
    (ho : o.op = .call { callee := .builtin .append, args := #[s, x], argTypes := #[24, 24] })
    (B : Nat) (cs bs : List (Int × Int)) (v u : Value) (hs : a.eval s = v) (hx : a.eval x = u)
    (hown : OwnT w B v cs) (hu : Tr w u bs) (hno : ∀ n c, u = .slice none n c → c = 0) (hB : B ≤ w.heap.size) (hl : cs.length + bs.length ≤ 8796093022208)
    (h : ∀ v' w', OwnT w' B v' (cs ++ bs) → Below B w w' → w.grownBy w' v.ownBlock → wpList Tryd.prog ops Q rest (a.put o.dst v') w') :
    wpList Tryd.prog ops Q (o :: rest) a w := by
  obtain ⟨i0, hi, hz0, hz1, hz2⟩ := info44_parts
  obtain ⟨hwf, ad, c, rfl, h1, h2, h4⟩ := hu
  by_cases h0 : bs = []
  · subst h0
    cases ad with
    | none =>
      obtain rfl : c = 0 := hno _ _ rfl
      refine wpList_append_own_none hgd s x 24 ho B 44 i0 2 Tryd.underlying24 hi v cs.length (tcs cs) hs hown.own hx ?_
      exact h v w (by simpa using hown) (Below.refl _ _) (World.grownBy.refl _ _)
    | some ad =>
      refine wpList_append_own _ hgd s x 24 ho B 44 i0 (.agg #[.int .i64 0, .int .i64 0]) 2 16 Tryd.underlying24 hi hz0 hz1 hz2 rfl (by decide) v cs.length (tcs cs) hs hown.own ad 0 c [] hx rfl (fun j u hj => by simp at hj) (fun u hu => by simp at hu) (by unfold maxLen; omega) (by simp at hl; omega) hB (fun v' w' g1 g2 _ => h v' w' ⟨by simpa using hown.wf, by simpa using g1⟩ ((Below.refl _ _).grown g2 hB hown.block) g2)
  · have hp : 0 < bs.length := List.length_pos_iff.2 h0
    obtain ⟨b, off, rfl, hb, hcell⟩ := h4 hp
    exact appTg hgd s x ho B cs bs v b off c hs hx hown hwf hcell hB hl h
/-- the marked room -/
def mk2 : List (Int × Int) := [(77, 0), (0, 78)]
theorem ownT_made (w : World) : OwnT (w.alloc (.cells #[] 44)) w.heap.size (.slice (some ⟨w.heap.size, 0, none⟩) 0 0) [] :=
  ⟨fun t h => (by cases h), World.ownsRow_made w #[] 0 (Nat.le_refl _) (by unfold maxLen; omega) rfl⟩
theorem OwnT.head2 {w : World} {B : Nat} {v : Value} {ts : List (Int × Int)} (h : OwnT w B v (ts ++ mk2)) : ∃ g cap, v = .slice (some ⟨g, 0, none⟩) (ts.length + 2) cap ∧ ts.length + 2 ≤ cap ∧ cap ≤ 9223372036854775807 := by
  have hl : (ts ++ mk2).length = ts.length + 2 := by simp [mk2]
  rcases h.own.2 with ⟨rfl, h0⟩ | ⟨g, cap, cur, rfl, hb, hg, hcap, hcm, _⟩
  · omega
  · exact ⟨g, cap, by rw [hl], by omega, by unfold maxLen at hcm; omega⟩
theorem Tr.front {w : World} {a : Option Addr} {n c : Nat} {ts ms : List (Int × Int)} (h : Tr w (.slice a n c) (ts ++ ms)) : Tr w (.slice a ts.length c) ts := by
  obtain ⟨hw, a', c', e, h1, h2, h3⟩ := h
  cases e
  rw [List.length_append] at h1 h3
  refine ⟨fun t ht => hw t (List.mem_append_left _ ht), a, c, rfl, by omega, h2, fun h0 => ?_⟩
  obtain ⟨b, off, ea, hb, hx⟩ := h3 (by omega)
  refine ⟨b, off, ea, hb, fun k hk => ?_⟩
  have := hx k (by omega)
  have e : (ts ++ ms).getD k (0, 0) = ts.getD k (0, 0) := by simp [List.getD, List.getElem?_append_left hk]
  rwa [e] at this
set_option maxHeartbeats 1000000 in
set_option maxRecDepth 100000 in
theorem ltiers_ok (tv : Value) (ts : List (Int × Int)) (w : World) (h : Tr w tv ts) (hno : ∀ n c, tv = .slice none n c → c = 0) (hl : ts.length + 2 ≤ 8796093022208) :
    Calls Tryd.prog 8 #[tv] w fun e w' => (∃ g cap, e = .returned (.slice (some ⟨g, 0, none⟩) (ts.length + 2) cap) ∧ ts.length + 2 ≤ cap ∧ cap ≤ 9223372036854775807 ∧ OwnT w' w.heap.size (.slice (some ⟨g, 0, none⟩) (ts.length + 2) cap) (ts ++ mk2)) ∧ Below w.heap.size w w' := by
  have D1 := (Below.refl w.heap.size w).alloc (Nat.le_refl _) (.cells #[] 44)
  have HD := (show Hid _ from D1)
  have HT := (show Hid _ from h.step D1)
  have HO := (show Hid _ from ownT_made w)
  have HN := (show Hid _ from hno)
  have HLn := (show Hid _ from hl)
  clear D1 h hno hl
  go_enter Tryd.func8, Tryd.ntmps8
  have W3 : Hid (∀ t ∈ mk2, I64 t.1 ∧ I64 t.2) := by
    intro t ht
    simp only [mk2, List.mem_cons, List.not_mem_nil, or_false] at ht
    rcases ht with rfl | rfl <;> (unfold I64; simp)
  have C3 : Hid (∀ w2 : World, ∀ k, k < mk2.length → (w2.alloc (.cells #[.int .i64 77, .int .i64 0, .int .i64 0, .int .i64 78] 44)).cell? ⟨w2.heap.size, 0 + 2 * k, none⟩ = some (.int .i64 (mk2.getD k (0, 0)).1) ∧ (w2.alloc (.cells #[.int .i64 77, .int .i64 0, .int .i64 0, .int .i64 78] 44)).cell? ⟨w2.heap.size, 0 + 2 * k + 1, none⟩ = some (.int .i64 (mk2.getD k (0, 0)).2)) := by
    intro w2 k hk
    have VT : VA (w2.alloc (.cells #[.int .i64 77, .int .i64 0, .int .i64 0, .int .i64 78] 44)) w2.heap.size [.int .i64 77, .int .i64 0, .int .i64 0, .int .i64 78] 44 := va_new w2 [.int .i64 77, .int .i64 0, .int .i64 0, .int .i64 78] 44
    have hk2 : k < 2 := hk
    rcases (show k = 0 ∨ k = 1 by omega) with rfl | rfl
    · exact ⟨VT.cell 0 rfl, VT.cell 1 rfl⟩
    · exact ⟨VT.cell 2 rfl, VT.cell 3 rfl⟩
  go_wp2_with (first
    | (at_builtin; refine appTg rfl _ _ rfl w.heap.size ts mk2 v2 w2.heap.size 0 2 (by rfl) (by rfl) O3.out W3.out (C3.out w2) S3.out (by have := HLn.out; show ts.length + 2 ≤ _; omega) ?_; intro v4 w4 o4 b4 g4)
    | (at_builtin; refine appTr rfl _ _ rfl w.heap.size [] ts _ _ (by rfl) (by rfl) HO.out HT.out HN.out HD.out.size (by have := HLn.out; simp; omega) ?_; intro v2 w2 o2 b2 g2; rw [List.nil_append] at o2; have O3 := (show Hid _ from o2.step ((Below.refl w2.heap.size w2).alloc (Nat.le_refl _) (.cells #[.int .i64 77, .int .i64 0, .int .i64 0, .int .i64 78] 44))); have D2 := (show Hid _ from HD.out.trans b2); have S3 : Hid (w.heap.size ≤ (w2.alloc (.cells #[.int .i64 77, .int .i64 0, .int .i64 0, .int .i64 78] 44)).heap.size) := (by show _ ≤ _; rw [World.size_alloc]; have := D2.out.size; omega); clear o2 b2 g2))
  obtain ⟨g, cap, rfl, hc1, hc2⟩ := o4.head2
  go_ret
  exact ⟨⟨g, cap, rfl, hc1, hc2, o4⟩, (D2.out.alloc D2.out.size _).trans b4⟩
end Go.Proofs.YtcognhhbpapibaaDoor
