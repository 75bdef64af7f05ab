/- prod: lists of versions that come in, opened. -/
import Derived.Test.YtgbphbeafomabaaHb
import Derived.Test.YtgbphbeafomabaaGu
namespace Go.Proofs.Ytgbphbeafomabaa
open Go.ChangeShapes Go.WideShapes Go.ChangeAt Go.RowKit
set_option linter.unusedVariables false

theorem weightsAll_mem {H : Type} (e : TypeId) : ∀ (l : List (DataW H)) (d : DataW H), d ∈ l → ∀ n ∈ d.weights Try.prog e, n ∈ DataW.weightsAll Try.prog e l
  | [], d, h, _, _ => by cases h
  | x :: r, d, h, n, hn => by
    unfold DataW.weightsAll
    rcases List.mem_cons.1 h with rfl | h
    · exact List.mem_append_left _ hn
    · exact List.mem_append_right _ (weightsAll_mem e r d h n hn)
theorem came_pvs {H : Type} {enc : TypeId × Value → H} {W : World} {fuel : Nat} {a : Option Addr} {len cap R : Nat} {d : DataW H} {p : List MemPlace} (h : DataW.trod enc Try.prog W 0 (fun _ => true) true fuel 38 (Value.slice a len cap).cells.toList = some (d, p))
    (hR : ∀ n ∈ DataW.weights Try.prog 38 d, n ≤ R) (hR2 : R ≤ 140737488351232 := by omega) : ∃ xs, Pvs W (.slice a len cap) xs := by
  rcases DataW.trod_slice Try.underlying38 h with ⟨hcs, hx⟩ | ⟨a', len', cap', elems, rest, n, _, hcs, hxx, _, hl, hm, hlen, hel, _, _⟩
  · simp [Value.cells] at hcs
    obtain ⟨rfl, rfl, rfl⟩ := hcs
    exact ⟨[], ⟨none, 0, rfl, by simp, by omega, fun h => by simp at h⟩⟩
  · simp [Value.cells] at hcs
    obtain ⟨rfl, rfl, rfl⟩ := hcs
    simp only [Prod.mk.injEq] at hxx
    have each : ∀ i, ∃ q : PV × Value, i < len → (∀ j u, (q.1.cells q.2)[j]? = some u → W.cell? ((a'.add (i * 9)).add j) = some u) ∧ Pin W q.1 q.2 := by
      intro i
      by_cases hi : i < len
      · have h1 := hel i hi
        rw [List.getElem?_eq_getElem (by omega), ecells, Option.bind_eq_some_iff] at h1
        obtain ⟨cs', hcs', ht⟩ := h1
        obtain ⟨x, tv, e, hw, hT, hno, hwt⟩ := came_cells ht
        obtain ⟨hcl, _, hc⟩ := World.cells?_some hcs'
        refine ⟨(x, tv), fun _ => ⟨fun j u hj => ?_, hw, hT, hno, ?_⟩⟩
        · have hj9 : j < 9 := by
            have := (List.getElem?_eq_some_iff.1 hj).1
            simpa [PV.cells] using this
          have := hc j (by omega)
          rw [this, e]
          exact hj
        · have := hwt R (fun m hm' => hR m ?_)
          · show x.ts.length + 2 ≤ 8796093022208
            omega
          · rw [hxx.1]
            unfold DataW.weights
            rw [Try.underlying38]
            refine List.mem_cons_of_mem _ (List.mem_append_left _ (weightsAll_mem _ _ _ ?_ m hm'))
            exact List.mem_map.2 ⟨_, List.getElem_mem (by omega), rfl⟩
      · exact ⟨(⟨0, 0, 0, 0, 0, 0, 0, 0, []⟩, .slice none 0 0), fun h => absurd h hi⟩
    obtain ⟨f, hf⟩ := Classical.skolem.1 each
    have hl2 : ((List.range len).map fun i => (f i).1).length = len := by simp
    refine ⟨(List.range len).map fun i => (f i).1, ⟨some a', cap, by rw [hl2], by omega, by unfold maxLen at hm; omega, fun h0 => ?_⟩⟩
    rw [hl2] at h0
    obtain ⟨b, off, spot⟩ := a'
    have hc0 := (hf 0 h0).1 0 (.int .i64 (f 0).1.id) rfl
    have hspot : spot = none := by simpa [Addr.add] using World.cell?_spot hc0
    subst hspot
    have hc : ∀ k, k < len → ∀ j u, ((f k).1.cells (f k).2)[j]? = some u → W.cell? ⟨b, off + k * 9 + j, none⟩ = some u := fun k hk j u hj => by
      have h1 := (hf k hk).1 j u hj
      rw [add_plain, add_plain] at h1
      exact h1
    refine ⟨b, off, rfl, lt_cell (hc 0 h0 0 _ rfl), fun k hk => ?_⟩
    rw [hl2] at hk
    have e : ((List.range len).map fun i => (f i).1)[k]'(by rw [hl2]; exact hk) = (f k).1 := by simp
    rw [e]
    exact ⟨(f k).2, hc k hk, (hf k hk).2⟩
end Go.Proofs.Ytgbphbeafomabaa
