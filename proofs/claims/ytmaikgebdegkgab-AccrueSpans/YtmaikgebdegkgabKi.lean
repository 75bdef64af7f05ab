/- accrue: the walk of AccrueGrows. -/
import Derived.Test.YtmaikgebdegkgabKh
namespace Go.Proofs.Ytmaikgebdegkgab
open Go.RowKit
set_option linter.unusedVariables false

theorem wf_one (r : Int) (h : 0 ≤ r ∧ r ≤ 1000000000) : ∀ t ∈ [((0 : Int), r)], I64 t.1 ∧ I64 t.2 := by
  intro t ht; simp at ht; subst ht; exact ⟨by unfold I64; dsimp only; omega, by unfold I64; dsimp only; omega⟩
theorem wf_two (r c : Int) (h : 0 ≤ r ∧ r ≤ 1000000000) (hc : 1 ≤ c ∧ c ≤ 10000000000000) : ∀ t ∈ [((0 : Int), r), (c, r)], I64 t.1 ∧ I64 t.2 := by
  intro t ht; simp at ht; rcases ht with rfl | rfl
  · exact ⟨by unfold I64; dsimp only; omega, by unfold I64; dsimp only; omega⟩
  · exact ⟨by unfold I64; dsimp only; omega, by unfold I64; dsimp only; omega⟩
end Go.Proofs.Ytmaikgebdegkgab
