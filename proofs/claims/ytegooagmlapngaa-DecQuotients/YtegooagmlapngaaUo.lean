/- The document's decimals: the contracts of DocNeg, DocCmp; decimals out of form. -/
import Derived.Test.YtegooagmlapngaaUn
namespace Go.Proofs.Ytegooagmlapngaa
open Go.RowKit
set_option linter.unusedVariables false
attribute [local go_sem ↓] Go.wp_at_zero Go.wp_at_succ

theorem cell_put3 {w : World} {p q o : Nat} {c d f : Value} (h : q ≠ p) : (((w.setCell ⟨p, 0, none⟩ c).setCell ⟨p, 1, none⟩ d).setCell ⟨p, 2, none⟩ f).cell? ⟨q, o, none⟩ = w.cell? ⟨q, o, none⟩ := by
  have h3 : (((w.setCell ⟨p, 0, none⟩ c).setCell ⟨p, 1, none⟩ d).setCell ⟨p, 2, none⟩ f).heap[q]? = ((w.setCell ⟨p, 0, none⟩ c).setCell ⟨p, 1, none⟩ d).heap[q]? := Below.heap_setCell _ _ _ _ h
  exact (World.cell?_of_block (w := (w.setCell ⟨p, 0, none⟩ c).setCell ⟨p, 1, none⟩ d) (a := ⟨q, o, none⟩) h3).trans (cell_put h)
end Go.Proofs.Ytegooagmlapngaa
