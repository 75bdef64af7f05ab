/- The document's decimals: the contract of DocAdd in form. -/
import Derived.Test.YtegooagmlapngaaUp
namespace Go.Proofs.Ytegooagmlapngaa
open Go.RowKit
set_option linter.unusedVariables false
attribute [local go_sem ↓] Go.wp_at_zero Go.wp_at_succ

theorem not_inr {z : Int} (h : ¬ InR z) : M127 ≤ (z.natAbs : Int) := by
  by_cases h2 : (z.natAbs : Int) < M127
  · exact absurd (inr_of h2) h
  · omega
end Go.Proofs.Ytegooagmlapngaa
