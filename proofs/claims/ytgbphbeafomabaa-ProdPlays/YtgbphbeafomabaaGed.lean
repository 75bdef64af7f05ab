/- prod: the document's Check. -/
import Derived.Test.YtgbphbeafomabaaGea
import Derived.Test.YtgbphbeafomabaaGeb
import Derived.Test.YtgbphbeafomabaaGec
namespace Go.Proofs.Ytgbphbeafomabaa
open Go.RowKit
set_option linter.unusedVariables false

theorem rcheck_ok (x : PV) (tv : Value) (w : World) (h : Tr w tv x.ts) :
    Calls Try.prog 11 #[.agg (x.cells tv).toArray] w fun e w' => e = .returned (.int .i64 (chk x)) ∧ Below w.heap.size w w' := by
  obtain ⟨ta, tn, tc, rfl⟩ : ∃ a n c, tv = .slice a n c := by obtain ⟨_, a, c, e, _⟩ := h; exact ⟨a, _, c, e⟩
  cases g0 : wi x.id 1 1000000000
  · rw [show chk x = 1 by simp [chk, PV.inr, g0]]
    by_cases c : x.id < 1
    · exact rcheck_00 x ta tn tc w  c
    · exact rcheck_01 x ta tn tc w  (by omega) (by have := wi_no g0; omega)
  cases g1 : wi x.kind 1 2
  · rw [show chk x = 1 by simp [chk, PV.inr, g0, g1]]
    by_cases c : x.kind < 1
    · exact rcheck_10 x ta tn tc w g0 c
    · exact rcheck_11 x ta tn tc w g0 (by omega) (by have := wi_no g1; omega)
  cases g2 : wi x.cur 0 3
  · rw [show chk x = 1 by simp [chk, PV.inr, g0, g1, g2]]
    exact rcheck_20 x ta tn tc w g0 g1 g2
  cases g3 : wi x.day 1 3652059
  · rw [show chk x = 1 by simp [chk, PV.inr, g0, g1, g2, g3]]
    exact rcheck_30 x ta tn tc w g0 g1 g2 g3
  cases g4 : wi x.basis 0 3
  · rw [show chk x = 1 by simp [chk, PV.inr, g0, g1, g2, g3, g4]]
    by_cases c : x.basis < 0
    · exact rcheck_40 x ta tn tc w g0 g1 g2 g3 c
    · exact rcheck_41 x ta tn tc w g0 g1 g2 g3 (by omega) (by have := wi_no g4; omega)
  cases g5 : wi x.mode 0 6
  · rw [show chk x = 1 by simp [chk, PV.inr, g0, g1, g2, g3, g4, g5]]
    by_cases c : x.mode < 0
    · exact rcheck_50 x ta tn tc w g0 g1 g2 g3 g4 c
    · exact rcheck_51 x ta tn tc w g0 g1 g2 g3 g4 (by omega) (by have := wi_no g5; omega)
  cases g6 : wi x.fee 0 10000000000000
  · rw [show chk x = 1 by simp [chk, PV.inr, g0, g1, g2, g3, g4, g5, g6]]
    by_cases c : x.fee < 0
    · exact rcheck_60 x ta tn tc w g0 g1 g2 g3 g4 g5 c
    · exact rcheck_61 x ta tn tc w g0 g1 g2 g3 g4 g5 (by omega) (by have := wi_no g6; omega)
  cases g7 : wi x.lim 0 10000000000000
  · rw [show chk x = 1 by simp [chk, PV.inr, g0, g1, g2, g3, g4, g5, g6, g7]]
    by_cases c : x.lim < 0
    · exact rcheck_70 x ta tn tc w g0 g1 g2 g3 g4 g5 g6 c
    · exact rcheck_71 x ta tn tc w g0 g1 g2 g3 g4 g5 g6 (by omega) (by have := wi_no g7; omega)
  rw [show chk x = terr x.ts by simp [chk, PV.inr, g0, g1, g2, g3, g4, g5, g6, g7]]
  exact rcheck_8 x ta tn tc w h g0 g1 g2 g3 g4 g5 g6 g7
end Go.Proofs.Ytgbphbeafomabaa
