/- The law DecRounds, of all arguments. -/
import Derived.Test.YtghdkchbaadddaaVb
import Derived.Test.YtghdkchbaadddaaUv
namespace Go.Proofs.Ytghdkchbaadddaa
open Go.RowKit
set_option linter.unusedVariables false

theorem rounds_walk (h l s t mode : Int) (wh : (Lit.int .i64 h).wf = true) (wl : (Lit.int .u64 l).wf = true) (w : World) :
    Calls Try.prog 5 #[.agg #[.int .i64 h, .int .u64 l, .int .i64 s], .int .i64 t, .int .i64 mode] w fun e w' => e = .returned (.bool true) ∧ Below w.heap.size w w' := by
  by_cases hb : (t < 0 ∨ 18 < t) ∨ mode < 0 ∨ 6 < mode
  · exact rounds_law h l s t mode _ _ _ _ w (fun w => rescale_arg h l s t mode w hb) (fun w => drescale_arg h l s t mode w hb)
  · obtain ⟨k, rfl⟩ := Int.eq_ofNat_of_zero_le (show 0 ≤ t by omega)
    obtain ⟨m, rfl⟩ := Int.eq_ofNat_of_zero_le (show 0 ≤ mode by omega)
    rcases form_cases h l s wh wl with hbad | ⟨c, n, rfl, rfl, rfl, ic, hn⟩
    · exact rounds_law h l s k m _ _ _ _ w (fun w => rescale_form h l s k m w (by omega) (by omega) (by omega) hbad) (fun w => drescale_form h l s k m w (by omega) (by omega) (by omega) hbad)
    · by_cases hr : InR (rv c n k m)
      · exact rounds_law _ _ _ k m _ _ _ _ w (fun w => rescale_yes c n k m w ic hn (by omega) (by omega) hr) (fun w => drescale_yes c n k m w ic hn (by omega) (by omega) hr)
      · exact rounds_law _ _ _ k m _ _ _ _ w (fun w => rescale_no c n k m w ic hn (by omega) (by omega) hr) (fun w => drescale_no c n k m w ic hn (by omega) (by omega) hr)
end Go.Proofs.Ytghdkchbaadddaa
