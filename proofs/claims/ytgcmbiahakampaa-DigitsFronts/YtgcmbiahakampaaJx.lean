/- digits: DigitsFronts' walk, whatever comes in. -/
import Derived.Test.YtgcmbiahakampaaJw
namespace Go.Proofs.Ytgcmbiahakampaa
open Go.RowKit
set_option linter.unusedVariables false

theorem fronts_walk (h l s a b : Int) (more : ByteArray) (w : World) (wh : (Lit.int .i64 h).wf = true) (wl : (Lit.int .u64 l).wf = true) (wa : (Lit.int .u8 a).wf = true) (wb : (Lit.int .u8 b).wf = true) (hm : more.size ≤ 140737488351232) :
    Calls Try.prog 5 #[.agg #[.int .i64 h, .int .u64 l, .int .i64 s], .int .u8 a, .int .u8 b, .string more] w fun e w' => e = .returned (.bool true) ∧ Below w.heap.size w w' := by
  have ha : 0 ≤ a ∧ a ≤ 255 := by simpa [Lit.wf, IntKind.min, IntKind.max, IntKind.signed, IntKind.bits] using wa
  have hb : 0 ≤ b ∧ b ≤ 255 := by simpa [Lit.wf, IntKind.min, IntKind.max, IntKind.signed, IntKind.bits] using wb
  obtain ⟨cu, rfl⟩ : ∃ cu : Nat, a = cu := ⟨a.toNat, by omega⟩
  obtain ⟨wr, rfl⟩ : ∃ wr : Nat, b = wr := ⟨b.toNat, by omega⟩
  rcases form_cases h l s wh wl with hbad | ⟨c, n, rfl, rfl, rfl, ic, hn⟩
  · exact fronts_bad h l s cu wr more w hbad
  · exact fronts_yes c n cu wr more w ic (by omega) (by omega) (by omega) (by omega)
end Go.Proofs.Ytgcmbiahakampaa
