/-
  No cell of these rows narrows 'for every input' (looked for: loops, veiled, ifaces, maps, wideKeys, modest, calm, conditions, laid).
  DERIVED. THE GIVEN ROWS OF THIS SEAT. 5 by the template 'for every input the law returns true; each argument reads behind the call as it read before'; 0 by the template 'total and deterministic' (their statements: YtgcmbiahakampaaTotals.lean).
  GIVEN WITH THE SEED: the statements are not yours to turn. If you find one false, say at which input.
  Laid BY PROGRAM, IN A SANDBOX (cutbox-rows.mjs): the forced cells as the released guide's own fill.sh prints them over the translation 73a1b2ab8c9ed00a… (all of the seat's roots in one cut). By AI agents, Wed Nov 11 2026. No macro, syntax, notation, axiom, sorry.
-/
import Derived.Test.YtgcmbiahakampaaChecked
import GoSem.Claim
import GoSem.ClaimJoined
import GoSem.ClaimMapViews
import Derived.JoinedTies
import Derived.KernelRfl
namespace Go.Proofs.Ytgcmbiahakampaa
/- THE CELL 'sum', in the pinned program and in every row, IS THE sha256 OF THE DUMP (.gsa) THAT YtgcmbiahakampaaProg.lean LOADS. Nothing in Lean hashes anything: it is a label: what it is worth is what the hold of that sum in a sandbox is worth. -/
noncomputable def Try.pinned : Pinned := { name := "ytgcmbiahakampaa", sum := "73a1b2ab8c9ed00af963d658c07e371755e2ef3bb8526bfda7383850d7452e30", checked := Try.checked }
namespace Rows
def none {H : Type} : Left H := { results := [], args := [] }

/-- 'passbooklaw02.DigitsWrites': WHATEVER THE INPUT: true; the input reads as it did. -/
def digitsWritesSpec : ChangeSpec := { name := "digitsWrites", fn := fun _ => fun
  | [d] => { results := [.lit (.bool true)], args := [d] }
  | _ => none }
def digitsWritesRow : OpenClaim := { program := "ytgcmbiahakampaa", sum := "73a1b2ab8c9ed00af963d658c07e371755e2ef3bb8526bfda7383850d7452e30", func := "passbook/passbooklaw02.DigitsWrites", spec := "digitsWrites", inPlace := ["math/bits.Sub64", "math/bits.Add64"], unfollowed := true, recurses := true, named := ["math/bits.divideError", "math/bits.overflowError"], apart := false }
def DigitsWritesSaid : Prop := digitsWritesRow.holds Try.pinned (OpenSpec.ofChange digitsWritesSpec)

/-- ITS FALSE NEIGHBOUR: 'it returns false'. Refute it at one input. -/
def digitsWritesWrong : ChangeSpec := { name := "digitsWrites", fn := fun _ => fun
  | [d] => { results := [.lit (.bool false)], args := [d] }
  | _ => none }
def DigitsWritesWrongFalsely : Prop := digitsWritesRow.holds Try.pinned (OpenSpec.ofChange digitsWritesWrong)

/-- 'passbooklaw02.DigitsReads': WHATEVER THE INPUT: true; the input reads as it did. -/
def digitsReadsSpec : ChangeSpec := { name := "digitsReads", fn := fun _ => fun
  | [d] => { results := [.lit (.bool true)], args := [d] }
  | _ => none }
def digitsReadsRow : OpenClaim := { program := "ytgcmbiahakampaa", sum := "73a1b2ab8c9ed00af963d658c07e371755e2ef3bb8526bfda7383850d7452e30", func := "passbook/passbooklaw02.DigitsReads", spec := "digitsReads", inPlace := ["math/bits.Sub64", "math/bits.Add64"], unfollowed := true, recurses := true, named := ["math/bits.divideError", "math/bits.overflowError"], apart := false }
def DigitsReadsSaid : Prop := digitsReadsRow.holds Try.pinned (OpenSpec.ofChange digitsReadsSpec)

/-- ITS FALSE NEIGHBOUR: 'it returns false'. Refute it at one input. -/
def digitsReadsWrong : ChangeSpec := { name := "digitsReads", fn := fun _ => fun
  | [d] => { results := [.lit (.bool false)], args := [d] }
  | _ => none }
def DigitsReadsWrongFalsely : Prop := digitsReadsRow.holds Try.pinned (OpenSpec.ofChange digitsReadsWrong)

/-- 'passbooklaw02.DigitsFronts': WHATEVER THE INPUT: true; the input reads as it did. -/
def digitsFrontsSpec : ChangeSpec := { name := "digitsFronts", fn := fun _ => fun
  | [d1, d2, d3, d4] => { results := [.lit (.bool true)], args := [d1, d2, d3, d4] }
  | _ => none }
def digitsFrontsRow : OpenClaim := { program := "ytgcmbiahakampaa", sum := "73a1b2ab8c9ed00af963d658c07e371755e2ef3bb8526bfda7383850d7452e30", func := "passbook/passbooklaw02.DigitsFronts", spec := "digitsFronts", inPlace := ["math/bits.Sub64", "math/bits.Add64"], unfollowed := true, recurses := true, named := ["math/bits.divideError", "math/bits.overflowError"], apart := false }
def DigitsFrontsSaid : Prop := digitsFrontsRow.holds Try.pinned (OpenSpec.ofChange digitsFrontsSpec)

/-- ITS FALSE NEIGHBOUR: 'it returns false'. Refute it at one input. -/
def digitsFrontsWrong : ChangeSpec := { name := "digitsFronts", fn := fun _ => fun
  | [d1, d2, d3, d4] => { results := [.lit (.bool false)], args := [d1, d2, d3, d4] }
  | _ => none }
def DigitsFrontsWrongFalsely : Prop := digitsFrontsRow.holds Try.pinned (OpenSpec.ofChange digitsFrontsWrong)

/-- 'passbooklaw02.DigitsOrder': WHATEVER THE INPUT: true; the input reads as it did. -/
def digitsOrderSpec : ChangeSpec := { name := "digitsOrder", fn := fun _ => fun
  | [d1, d2, d3] => { results := [.lit (.bool true)], args := [d1, d2, d3] }
  | _ => none }
def digitsOrderRow : OpenClaim := { program := "ytgcmbiahakampaa", sum := "73a1b2ab8c9ed00af963d658c07e371755e2ef3bb8526bfda7383850d7452e30", func := "passbook/passbooklaw02.DigitsOrder", spec := "digitsOrder", inPlace := ["math/bits.Sub64", "math/bits.Add64"], unfollowed := true, recurses := true, named := ["math/bits.divideError", "math/bits.overflowError"], apart := false }
def DigitsOrderSaid : Prop := digitsOrderRow.holds Try.pinned (OpenSpec.ofChange digitsOrderSpec)

/-- ITS FALSE NEIGHBOUR: 'it returns false'. Refute it at one input. -/
def digitsOrderWrong : ChangeSpec := { name := "digitsOrder", fn := fun _ => fun
  | [d1, d2, d3] => { results := [.lit (.bool false)], args := [d1, d2, d3] }
  | _ => none }
def DigitsOrderWrongFalsely : Prop := digitsOrderRow.holds Try.pinned (OpenSpec.ofChange digitsOrderWrong)

/-- 'passbooklaw02.DigitsLead': WHATEVER THE INPUT: true; the input reads as it did. -/
def digitsLeadSpec : ChangeSpec := { name := "digitsLead", fn := fun _ => fun
  | [d] => { results := [.lit (.bool true)], args := [d] }
  | _ => none }
def digitsLeadRow : OpenClaim := { program := "ytgcmbiahakampaa", sum := "73a1b2ab8c9ed00af963d658c07e371755e2ef3bb8526bfda7383850d7452e30", func := "passbook/passbooklaw02.DigitsLead", spec := "digitsLead", inPlace := ["math/bits.Sub64", "math/bits.Add64"], unfollowed := true, recurses := true, named := ["math/bits.divideError", "math/bits.overflowError"], apart := false }
def DigitsLeadSaid : Prop := digitsLeadRow.holds Try.pinned (OpenSpec.ofChange digitsLeadSpec)

/-- ITS FALSE NEIGHBOUR: 'it returns false'. Refute it at one input. -/
def digitsLeadWrong : ChangeSpec := { name := "digitsLead", fn := fun _ => fun
  | [d] => { results := [.lit (.bool false)], args := [d] }
  | _ => none }
def DigitsLeadWrongFalsely : Prop := digitsLeadRow.holds Try.pinned (OpenSpec.ofChange digitsLeadWrong)

/- THE SECOND FORM. 'bulk': how many values and letters a reading holds, each counted each time it is reached (what is shared counts as often as it is met; a slice's spare places count too). A statement '..UptoSaid' is the law's where the arguments, and the package variables that the reading takes, are together of bulk at most 1048576: NARROWER than '..Said'. Prove '..Said' where nothing that the law and all that it calls make is longer than what came in: it says more and counts as full. Else prove '..UptoSaid'. A law counts once. -/
mutual
def uptoBulk {H : Type} : DataW H → Nat
  | .lit (.string bytes) => bytes.length + 1
  | .lit _ => 1
  | .nil => 1
  | .ptr d => uptoBulk d + 1
  | .slice elems spare => uptoBulkAll elems + uptoBulkAll spare + 1
  | .agg parts => uptoBulkAll parts + 1
  | .iface _ d => uptoBulk d + 1
  | .map entries => uptoBulkEntries entries + 1
  | .held _ => 1
def uptoBulkAll {H : Type} : List (DataW H) → Nat
  | [] => 0
  | d :: r => uptoBulk d + uptoBulkAll r
def uptoBulkEntries {H : Type} : List (Lit × DataW H) → Nat
  | [] => 0
  | x :: r => uptoBulkEntry x + uptoBulkEntries r
def uptoBulkEntry {H : Type} : Lit × DataW H → Nat
  | (.string bytes, d) => bytes.length + uptoBulk d + 1
  | (_, d) => uptoBulk d + 1
 end
def uptoSmall : (H : Type) → List (DataW H) → Bool := fun _ ds => decide (uptoBulkAll ds ≤ 1048576)
def OpenSpec.upto (s : _root_.Go.ChangeSpec) : _root_.Go.OpenSpec := { _root_.Go.OpenSpec.ofChange s with cond := some uptoSmall }

/-- 'passbooklaw02.DigitsWrites', WHERE WHAT IT READS IS OF BULK AT MOST 1048576: true; the input reads as it did. -/
def digitsWritesUptoRow : OpenClaim := { program := "ytgcmbiahakampaa", sum := "73a1b2ab8c9ed00af963d658c07e371755e2ef3bb8526bfda7383850d7452e30", func := "passbook/passbooklaw02.DigitsWrites", spec := "digitsWrites", inPlace := ["math/bits.Sub64", "math/bits.Add64"], unfollowed := true, recurses := true, named := ["math/bits.divideError", "math/bits.overflowError"], apart := false, narrowed := true }
def DigitsWritesUptoSaid : Prop := digitsWritesUptoRow.holds Try.pinned (OpenSpec.upto digitsWritesSpec)

/-- 'passbooklaw02.DigitsReads', WHERE WHAT IT READS IS OF BULK AT MOST 1048576: true; the input reads as it did. -/
def digitsReadsUptoRow : OpenClaim := { program := "ytgcmbiahakampaa", sum := "73a1b2ab8c9ed00af963d658c07e371755e2ef3bb8526bfda7383850d7452e30", func := "passbook/passbooklaw02.DigitsReads", spec := "digitsReads", inPlace := ["math/bits.Sub64", "math/bits.Add64"], unfollowed := true, recurses := true, named := ["math/bits.divideError", "math/bits.overflowError"], apart := false, narrowed := true }
def DigitsReadsUptoSaid : Prop := digitsReadsUptoRow.holds Try.pinned (OpenSpec.upto digitsReadsSpec)

/-- 'passbooklaw02.DigitsFronts', WHERE WHAT IT READS IS OF BULK AT MOST 1048576: true; the input reads as it did. -/
def digitsFrontsUptoRow : OpenClaim := { program := "ytgcmbiahakampaa", sum := "73a1b2ab8c9ed00af963d658c07e371755e2ef3bb8526bfda7383850d7452e30", func := "passbook/passbooklaw02.DigitsFronts", spec := "digitsFronts", inPlace := ["math/bits.Sub64", "math/bits.Add64"], unfollowed := true, recurses := true, named := ["math/bits.divideError", "math/bits.overflowError"], apart := false, narrowed := true }
def DigitsFrontsUptoSaid : Prop := digitsFrontsUptoRow.holds Try.pinned (OpenSpec.upto digitsFrontsSpec)

/-- 'passbooklaw02.DigitsOrder', WHERE WHAT IT READS IS OF BULK AT MOST 1048576: true; the input reads as it did. -/
def digitsOrderUptoRow : OpenClaim := { program := "ytgcmbiahakampaa", sum := "73a1b2ab8c9ed00af963d658c07e371755e2ef3bb8526bfda7383850d7452e30", func := "passbook/passbooklaw02.DigitsOrder", spec := "digitsOrder", inPlace := ["math/bits.Sub64", "math/bits.Add64"], unfollowed := true, recurses := true, named := ["math/bits.divideError", "math/bits.overflowError"], apart := false, narrowed := true }
def DigitsOrderUptoSaid : Prop := digitsOrderUptoRow.holds Try.pinned (OpenSpec.upto digitsOrderSpec)

/-- 'passbooklaw02.DigitsLead', WHERE WHAT IT READS IS OF BULK AT MOST 1048576: true; the input reads as it did. -/
def digitsLeadUptoRow : OpenClaim := { program := "ytgcmbiahakampaa", sum := "73a1b2ab8c9ed00af963d658c07e371755e2ef3bb8526bfda7383850d7452e30", func := "passbook/passbooklaw02.DigitsLead", spec := "digitsLead", inPlace := ["math/bits.Sub64", "math/bits.Add64"], unfollowed := true, recurses := true, named := ["math/bits.divideError", "math/bits.overflowError"], apart := false, narrowed := true }
def DigitsLeadUptoSaid : Prop := digitsLeadUptoRow.holds Try.pinned (OpenSpec.upto digitsLeadSpec)

end Rows
end Go.Proofs.Ytgcmbiahakampaa
