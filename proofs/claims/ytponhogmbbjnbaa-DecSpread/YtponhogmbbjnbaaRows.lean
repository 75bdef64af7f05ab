/-
  No cell of these rows narrows 'for every input' (looked for: loops, veiled, ifaces, maps, wideKeys, modest, calm, conditions, laid).
  DERIVED. THE GIVEN ROWS OF THIS SEAT. 6 by the template 'for every input the law returns true; each argument reads behind the call as it read before'; 0 by the template 'total and deterministic' (their statements: YtponhogmbbjnbaaTotals.lean).
  GIVEN WITH THE SEED: the statements are not yours to turn. If you find one false, say at which input.
  Laid BY PROGRAM, IN A SANDBOX (cutbox-rows.mjs): the forced cells as the released guide's own fill.sh prints them over the translation c89381fc0cfee25f… (all of the seat's roots in one cut). By AI agents, Wed Nov 11 2026. No macro, syntax, notation, axiom, sorry.
-/
import Derived.Test.YtponhogmbbjnbaaChecked
import GoSem.Claim
import GoSem.ClaimJoined
import GoSem.ClaimMapViews
import Derived.JoinedTies
import Derived.KernelRfl
namespace Go.Proofs.Ytponhogmbbjnbaa
/- THE CELL 'sum', in the pinned program and in every row, IS THE sha256 OF THE DUMP (.gsa) THAT YtponhogmbbjnbaaProg.lean LOADS. Nothing in Lean hashes anything: it is a label: what it is worth is what the hold of that sum in a sandbox is worth. -/
noncomputable def Try.pinned : Pinned := { name := "ytponhogmbbjnbaa", sum := "c89381fc0cfee25fa3041ba5b2c4c38189e211ad5a00fad6498ce8ffe64b2697", checked := Try.checked }
namespace Rows
def none {H : Type} : Left H := { results := [], args := [] }

/-- 'passbooklaw01.DecBetween': WHATEVER THE INPUT: true; the input reads as it did. -/
def decBetweenSpec : ChangeSpec := { name := "decBetween", fn := fun _ => fun
  | [d1, d2] => { results := [.lit (.bool true)], args := [d1, d2] }
  | _ => none }
def decBetweenRow : OpenClaim := { program := "ytponhogmbbjnbaa", sum := "c89381fc0cfee25fa3041ba5b2c4c38189e211ad5a00fad6498ce8ffe64b2697", func := "passbook/passbooklaw01.DecBetween", spec := "decBetween", inPlace := ["math/bits.Sub64", "math/bits.Add64"], named := ["math/bits.divideError", "math/bits.overflowError"], apart := false }
def DecBetweenSaid : Prop := decBetweenRow.holds Try.pinned (OpenSpec.ofChange decBetweenSpec)

/-- ITS FALSE NEIGHBOUR: 'it returns false'. Refute it at one input. -/
def decBetweenWrong : ChangeSpec := { name := "decBetween", fn := fun _ => fun
  | [d1, d2] => { results := [.lit (.bool false)], args := [d1, d2] }
  | _ => none }
def DecBetweenWrongFalsely : Prop := decBetweenRow.holds Try.pinned (OpenSpec.ofChange decBetweenWrong)

/-- 'passbooklaw01.DecBack': WHATEVER THE INPUT: true; the input reads as it did. -/
def decBackSpec : ChangeSpec := { name := "decBack", fn := fun _ => fun
  | [d1, d2, d3] => { results := [.lit (.bool true)], args := [d1, d2, d3] }
  | _ => none }
def decBackRow : OpenClaim := { program := "ytponhogmbbjnbaa", sum := "c89381fc0cfee25fa3041ba5b2c4c38189e211ad5a00fad6498ce8ffe64b2697", func := "passbook/passbooklaw01.DecBack", spec := "decBack", inPlace := ["math/bits.Sub64", "math/bits.Add64"], named := ["math/bits.divideError", "math/bits.overflowError"], apart := false }
def DecBackSaid : Prop := decBackRow.holds Try.pinned (OpenSpec.ofChange decBackSpec)

/-- ITS FALSE NEIGHBOUR: 'it returns false'. Refute it at one input. -/
def decBackWrong : ChangeSpec := { name := "decBack", fn := fun _ => fun
  | [d1, d2, d3] => { results := [.lit (.bool false)], args := [d1, d2, d3] }
  | _ => none }
def DecBackWrongFalsely : Prop := decBackRow.holds Try.pinned (OpenSpec.ofChange decBackWrong)

/-- 'passbooklaw01.DecOrder': WHATEVER THE INPUT: true; the input reads as it did. -/
def decOrderSpec : ChangeSpec := { name := "decOrder", fn := fun _ => fun
  | [d1, d2, d3] => { results := [.lit (.bool true)], args := [d1, d2, d3] }
  | _ => none }
def decOrderRow : OpenClaim := { program := "ytponhogmbbjnbaa", sum := "c89381fc0cfee25fa3041ba5b2c4c38189e211ad5a00fad6498ce8ffe64b2697", func := "passbook/passbooklaw01.DecOrder", spec := "decOrder", inPlace := ["math/bits.Sub64", "math/bits.Add64"], named := ["math/bits.divideError", "math/bits.overflowError"], apart := false }
def DecOrderSaid : Prop := decOrderRow.holds Try.pinned (OpenSpec.ofChange decOrderSpec)

/-- ITS FALSE NEIGHBOUR: 'it returns false'. Refute it at one input. -/
def decOrderWrong : ChangeSpec := { name := "decOrder", fn := fun _ => fun
  | [d1, d2, d3] => { results := [.lit (.bool false)], args := [d1, d2, d3] }
  | _ => none }
def DecOrderWrongFalsely : Prop := decOrderRow.holds Try.pinned (OpenSpec.ofChange decOrderWrong)

/-- 'passbooklaw01.DecNegs': WHATEVER THE INPUT: true; the input reads as it did. -/
def decNegsSpec : ChangeSpec := { name := "decNegs", fn := fun _ => fun
  | [d1, d2] => { results := [.lit (.bool true)], args := [d1, d2] }
  | _ => none }
def decNegsRow : OpenClaim := { program := "ytponhogmbbjnbaa", sum := "c89381fc0cfee25fa3041ba5b2c4c38189e211ad5a00fad6498ce8ffe64b2697", func := "passbook/passbooklaw01.DecNegs", spec := "decNegs", inPlace := ["math/bits.Sub64", "math/bits.Add64"], named := ["math/bits.divideError", "math/bits.overflowError"], apart := false }
def DecNegsSaid : Prop := decNegsRow.holds Try.pinned (OpenSpec.ofChange decNegsSpec)

/-- ITS FALSE NEIGHBOUR: 'it returns false'. Refute it at one input. -/
def decNegsWrong : ChangeSpec := { name := "decNegs", fn := fun _ => fun
  | [d1, d2] => { results := [.lit (.bool false)], args := [d1, d2] }
  | _ => none }
def DecNegsWrongFalsely : Prop := decNegsRow.holds Try.pinned (OpenSpec.ofChange decNegsWrong)

/-- 'passbooklaw01.DecScales': WHATEVER THE INPUT: true; the input reads as it did. -/
def decScalesSpec : ChangeSpec := { name := "decScales", fn := fun _ => fun
  | [d1, d2] => { results := [.lit (.bool true)], args := [d1, d2] }
  | _ => none }
def decScalesRow : OpenClaim := { program := "ytponhogmbbjnbaa", sum := "c89381fc0cfee25fa3041ba5b2c4c38189e211ad5a00fad6498ce8ffe64b2697", func := "passbook/passbooklaw01.DecScales", spec := "decScales", inPlace := ["math/bits.Sub64", "math/bits.Add64"], named := ["math/bits.divideError", "math/bits.overflowError"], apart := false }
def DecScalesSaid : Prop := decScalesRow.holds Try.pinned (OpenSpec.ofChange decScalesSpec)

/-- ITS FALSE NEIGHBOUR: 'it returns false'. Refute it at one input. -/
def decScalesWrong : ChangeSpec := { name := "decScales", fn := fun _ => fun
  | [d1, d2] => { results := [.lit (.bool false)], args := [d1, d2] }
  | _ => none }
def DecScalesWrongFalsely : Prop := decScalesRow.holds Try.pinned (OpenSpec.ofChange decScalesWrong)

/-- 'passbooklaw01.DecSpread': WHATEVER THE INPUT: true; the input reads as it did. -/
def decSpreadSpec : ChangeSpec := { name := "decSpread", fn := fun _ => fun
  | [d1, d2, d3, d4, d5] => { results := [.lit (.bool true)], args := [d1, d2, d3, d4, d5] }
  | _ => none }
def decSpreadRow : OpenClaim := { program := "ytponhogmbbjnbaa", sum := "c89381fc0cfee25fa3041ba5b2c4c38189e211ad5a00fad6498ce8ffe64b2697", func := "passbook/passbooklaw01.DecSpread", spec := "decSpread", inPlace := ["math/bits.Sub64", "math/bits.Add64"], named := ["math/bits.divideError", "math/bits.overflowError"], apart := false }
def DecSpreadSaid : Prop := decSpreadRow.holds Try.pinned (OpenSpec.ofChange decSpreadSpec)

/-- ITS FALSE NEIGHBOUR: 'it returns false'. Refute it at one input. -/
def decSpreadWrong : ChangeSpec := { name := "decSpread", fn := fun _ => fun
  | [d1, d2, d3, d4, d5] => { results := [.lit (.bool false)], args := [d1, d2, d3, d4, d5] }
  | _ => none }
def DecSpreadWrongFalsely : Prop := decSpreadRow.holds Try.pinned (OpenSpec.ofChange decSpreadWrong)

/- THE SECOND FORM. 'bulk': how many values and letters a reading holds, each counted each time it is reached (what is shared counts as often as it is met; a slice's spare places count too). A statement '..UptoSaid' is the law's where the arguments, and the package variables that the reading takes, are together of bulk at most 1048576: NARROWER than '..Said'. Prove '..Said' where nothing that the law and all that it calls make is longer than what came in: it says more and counts as full. Else prove '..UptoSaid'. A law counts once. -/
mutual
def uptoBulk {H : Type} : DataW H → Nat
  | .lit (.string bytes) => bytes.length + 1
  | .lit _ => 1
  | .nil => 1
  | .ptr d => uptoBulk d + 1
  | .slice elems spare => uptoBulkAll elems + uptoBulkAll spare + 1
  | .agg parts => uptoBulkAll parts + 1
  | .iface _ d => uptoBulk d + 1
  | .map entries => uptoBulkEntries entries + 1
  | .held _ => 1
def uptoBulkAll {H : Type} : List (DataW H) → Nat
  | [] => 0
  | d :: r => uptoBulk d + uptoBulkAll r
def uptoBulkEntries {H : Type} : List (Lit × DataW H) → Nat
  | [] => 0
  | x :: r => uptoBulkEntry x + uptoBulkEntries r
def uptoBulkEntry {H : Type} : Lit × DataW H → Nat
  | (.string bytes, d) => bytes.length + uptoBulk d + 1
  | (_, d) => uptoBulk d + 1
 end
def uptoSmall : (H : Type) → List (DataW H) → Bool := fun _ ds => decide (uptoBulkAll ds ≤ 1048576)
def OpenSpec.upto (s : _root_.Go.ChangeSpec) : _root_.Go.OpenSpec := { _root_.Go.OpenSpec.ofChange s with cond := some uptoSmall }

/-- 'passbooklaw01.DecBetween', WHERE WHAT IT READS IS OF BULK AT MOST 1048576: true; the input reads as it did. -/
def decBetweenUptoRow : OpenClaim := { program := "ytponhogmbbjnbaa", sum := "c89381fc0cfee25fa3041ba5b2c4c38189e211ad5a00fad6498ce8ffe64b2697", func := "passbook/passbooklaw01.DecBetween", spec := "decBetween", inPlace := ["math/bits.Sub64", "math/bits.Add64"], named := ["math/bits.divideError", "math/bits.overflowError"], apart := false, narrowed := true }
def DecBetweenUptoSaid : Prop := decBetweenUptoRow.holds Try.pinned (OpenSpec.upto decBetweenSpec)

/-- 'passbooklaw01.DecBack', WHERE WHAT IT READS IS OF BULK AT MOST 1048576: true; the input reads as it did. -/
def decBackUptoRow : OpenClaim := { program := "ytponhogmbbjnbaa", sum := "c89381fc0cfee25fa3041ba5b2c4c38189e211ad5a00fad6498ce8ffe64b2697", func := "passbook/passbooklaw01.DecBack", spec := "decBack", inPlace := ["math/bits.Sub64", "math/bits.Add64"], named := ["math/bits.divideError", "math/bits.overflowError"], apart := false, narrowed := true }
def DecBackUptoSaid : Prop := decBackUptoRow.holds Try.pinned (OpenSpec.upto decBackSpec)

/-- 'passbooklaw01.DecOrder', WHERE WHAT IT READS IS OF BULK AT MOST 1048576: true; the input reads as it did. -/
def decOrderUptoRow : OpenClaim := { program := "ytponhogmbbjnbaa", sum := "c89381fc0cfee25fa3041ba5b2c4c38189e211ad5a00fad6498ce8ffe64b2697", func := "passbook/passbooklaw01.DecOrder", spec := "decOrder", inPlace := ["math/bits.Sub64", "math/bits.Add64"], named := ["math/bits.divideError", "math/bits.overflowError"], apart := false, narrowed := true }
def DecOrderUptoSaid : Prop := decOrderUptoRow.holds Try.pinned (OpenSpec.upto decOrderSpec)

/-- 'passbooklaw01.DecNegs', WHERE WHAT IT READS IS OF BULK AT MOST 1048576: true; the input reads as it did. -/
def decNegsUptoRow : OpenClaim := { program := "ytponhogmbbjnbaa", sum := "c89381fc0cfee25fa3041ba5b2c4c38189e211ad5a00fad6498ce8ffe64b2697", func := "passbook/passbooklaw01.DecNegs", spec := "decNegs", inPlace := ["math/bits.Sub64", "math/bits.Add64"], named := ["math/bits.divideError", "math/bits.overflowError"], apart := false, narrowed := true }
def DecNegsUptoSaid : Prop := decNegsUptoRow.holds Try.pinned (OpenSpec.upto decNegsSpec)

/-- 'passbooklaw01.DecScales', WHERE WHAT IT READS IS OF BULK AT MOST 1048576: true; the input reads as it did. -/
def decScalesUptoRow : OpenClaim := { program := "ytponhogmbbjnbaa", sum := "c89381fc0cfee25fa3041ba5b2c4c38189e211ad5a00fad6498ce8ffe64b2697", func := "passbook/passbooklaw01.DecScales", spec := "decScales", inPlace := ["math/bits.Sub64", "math/bits.Add64"], named := ["math/bits.divideError", "math/bits.overflowError"], apart := false, narrowed := true }
def DecScalesUptoSaid : Prop := decScalesUptoRow.holds Try.pinned (OpenSpec.upto decScalesSpec)

/-- 'passbooklaw01.DecSpread', WHERE WHAT IT READS IS OF BULK AT MOST 1048576: true; the input reads as it did. -/
def decSpreadUptoRow : OpenClaim := { program := "ytponhogmbbjnbaa", sum := "c89381fc0cfee25fa3041ba5b2c4c38189e211ad5a00fad6498ce8ffe64b2697", func := "passbook/passbooklaw01.DecSpread", spec := "decSpread", inPlace := ["math/bits.Sub64", "math/bits.Add64"], named := ["math/bits.divideError", "math/bits.overflowError"], apart := false, narrowed := true }
def DecSpreadUptoSaid : Prop := decSpreadUptoRow.holds Try.pinned (OpenSpec.upto decSpreadSpec)

end Rows
end Go.Proofs.Ytponhogmbbjnbaa
