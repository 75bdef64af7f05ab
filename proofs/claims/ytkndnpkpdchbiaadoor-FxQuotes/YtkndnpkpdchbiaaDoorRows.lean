/-
  NARROWER THAN 'FOR EVERY INPUT', by the rows' own cells (each row's printed sentence says how): FxQuotes: laid · FxBack: laid · FxSpread: laid.
  DERIVED. THE GIVEN ROWS OF THIS SEAT. 3 by the template 'for every input the law returns true; each argument reads behind the call as it read before'; 0 by the template 'total and deterministic' (their statements: YtkndnpkpdchbiaaDoorTotals.lean).
  GIVEN WITH THE SEED: the statements are not yours to turn. If you find one false, say at which input.
  Laid BY PROGRAM, IN A SANDBOX (cutbox-rows.mjs): the forced cells as the released guide's own fill.sh prints them over the translation b85cd604cffce23e… (all of the seat's roots in one cut). By AI agents, Wed Nov 11 2026. No macro, syntax, notation, axiom, sorry.
-/
import Derived.Test.YtkndnpkpdchbiaaDoorChecked
import GoSem.Claim
import GoSem.ClaimJoined
import GoSem.ClaimMapViews
import Derived.JoinedTies
import Derived.KernelRfl
namespace Go.Proofs.YtkndnpkpdchbiaaDoor
/- THE CELL 'sum', in the pinned program and in every row, IS THE sha256 OF THE DUMP (.gsa) THAT YtkndnpkpdchbiaaDoorProg.lean LOADS. Nothing in Lean hashes anything: it is a label: what it is worth is what the hold of that sum in a sandbox is worth. -/
noncomputable def Tryd.pinned : Pinned := { name := "ytkndnpkpdchbiaadoor", sum := "b85cd604cffce23ef2c95f26faac0dae9c8b821d73195c10d9c006301233cd7f", checked := Tryd.checked }
namespace Rows
def none {H : Type} : Left H := { results := [], args := [] }

/- WHAT THE LISTED PACKAGE-LEVEL VARIABLES READ AS WHEN THE CALL BEGINS. Each datum BY PROGRAM (the guide's laid-datum.mjs) off the statement by which the dump's own 'gosem.cut.vars' lays the variable. In a bare row this is a premise. The card (YtkndnpkpdchbiaaDoorCards.lean) ties it to the program's text. -/
def laid_passbook_money_currencies {H : Type} : DataW H := .agg [.agg [.lit (.string [69, 85, 82]), .lit (.int .i64 2)], .agg [.lit (.string [85, 83, 68]), .lit (.int .i64 2)], .agg [.lit (.string [74, 80, 89]), .lit (.int .i64 0)], .agg [.lit (.string [75, 87, 68]), .lit (.int .i64 3)]]

/-- 'passbooklaw16.FxQuotes': WHATEVER THE INPUT: true; the input reads as it did. -/
def fxQuotesSpec : ChangeSpec := { name := "fxQuotes", fn := fun _ => fun
  | [d1, d2, d3] => { results := [.lit (.bool true)], args := [d1, d2, d3] }
  | _ => none }
def fxQuotesRow : OpenClaim := { program := "ytkndnpkpdchbiaadoor", sum := "b85cd604cffce23ef2c95f26faac0dae9c8b821d73195c10d9c006301233cd7f", func := "passbook/passbooklaw16.FxQuotes", spec := "fxQuotes", inPlace := ["math/bits.Sub64", "math/bits.Add64"], named := ["math/bits.divideError", "math/bits.overflowError", "passbook/money.currencies"], apart := false, laid := [("passbook/money.currencies", laid_passbook_money_currencies)] }
def FxQuotesSaid : Prop := fxQuotesRow.holds Tryd.pinned (OpenSpec.ofChange fxQuotesSpec)

/-- ITS FALSE NEIGHBOUR: 'it returns false'. Refute it at one input. -/
def fxQuotesWrong : ChangeSpec := { name := "fxQuotes", fn := fun _ => fun
  | [d1, d2, d3] => { results := [.lit (.bool false)], args := [d1, d2, d3] }
  | _ => none }
def FxQuotesWrongFalsely : Prop := fxQuotesRow.holds Tryd.pinned (OpenSpec.ofChange fxQuotesWrong)

/-- 'passbooklaw16.FxBack': WHATEVER THE INPUT: true; the input reads as it did. -/
def fxBackSpec : ChangeSpec := { name := "fxBack", fn := fun _ => fun
  | [d1, d2, d3, d4] => { results := [.lit (.bool true)], args := [d1, d2, d3, d4] }
  | _ => none }
def fxBackRow : OpenClaim := { program := "ytkndnpkpdchbiaadoor", sum := "b85cd604cffce23ef2c95f26faac0dae9c8b821d73195c10d9c006301233cd7f", func := "passbook/passbooklaw16.FxBack", spec := "fxBack", inPlace := ["math/bits.Sub64", "math/bits.Add64"], named := ["passbook/money.currencies", "math/bits.divideError", "math/bits.overflowError"], apart := false, laid := [("passbook/money.currencies", laid_passbook_money_currencies)] }
def FxBackSaid : Prop := fxBackRow.holds Tryd.pinned (OpenSpec.ofChange fxBackSpec)

/-- ITS FALSE NEIGHBOUR: 'it returns false'. Refute it at one input. -/
def fxBackWrong : ChangeSpec := { name := "fxBack", fn := fun _ => fun
  | [d1, d2, d3, d4] => { results := [.lit (.bool false)], args := [d1, d2, d3, d4] }
  | _ => none }
def FxBackWrongFalsely : Prop := fxBackRow.holds Tryd.pinned (OpenSpec.ofChange fxBackWrong)

/-- 'passbooklaw16.FxSpread': WHATEVER THE INPUT: true; the input reads as it did. -/
def fxSpreadSpec : ChangeSpec := { name := "fxSpread", fn := fun _ => fun
  | [d1, d2, d3] => { results := [.lit (.bool true)], args := [d1, d2, d3] }
  | _ => none }
def fxSpreadRow : OpenClaim := { program := "ytkndnpkpdchbiaadoor", sum := "b85cd604cffce23ef2c95f26faac0dae9c8b821d73195c10d9c006301233cd7f", func := "passbook/passbooklaw16.FxSpread", spec := "fxSpread", inPlace := ["math/bits.Sub64", "math/bits.Add64"], named := ["passbook/money.currencies", "math/bits.divideError", "math/bits.overflowError"], apart := false, laid := [("passbook/money.currencies", laid_passbook_money_currencies)] }
def FxSpreadSaid : Prop := fxSpreadRow.holds Tryd.pinned (OpenSpec.ofChange fxSpreadSpec)

/-- ITS FALSE NEIGHBOUR: 'it returns false'. Refute it at one input. -/
def fxSpreadWrong : ChangeSpec := { name := "fxSpread", fn := fun _ => fun
  | [d1, d2, d3] => { results := [.lit (.bool false)], args := [d1, d2, d3] }
  | _ => none }
def FxSpreadWrongFalsely : Prop := fxSpreadRow.holds Tryd.pinned (OpenSpec.ofChange fxSpreadWrong)

/- THE SECOND FORM. 'bulk': how many values and letters a reading holds, each counted each time it is reached (what is shared counts as often as it is met; a slice's spare places count too). A statement '..UptoSaid' is the law's where the arguments, and the package variables that the reading takes, are together of bulk at most 1048576: NARROWER than '..Said'. Prove '..Said' where nothing that the law and all that it calls make is longer than what came in: it says more and counts as full. Else prove '..UptoSaid'. A law counts once. -/
mutual
def uptoBulk {H : Type} : DataW H → Nat
  | .lit (.string bytes) => bytes.length + 1
  | .lit _ => 1
  | .nil => 1
  | .ptr d => uptoBulk d + 1
  | .slice elems spare => uptoBulkAll elems + uptoBulkAll spare + 1
  | .agg parts => uptoBulkAll parts + 1
  | .iface _ d => uptoBulk d + 1
  | .map entries => uptoBulkEntries entries + 1
  | .held _ => 1
def uptoBulkAll {H : Type} : List (DataW H) → Nat
  | [] => 0
  | d :: r => uptoBulk d + uptoBulkAll r
def uptoBulkEntries {H : Type} : List (Lit × DataW H) → Nat
  | [] => 0
  | x :: r => uptoBulkEntry x + uptoBulkEntries r
def uptoBulkEntry {H : Type} : Lit × DataW H → Nat
  | (.string bytes, d) => bytes.length + uptoBulk d + 1
  | (_, d) => uptoBulk d + 1
 end
def uptoSmall : (H : Type) → List (DataW H) → Bool := fun _ ds => decide (uptoBulkAll ds ≤ 1048576)
def OpenSpec.upto (s : _root_.Go.ChangeSpec) : _root_.Go.OpenSpec := { _root_.Go.OpenSpec.ofChange s with cond := some uptoSmall }

/-- 'passbooklaw16.FxQuotes', WHERE WHAT IT READS IS OF BULK AT MOST 1048576: true; the input reads as it did. -/
def fxQuotesUptoRow : OpenClaim := { program := "ytkndnpkpdchbiaadoor", sum := "b85cd604cffce23ef2c95f26faac0dae9c8b821d73195c10d9c006301233cd7f", func := "passbook/passbooklaw16.FxQuotes", spec := "fxQuotes", inPlace := ["math/bits.Sub64", "math/bits.Add64"], named := ["math/bits.divideError", "math/bits.overflowError", "passbook/money.currencies"], apart := false, laid := [("passbook/money.currencies", laid_passbook_money_currencies)], narrowed := true }
def FxQuotesUptoSaid : Prop := fxQuotesUptoRow.holds Tryd.pinned (OpenSpec.upto fxQuotesSpec)

/-- 'passbooklaw16.FxBack', WHERE WHAT IT READS IS OF BULK AT MOST 1048576: true; the input reads as it did. -/
def fxBackUptoRow : OpenClaim := { program := "ytkndnpkpdchbiaadoor", sum := "b85cd604cffce23ef2c95f26faac0dae9c8b821d73195c10d9c006301233cd7f", func := "passbook/passbooklaw16.FxBack", spec := "fxBack", inPlace := ["math/bits.Sub64", "math/bits.Add64"], named := ["passbook/money.currencies", "math/bits.divideError", "math/bits.overflowError"], apart := false, laid := [("passbook/money.currencies", laid_passbook_money_currencies)], narrowed := true }
def FxBackUptoSaid : Prop := fxBackUptoRow.holds Tryd.pinned (OpenSpec.upto fxBackSpec)

/-- 'passbooklaw16.FxSpread', WHERE WHAT IT READS IS OF BULK AT MOST 1048576: true; the input reads as it did. -/
def fxSpreadUptoRow : OpenClaim := { program := "ytkndnpkpdchbiaadoor", sum := "b85cd604cffce23ef2c95f26faac0dae9c8b821d73195c10d9c006301233cd7f", func := "passbook/passbooklaw16.FxSpread", spec := "fxSpread", inPlace := ["math/bits.Sub64", "math/bits.Add64"], named := ["passbook/money.currencies", "math/bits.divideError", "math/bits.overflowError"], apart := false, laid := [("passbook/money.currencies", laid_passbook_money_currencies)], narrowed := true }
def FxSpreadUptoSaid : Prop := fxSpreadUptoRow.holds Tryd.pinned (OpenSpec.upto fxSpreadSpec)

end Rows
end Go.Proofs.YtkndnpkpdchbiaaDoor
