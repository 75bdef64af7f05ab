/-
  NARROWER THAN 'FOR EVERY INPUT', by the rows' own cells (each row's printed sentence says how): MoneySplits: laid · MoneyNothingLost: laid · MoneyScaled: laid.
  DERIVED. THE GIVEN ROWS OF THIS SEAT. 3 by the template 'for every input the law returns true; each argument reads behind the call as it read before'; 0 by the template 'total and deterministic' (their statements: YtbgglghapjfdeaaDoorTotals.lean).
  GIVEN WITH THE SEED: the statements are not yours to turn. If you find one false, say at which input.
  Laid BY PROGRAM, IN A SANDBOX (cutbox-rows.mjs): the forced cells as the released guide's own fill.sh prints them over the translation c23c8c24dc457350… (all of the seat's roots in one cut). By AI agents, Wed Nov 11 2026. No macro, syntax, notation, axiom, sorry.
-/
import Derived.Test.YtbgglghapjfdeaaDoorChecked
import GoSem.Claim
import GoSem.ClaimJoined
import GoSem.ClaimMapViews
import Derived.JoinedTies
import Derived.KernelRfl
namespace Go.Proofs.YtbgglghapjfdeaaDoor
/- THE CELL 'sum', in the pinned program and in every row, IS THE sha256 OF THE DUMP (.gsa) THAT YtbgglghapjfdeaaDoorProg.lean LOADS. Nothing in Lean hashes anything: it is a label: what it is worth is what the hold of that sum in a sandbox is worth. -/
noncomputable def Tryd.pinned : Pinned := { name := "ytbgglghapjfdeaadoor", sum := "c23c8c24dc4573500fd67643d91c760f23b8c4c8714ffdcdd35d710b8e03271a", checked := Tryd.checked }
namespace Rows
def none {H : Type} : Left H := { results := [], args := [] }

/- WHAT THE LISTED PACKAGE-LEVEL VARIABLES READ AS WHEN THE CALL BEGINS. Each datum BY PROGRAM (the guide's laid-datum.mjs) off the statement by which the dump's own 'gosem.cut.vars' lays the variable. In a bare row this is a premise. The card (YtbgglghapjfdeaaDoorCards.lean) ties it to the program's text. -/
def laid_passbook_money_currencies {H : Type} : DataW H := .agg [.agg [.lit (.string [69, 85, 82]), .lit (.int .i64 2)], .agg [.lit (.string [85, 83, 68]), .lit (.int .i64 2)], .agg [.lit (.string [74, 80, 89]), .lit (.int .i64 0)], .agg [.lit (.string [75, 87, 68]), .lit (.int .i64 3)]]

/-- 'passbooklaw05.MoneySplits': WHATEVER THE INPUT: true; the input reads as it did. -/
def moneySplitsSpec : ChangeSpec := { name := "moneySplits", fn := fun _ => fun
  | [d1, d2] => { results := [.lit (.bool true)], args := [d1, d2] }
  | _ => none }
def moneySplitsRow : OpenClaim := { program := "ytbgglghapjfdeaadoor", sum := "c23c8c24dc4573500fd67643d91c760f23b8c4c8714ffdcdd35d710b8e03271a", func := "passbook/passbooklaw05.MoneySplits", spec := "moneySplits", inPlace := ["math/bits.Sub64"], unfollowed := true, recurses := true, named := ["math/bits.divideError", "math/bits.overflowError", "passbook/money.currencies"], apart := false, laid := [("passbook/money.currencies", laid_passbook_money_currencies)] }
def MoneySplitsSaid : Prop := moneySplitsRow.holds Tryd.pinned (OpenSpec.ofChange moneySplitsSpec)

/-- ITS FALSE NEIGHBOUR: 'it returns false'. Refute it at one input. -/
def moneySplitsWrong : ChangeSpec := { name := "moneySplits", fn := fun _ => fun
  | [d1, d2] => { results := [.lit (.bool false)], args := [d1, d2] }
  | _ => none }
def MoneySplitsWrongFalsely : Prop := moneySplitsRow.holds Tryd.pinned (OpenSpec.ofChange moneySplitsWrong)

/-- 'passbooklaw05.MoneyNothingLost': WHATEVER THE INPUT: true; the input reads as it did. -/
def moneyNothingLostSpec : ChangeSpec := { name := "moneyNothingLost", fn := fun _ => fun
  | [d1, d2] => { results := [.lit (.bool true)], args := [d1, d2] }
  | _ => none }
def moneyNothingLostRow : OpenClaim := { program := "ytbgglghapjfdeaadoor", sum := "c23c8c24dc4573500fd67643d91c760f23b8c4c8714ffdcdd35d710b8e03271a", func := "passbook/passbooklaw05.MoneyNothingLost", spec := "moneyNothingLost", inPlace := ["math/bits.Sub64"], unfollowed := true, recurses := true, named := ["math/bits.divideError", "math/bits.overflowError", "passbook/money.currencies"], apart := false, laid := [("passbook/money.currencies", laid_passbook_money_currencies)] }
def MoneyNothingLostSaid : Prop := moneyNothingLostRow.holds Tryd.pinned (OpenSpec.ofChange moneyNothingLostSpec)

/-- ITS FALSE NEIGHBOUR: 'it returns false'. Refute it at one input. -/
def moneyNothingLostWrong : ChangeSpec := { name := "moneyNothingLost", fn := fun _ => fun
  | [d1, d2] => { results := [.lit (.bool false)], args := [d1, d2] }
  | _ => none }
def MoneyNothingLostWrongFalsely : Prop := moneyNothingLostRow.holds Tryd.pinned (OpenSpec.ofChange moneyNothingLostWrong)

/-- 'passbooklaw05.MoneyScaled': WHATEVER THE INPUT: true; the input reads as it did. -/
def moneyScaledSpec : ChangeSpec := { name := "moneyScaled", fn := fun _ => fun
  | [d1, d2, d3, d4] => { results := [.lit (.bool true)], args := [d1, d2, d3, d4] }
  | _ => none }
def moneyScaledRow : OpenClaim := { program := "ytbgglghapjfdeaadoor", sum := "c23c8c24dc4573500fd67643d91c760f23b8c4c8714ffdcdd35d710b8e03271a", func := "passbook/passbooklaw05.MoneyScaled", spec := "moneyScaled", inPlace := ["math/bits.Sub64"], unfollowed := true, recurses := true, named := ["math/bits.divideError", "math/bits.overflowError", "passbook/money.currencies"], apart := false, laid := [("passbook/money.currencies", laid_passbook_money_currencies)] }
def MoneyScaledSaid : Prop := moneyScaledRow.holds Tryd.pinned (OpenSpec.ofChange moneyScaledSpec)

/-- ITS FALSE NEIGHBOUR: 'it returns false'. Refute it at one input. -/
def moneyScaledWrong : ChangeSpec := { name := "moneyScaled", fn := fun _ => fun
  | [d1, d2, d3, d4] => { results := [.lit (.bool false)], args := [d1, d2, d3, d4] }
  | _ => none }
def MoneyScaledWrongFalsely : Prop := moneyScaledRow.holds Tryd.pinned (OpenSpec.ofChange moneyScaledWrong)

/- THE SECOND FORM. 'bulk': how many values and letters a reading holds, each counted each time it is reached (what is shared counts as often as it is met; a slice's spare places count too). A statement '..UptoSaid' is the law's where the arguments, and the package variables that the reading takes, are together of bulk at most 1048576: NARROWER than '..Said'. Prove '..Said' where nothing that the law and all that it calls make is longer than what came in: it says more and counts as full. Else prove '..UptoSaid'. A law counts once. -/
mutual
def uptoBulk {H : Type} : DataW H → Nat
  | .lit (.string bytes) => bytes.length + 1
  | .lit _ => 1
  | .nil => 1
  | .ptr d => uptoBulk d + 1
  | .slice elems spare => uptoBulkAll elems + uptoBulkAll spare + 1
  | .agg parts => uptoBulkAll parts + 1
  | .iface _ d => uptoBulk d + 1
  | .map entries => uptoBulkEntries entries + 1
  | .held _ => 1
def uptoBulkAll {H : Type} : List (DataW H) → Nat
  | [] => 0
  | d :: r => uptoBulk d + uptoBulkAll r
def uptoBulkEntries {H : Type} : List (Lit × DataW H) → Nat
  | [] => 0
  | x :: r => uptoBulkEntry x + uptoBulkEntries r
def uptoBulkEntry {H : Type} : Lit × DataW H → Nat
  | (.string bytes, d) => bytes.length + uptoBulk d + 1
  | (_, d) => uptoBulk d + 1
 end
def uptoSmall : (H : Type) → List (DataW H) → Bool := fun _ ds => decide (uptoBulkAll ds ≤ 1048576)
def OpenSpec.upto (s : _root_.Go.ChangeSpec) : _root_.Go.OpenSpec := { _root_.Go.OpenSpec.ofChange s with cond := some uptoSmall }

/-- 'passbooklaw05.MoneySplits', WHERE WHAT IT READS IS OF BULK AT MOST 1048576: true; the input reads as it did. -/
def moneySplitsUptoRow : OpenClaim := { program := "ytbgglghapjfdeaadoor", sum := "c23c8c24dc4573500fd67643d91c760f23b8c4c8714ffdcdd35d710b8e03271a", func := "passbook/passbooklaw05.MoneySplits", spec := "moneySplits", inPlace := ["math/bits.Sub64"], unfollowed := true, recurses := true, named := ["math/bits.divideError", "math/bits.overflowError", "passbook/money.currencies"], apart := false, laid := [("passbook/money.currencies", laid_passbook_money_currencies)], narrowed := true }
def MoneySplitsUptoSaid : Prop := moneySplitsUptoRow.holds Tryd.pinned (OpenSpec.upto moneySplitsSpec)

/-- 'passbooklaw05.MoneyNothingLost', WHERE WHAT IT READS IS OF BULK AT MOST 1048576: true; the input reads as it did. -/
def moneyNothingLostUptoRow : OpenClaim := { program := "ytbgglghapjfdeaadoor", sum := "c23c8c24dc4573500fd67643d91c760f23b8c4c8714ffdcdd35d710b8e03271a", func := "passbook/passbooklaw05.MoneyNothingLost", spec := "moneyNothingLost", inPlace := ["math/bits.Sub64"], unfollowed := true, recurses := true, named := ["math/bits.divideError", "math/bits.overflowError", "passbook/money.currencies"], apart := false, laid := [("passbook/money.currencies", laid_passbook_money_currencies)], narrowed := true }
def MoneyNothingLostUptoSaid : Prop := moneyNothingLostUptoRow.holds Tryd.pinned (OpenSpec.upto moneyNothingLostSpec)

/-- 'passbooklaw05.MoneyScaled', WHERE WHAT IT READS IS OF BULK AT MOST 1048576: true; the input reads as it did. -/
def moneyScaledUptoRow : OpenClaim := { program := "ytbgglghapjfdeaadoor", sum := "c23c8c24dc4573500fd67643d91c760f23b8c4c8714ffdcdd35d710b8e03271a", func := "passbook/passbooklaw05.MoneyScaled", spec := "moneyScaled", inPlace := ["math/bits.Sub64"], unfollowed := true, recurses := true, named := ["math/bits.divideError", "math/bits.overflowError", "passbook/money.currencies"], apart := false, laid := [("passbook/money.currencies", laid_passbook_money_currencies)], narrowed := true }
def MoneyScaledUptoSaid : Prop := moneyScaledUptoRow.holds Tryd.pinned (OpenSpec.upto moneyScaledSpec)

end Rows
end Go.Proofs.YtbgglghapjfdeaaDoor
