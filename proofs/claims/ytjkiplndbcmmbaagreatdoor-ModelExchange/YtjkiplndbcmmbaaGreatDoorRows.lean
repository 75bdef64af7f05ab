/-
  NARROWER THAN 'FOR EVERY INPUT', by the rows' own cells (each row's printed sentence says how): ModelSpends: laid · ModelLoans: laid · ModelClosed: laid · ModelKeys: laid · ModelRates: laid · ModelExchange: laid.
  DERIVED. THE GIVEN ROWS OF THIS SEAT. 6 by the template 'for every input the law returns true; each argument reads behind the call as it read before'; 0 by the template 'total and deterministic' (their statements: YtjkiplndbcmmbaaGreatDoorTotals.lean).
  GIVEN WITH THE SEED: the statements are not yours to turn. If you find one false, say at which input.
  Laid BY PROGRAM, IN A SANDBOX (cutbox-rows.mjs): the forced cells as the released guide's own fill.sh prints them over the translation 9ea8077c37591778… (all of the seat's roots in one cut). By AI agents, Wed Nov 11 2026. No macro, syntax, notation, axiom, sorry.
-/
import Derived.Test.YtjkiplndbcmmbaaGreatDoorChecked
import GoSem.Claim
import GoSem.ClaimJoined
import GoSem.ClaimMapViews
import Derived.JoinedTies
import Derived.KernelRfl
namespace Go.Proofs.YtjkiplndbcmmbaaGreatDoor
/- THE CELL 'sum', in the pinned program and in every row, IS THE sha256 OF THE DUMP (.gsa) THAT YtjkiplndbcmmbaaGreatDoorProg.lean LOADS. Nothing in Lean hashes anything: it is a label: what it is worth is what the hold of that sum in a sandbox is worth. -/
noncomputable def Tryz.pinned : Pinned := { name := "ytjkiplndbcmmbaagreatdoor", sum := "9ea8077c37591778197648610c206b2324149f2dbfb057e78eba862fd104c006", checked := Tryz.checked }
namespace Rows
def none {H : Type} : Left H := { results := [], args := [] }

/- WHAT THE LISTED PACKAGE-LEVEL VARIABLES READ AS WHEN THE CALL BEGINS. Each datum BY PROGRAM (the guide's laid-datum.mjs) off the statement by which the dump's own 'gosem.cut.vars' lays the variable. In a bare row this is a premise. The card (YtjkiplndbcmmbaaGreatDoorCards.lean) ties it to the program's text. -/
def laid_passbook_event_counts {H : Type} : DataW H := .agg [.lit (.int .i64 0), .lit (.int .i64 8), .lit (.int .i64 2), .lit (.int .i64 1), .lit (.int .i64 2), .lit (.int .i64 2), .lit (.int .i64 3), .lit (.int .i64 3), .lit (.int .i64 2), .lit (.int .i64 4), .lit (.int .i64 3), .lit (.int .i64 3), .lit (.int .i64 4), .lit (.int .i64 1), .lit (.int .i64 3), .lit (.int .i64 1)]
def laid_passbook_money_currencies {H : Type} : DataW H := .agg [.agg [.lit (.string [69, 85, 82]), .lit (.int .i64 2)], .agg [.lit (.string [85, 83, 68]), .lit (.int .i64 2)], .agg [.lit (.string [74, 80, 89]), .lit (.int .i64 0)], .agg [.lit (.string [75, 87, 68]), .lit (.int .i64 3)]]
def laid_passbook_chart_maxAmount {H : Type} : DataW H := .agg [.lit (.int .i64 5), .lit (.int .u64 7766279631452241920), .lit (.int .i64 0)]
def laid_passbook_chart_maxBalance {H : Type} : DataW H := .agg [.lit (.int .i64 54210), .lit (.int .u64 2003764205206896640), .lit (.int .i64 0)]

/-- 'passbooklaw17.ModelSpends': WHATEVER THE INPUT: true; the input reads as it did. -/
def modelSpendsSpec : ChangeSpec := { name := "modelSpends", fn := fun _ => fun
  | [d1, d2, d3] => { results := [.lit (.bool true)], args := [d1, d2, d3] }
  | _ => none }
def modelSpendsRow : OpenClaim := { program := "ytjkiplndbcmmbaagreatdoor", sum := "9ea8077c37591778197648610c206b2324149f2dbfb057e78eba862fd104c006", func := "passbook/passbooklaw17.ModelSpends", spec := "modelSpends", inPlace := ["math/bits.Sub64", "math/bits.Add64", "slices.overlaps[*passbook/model.account]"], unfollowed := true, recurses := true, named := ["passbook/event.counts", "passbook/money.currencies", "math/bits.divideError", "math/bits.overflowError", "passbook/chart.maxBalance", "passbook/chart.maxAmount"], plainKeys := false, apart := false, laid := [("passbook/event.counts", laid_passbook_event_counts), ("passbook/money.currencies", laid_passbook_money_currencies), ("passbook/chart.maxAmount", laid_passbook_chart_maxAmount), ("passbook/chart.maxBalance", laid_passbook_chart_maxBalance)] }
def ModelSpendsSaid : Prop := modelSpendsRow.holds Tryz.pinned (OpenSpec.ofChange modelSpendsSpec)

/-- ITS FALSE NEIGHBOUR: 'it returns false'. Refute it at one input. -/
def modelSpendsWrong : ChangeSpec := { name := "modelSpends", fn := fun _ => fun
  | [d1, d2, d3] => { results := [.lit (.bool false)], args := [d1, d2, d3] }
  | _ => none }
def ModelSpendsWrongFalsely : Prop := modelSpendsRow.holds Tryz.pinned (OpenSpec.ofChange modelSpendsWrong)

/-- 'passbooklaw17.ModelLoans': WHATEVER THE INPUT: true; the input reads as it did. -/
def modelLoansSpec : ChangeSpec := { name := "modelLoans", fn := fun _ => fun
  | [d1, d2, d3, d4] => { results := [.lit (.bool true)], args := [d1, d2, d3, d4] }
  | _ => none }
def modelLoansRow : OpenClaim := { program := "ytjkiplndbcmmbaagreatdoor", sum := "9ea8077c37591778197648610c206b2324149f2dbfb057e78eba862fd104c006", func := "passbook/passbooklaw17.ModelLoans", spec := "modelLoans", inPlace := ["math/bits.Sub64", "math/bits.Add64", "slices.overlaps[*passbook/model.account]"], unfollowed := true, recurses := true, named := ["passbook/event.counts", "passbook/money.currencies", "math/bits.divideError", "math/bits.overflowError", "passbook/chart.maxBalance", "passbook/chart.maxAmount"], plainKeys := false, apart := false, laid := [("passbook/event.counts", laid_passbook_event_counts), ("passbook/money.currencies", laid_passbook_money_currencies), ("passbook/chart.maxAmount", laid_passbook_chart_maxAmount), ("passbook/chart.maxBalance", laid_passbook_chart_maxBalance)] }
def ModelLoansSaid : Prop := modelLoansRow.holds Tryz.pinned (OpenSpec.ofChange modelLoansSpec)

/-- ITS FALSE NEIGHBOUR: 'it returns false'. Refute it at one input. -/
def modelLoansWrong : ChangeSpec := { name := "modelLoans", fn := fun _ => fun
  | [d1, d2, d3, d4] => { results := [.lit (.bool false)], args := [d1, d2, d3, d4] }
  | _ => none }
def ModelLoansWrongFalsely : Prop := modelLoansRow.holds Tryz.pinned (OpenSpec.ofChange modelLoansWrong)

/-- 'passbooklaw17.ModelClosed': WHATEVER THE INPUT: true; the input reads as it did. -/
def modelClosedSpec : ChangeSpec := { name := "modelClosed", fn := fun _ => fun
  | [d] => { results := [.lit (.bool true)], args := [d] }
  | _ => none }
def modelClosedRow : OpenClaim := { program := "ytjkiplndbcmmbaagreatdoor", sum := "9ea8077c37591778197648610c206b2324149f2dbfb057e78eba862fd104c006", func := "passbook/passbooklaw17.ModelClosed", spec := "modelClosed", inPlace := ["math/bits.Sub64", "math/bits.Add64", "slices.overlaps[*passbook/model.account]"], unfollowed := true, recurses := true, named := ["passbook/event.counts", "passbook/money.currencies", "math/bits.divideError", "math/bits.overflowError", "passbook/chart.maxBalance", "passbook/chart.maxAmount"], plainKeys := false, apart := false, laid := [("passbook/event.counts", laid_passbook_event_counts), ("passbook/money.currencies", laid_passbook_money_currencies), ("passbook/chart.maxAmount", laid_passbook_chart_maxAmount), ("passbook/chart.maxBalance", laid_passbook_chart_maxBalance)] }
def ModelClosedSaid : Prop := modelClosedRow.holds Tryz.pinned (OpenSpec.ofChange modelClosedSpec)

/-- ITS FALSE NEIGHBOUR: 'it returns false'. Refute it at one input. -/
def modelClosedWrong : ChangeSpec := { name := "modelClosed", fn := fun _ => fun
  | [d] => { results := [.lit (.bool false)], args := [d] }
  | _ => none }
def ModelClosedWrongFalsely : Prop := modelClosedRow.holds Tryz.pinned (OpenSpec.ofChange modelClosedWrong)

/-- 'passbooklaw17.ModelKeys': WHATEVER THE INPUT: true; the input reads as it did. -/
def modelKeysSpec : ChangeSpec := { name := "modelKeys", fn := fun _ => fun
  | [d1, d2, d3] => { results := [.lit (.bool true)], args := [d1, d2, d3] }
  | _ => none }
def modelKeysRow : OpenClaim := { program := "ytjkiplndbcmmbaagreatdoor", sum := "9ea8077c37591778197648610c206b2324149f2dbfb057e78eba862fd104c006", func := "passbook/passbooklaw17.ModelKeys", spec := "modelKeys", inPlace := ["math/bits.Sub64", "math/bits.Add64", "slices.overlaps[*passbook/model.account]"], unfollowed := true, recurses := true, named := ["passbook/event.counts", "passbook/money.currencies", "math/bits.divideError", "math/bits.overflowError", "passbook/chart.maxBalance", "passbook/chart.maxAmount"], plainKeys := false, apart := false, laid := [("passbook/event.counts", laid_passbook_event_counts), ("passbook/money.currencies", laid_passbook_money_currencies), ("passbook/chart.maxAmount", laid_passbook_chart_maxAmount), ("passbook/chart.maxBalance", laid_passbook_chart_maxBalance)] }
def ModelKeysSaid : Prop := modelKeysRow.holds Tryz.pinned (OpenSpec.ofChange modelKeysSpec)

/-- ITS FALSE NEIGHBOUR: 'it returns false'. Refute it at one input. -/
def modelKeysWrong : ChangeSpec := { name := "modelKeys", fn := fun _ => fun
  | [d1, d2, d3] => { results := [.lit (.bool false)], args := [d1, d2, d3] }
  | _ => none }
def ModelKeysWrongFalsely : Prop := modelKeysRow.holds Tryz.pinned (OpenSpec.ofChange modelKeysWrong)

/-- 'passbooklaw17.ModelRates': WHATEVER THE INPUT: true; the input reads as it did. -/
def modelRatesSpec : ChangeSpec := { name := "modelRates", fn := fun _ => fun
  | [d1, d2] => { results := [.lit (.bool true)], args := [d1, d2] }
  | _ => none }
def modelRatesRow : OpenClaim := { program := "ytjkiplndbcmmbaagreatdoor", sum := "9ea8077c37591778197648610c206b2324149f2dbfb057e78eba862fd104c006", func := "passbook/passbooklaw17.ModelRates", spec := "modelRates", inPlace := ["math/bits.Sub64", "math/bits.Add64", "slices.overlaps[*passbook/model.account]"], unfollowed := true, recurses := true, named := ["passbook/event.counts", "passbook/money.currencies", "math/bits.divideError", "math/bits.overflowError", "passbook/chart.maxBalance", "passbook/chart.maxAmount"], plainKeys := false, apart := false, laid := [("passbook/event.counts", laid_passbook_event_counts), ("passbook/money.currencies", laid_passbook_money_currencies), ("passbook/chart.maxAmount", laid_passbook_chart_maxAmount), ("passbook/chart.maxBalance", laid_passbook_chart_maxBalance)] }
def ModelRatesSaid : Prop := modelRatesRow.holds Tryz.pinned (OpenSpec.ofChange modelRatesSpec)

/-- ITS FALSE NEIGHBOUR: 'it returns false'. Refute it at one input. -/
def modelRatesWrong : ChangeSpec := { name := "modelRates", fn := fun _ => fun
  | [d1, d2] => { results := [.lit (.bool false)], args := [d1, d2] }
  | _ => none }
def ModelRatesWrongFalsely : Prop := modelRatesRow.holds Tryz.pinned (OpenSpec.ofChange modelRatesWrong)

/-- 'passbooklaw17.ModelExchange': WHATEVER THE INPUT: true; the input reads as it did. -/
def modelExchangeSpec : ChangeSpec := { name := "modelExchange", fn := fun _ => fun
  | [d1, d2, d3, d4] => { results := [.lit (.bool true)], args := [d1, d2, d3, d4] }
  | _ => none }
def modelExchangeRow : OpenClaim := { program := "ytjkiplndbcmmbaagreatdoor", sum := "9ea8077c37591778197648610c206b2324149f2dbfb057e78eba862fd104c006", func := "passbook/passbooklaw17.ModelExchange", spec := "modelExchange", inPlace := ["math/bits.Sub64", "math/bits.Add64", "slices.overlaps[*passbook/model.account]"], unfollowed := true, recurses := true, named := ["passbook/event.counts", "passbook/money.currencies", "math/bits.divideError", "math/bits.overflowError", "passbook/chart.maxBalance", "passbook/chart.maxAmount"], plainKeys := false, apart := false, laid := [("passbook/event.counts", laid_passbook_event_counts), ("passbook/money.currencies", laid_passbook_money_currencies), ("passbook/chart.maxAmount", laid_passbook_chart_maxAmount), ("passbook/chart.maxBalance", laid_passbook_chart_maxBalance)] }
def ModelExchangeSaid : Prop := modelExchangeRow.holds Tryz.pinned (OpenSpec.ofChange modelExchangeSpec)

/-- ITS FALSE NEIGHBOUR: 'it returns false'. Refute it at one input. -/
def modelExchangeWrong : ChangeSpec := { name := "modelExchange", fn := fun _ => fun
  | [d1, d2, d3, d4] => { results := [.lit (.bool false)], args := [d1, d2, d3, d4] }
  | _ => none }
def ModelExchangeWrongFalsely : Prop := modelExchangeRow.holds Tryz.pinned (OpenSpec.ofChange modelExchangeWrong)

/- THE SECOND FORM. 'bulk': how many values and letters a reading holds, each counted each time it is reached (what is shared counts as often as it is met; a slice's spare places count too). A statement '..UptoSaid' is the law's where the arguments, and the package variables that the reading takes, are together of bulk at most 1048576: NARROWER than '..Said'. Prove '..Said' where nothing that the law and all that it calls make is longer than what came in: it says more and counts as full. Else prove '..UptoSaid'. A law counts once. -/
mutual
def uptoBulk {H : Type} : DataW H → Nat
  | .lit (.string bytes) => bytes.length + 1
  | .lit _ => 1
  | .nil => 1
  | .ptr d => uptoBulk d + 1
  | .slice elems spare => uptoBulkAll elems + uptoBulkAll spare + 1
  | .agg parts => uptoBulkAll parts + 1
  | .iface _ d => uptoBulk d + 1
  | .map entries => uptoBulkEntries entries + 1
  | .held _ => 1
def uptoBulkAll {H : Type} : List (DataW H) → Nat
  | [] => 0
  | d :: r => uptoBulk d + uptoBulkAll r
def uptoBulkEntries {H : Type} : List (Lit × DataW H) → Nat
  | [] => 0
  | x :: r => uptoBulkEntry x + uptoBulkEntries r
def uptoBulkEntry {H : Type} : Lit × DataW H → Nat
  | (.string bytes, d) => bytes.length + uptoBulk d + 1
  | (_, d) => uptoBulk d + 1
 end
def uptoSmall : (H : Type) → List (DataW H) → Bool := fun _ ds => decide (uptoBulkAll ds ≤ 1048576)
def OpenSpec.upto (s : _root_.Go.ChangeSpec) : _root_.Go.OpenSpec := { _root_.Go.OpenSpec.ofChange s with cond := some uptoSmall }

/-- 'passbooklaw17.ModelSpends', WHERE WHAT IT READS IS OF BULK AT MOST 1048576: true; the input reads as it did. -/
def modelSpendsUptoRow : OpenClaim := { program := "ytjkiplndbcmmbaagreatdoor", sum := "9ea8077c37591778197648610c206b2324149f2dbfb057e78eba862fd104c006", func := "passbook/passbooklaw17.ModelSpends", spec := "modelSpends", inPlace := ["math/bits.Sub64", "math/bits.Add64", "slices.overlaps[*passbook/model.account]"], unfollowed := true, recurses := true, named := ["passbook/event.counts", "passbook/money.currencies", "math/bits.divideError", "math/bits.overflowError", "passbook/chart.maxBalance", "passbook/chart.maxAmount"], plainKeys := false, apart := false, laid := [("passbook/event.counts", laid_passbook_event_counts), ("passbook/money.currencies", laid_passbook_money_currencies), ("passbook/chart.maxAmount", laid_passbook_chart_maxAmount), ("passbook/chart.maxBalance", laid_passbook_chart_maxBalance)], narrowed := true }
def ModelSpendsUptoSaid : Prop := modelSpendsUptoRow.holds Tryz.pinned (OpenSpec.upto modelSpendsSpec)

/-- 'passbooklaw17.ModelLoans', WHERE WHAT IT READS IS OF BULK AT MOST 1048576: true; the input reads as it did. -/
def modelLoansUptoRow : OpenClaim := { program := "ytjkiplndbcmmbaagreatdoor", sum := "9ea8077c37591778197648610c206b2324149f2dbfb057e78eba862fd104c006", func := "passbook/passbooklaw17.ModelLoans", spec := "modelLoans", inPlace := ["math/bits.Sub64", "math/bits.Add64", "slices.overlaps[*passbook/model.account]"], unfollowed := true, recurses := true, named := ["passbook/event.counts", "passbook/money.currencies", "math/bits.divideError", "math/bits.overflowError", "passbook/chart.maxBalance", "passbook/chart.maxAmount"], plainKeys := false, apart := false, laid := [("passbook/event.counts", laid_passbook_event_counts), ("passbook/money.currencies", laid_passbook_money_currencies), ("passbook/chart.maxAmount", laid_passbook_chart_maxAmount), ("passbook/chart.maxBalance", laid_passbook_chart_maxBalance)], narrowed := true }
def ModelLoansUptoSaid : Prop := modelLoansUptoRow.holds Tryz.pinned (OpenSpec.upto modelLoansSpec)

/-- 'passbooklaw17.ModelClosed', WHERE WHAT IT READS IS OF BULK AT MOST 1048576: true; the input reads as it did. -/
def modelClosedUptoRow : OpenClaim := { program := "ytjkiplndbcmmbaagreatdoor", sum := "9ea8077c37591778197648610c206b2324149f2dbfb057e78eba862fd104c006", func := "passbook/passbooklaw17.ModelClosed", spec := "modelClosed", inPlace := ["math/bits.Sub64", "math/bits.Add64", "slices.overlaps[*passbook/model.account]"], unfollowed := true, recurses := true, named := ["passbook/event.counts", "passbook/money.currencies", "math/bits.divideError", "math/bits.overflowError", "passbook/chart.maxBalance", "passbook/chart.maxAmount"], plainKeys := false, apart := false, laid := [("passbook/event.counts", laid_passbook_event_counts), ("passbook/money.currencies", laid_passbook_money_currencies), ("passbook/chart.maxAmount", laid_passbook_chart_maxAmount), ("passbook/chart.maxBalance", laid_passbook_chart_maxBalance)], narrowed := true }
def ModelClosedUptoSaid : Prop := modelClosedUptoRow.holds Tryz.pinned (OpenSpec.upto modelClosedSpec)

/-- 'passbooklaw17.ModelKeys', WHERE WHAT IT READS IS OF BULK AT MOST 1048576: true; the input reads as it did. -/
def modelKeysUptoRow : OpenClaim := { program := "ytjkiplndbcmmbaagreatdoor", sum := "9ea8077c37591778197648610c206b2324149f2dbfb057e78eba862fd104c006", func := "passbook/passbooklaw17.ModelKeys", spec := "modelKeys", inPlace := ["math/bits.Sub64", "math/bits.Add64", "slices.overlaps[*passbook/model.account]"], unfollowed := true, recurses := true, named := ["passbook/event.counts", "passbook/money.currencies", "math/bits.divideError", "math/bits.overflowError", "passbook/chart.maxBalance", "passbook/chart.maxAmount"], plainKeys := false, apart := false, laid := [("passbook/event.counts", laid_passbook_event_counts), ("passbook/money.currencies", laid_passbook_money_currencies), ("passbook/chart.maxAmount", laid_passbook_chart_maxAmount), ("passbook/chart.maxBalance", laid_passbook_chart_maxBalance)], narrowed := true }
def ModelKeysUptoSaid : Prop := modelKeysUptoRow.holds Tryz.pinned (OpenSpec.upto modelKeysSpec)

/-- 'passbooklaw17.ModelRates', WHERE WHAT IT READS IS OF BULK AT MOST 1048576: true; the input reads as it did. -/
def modelRatesUptoRow : OpenClaim := { program := "ytjkiplndbcmmbaagreatdoor", sum := "9ea8077c37591778197648610c206b2324149f2dbfb057e78eba862fd104c006", func := "passbook/passbooklaw17.ModelRates", spec := "modelRates", inPlace := ["math/bits.Sub64", "math/bits.Add64", "slices.overlaps[*passbook/model.account]"], unfollowed := true, recurses := true, named := ["passbook/event.counts", "passbook/money.currencies", "math/bits.divideError", "math/bits.overflowError", "passbook/chart.maxBalance", "passbook/chart.maxAmount"], plainKeys := false, apart := false, laid := [("passbook/event.counts", laid_passbook_event_counts), ("passbook/money.currencies", laid_passbook_money_currencies), ("passbook/chart.maxAmount", laid_passbook_chart_maxAmount), ("passbook/chart.maxBalance", laid_passbook_chart_maxBalance)], narrowed := true }
def ModelRatesUptoSaid : Prop := modelRatesUptoRow.holds Tryz.pinned (OpenSpec.upto modelRatesSpec)

/-- 'passbooklaw17.ModelExchange', WHERE WHAT IT READS IS OF BULK AT MOST 1048576: true; the input reads as it did. -/
def modelExchangeUptoRow : OpenClaim := { program := "ytjkiplndbcmmbaagreatdoor", sum := "9ea8077c37591778197648610c206b2324149f2dbfb057e78eba862fd104c006", func := "passbook/passbooklaw17.ModelExchange", spec := "modelExchange", inPlace := ["math/bits.Sub64", "math/bits.Add64", "slices.overlaps[*passbook/model.account]"], unfollowed := true, recurses := true, named := ["passbook/event.counts", "passbook/money.currencies", "math/bits.divideError", "math/bits.overflowError", "passbook/chart.maxBalance", "passbook/chart.maxAmount"], plainKeys := false, apart := false, laid := [("passbook/event.counts", laid_passbook_event_counts), ("passbook/money.currencies", laid_passbook_money_currencies), ("passbook/chart.maxAmount", laid_passbook_chart_maxAmount), ("passbook/chart.maxBalance", laid_passbook_chart_maxBalance)], narrowed := true }
def ModelExchangeUptoSaid : Prop := modelExchangeUptoRow.holds Tryz.pinned (OpenSpec.upto modelExchangeSpec)

end Rows
end Go.Proofs.YtjkiplndbcmmbaaGreatDoor
