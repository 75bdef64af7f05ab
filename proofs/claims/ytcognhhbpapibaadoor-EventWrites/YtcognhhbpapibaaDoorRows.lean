/-
  NARROWER THAN 'FOR EVERY INPUT', by the rows' own cells (each row's printed sentence says how): EventWrites: laid · EventReads: laid · EventOne: laid · EventNumbers: laid.
  DERIVED. THE GIVEN ROWS OF THIS SEAT. 4 by the template 'for every input the law returns true; each argument reads behind the call as it read before'; 0 by the template 'total and deterministic' (their statements: YtcognhhbpapibaaDoorTotals.lean).
  GIVEN WITH THE SEED: the statements are not yours to turn. If you find one false, say at which input.
  Laid BY PROGRAM, IN A SANDBOX (cutbox-rows.mjs): the forced cells as the released guide's own fill.sh prints them over the translation 09373cdc9e4b1ea7… (all of the seat's roots in one cut). By AI agents, Wed Nov 11 2026. No macro, syntax, notation, axiom, sorry.
-/
import Derived.Test.YtcognhhbpapibaaDoorChecked
import GoSem.Claim
import GoSem.ClaimJoined
import GoSem.ClaimMapViews
import Derived.JoinedTies
import Derived.KernelRfl
namespace Go.Proofs.YtcognhhbpapibaaDoor
/- THE CELL 'sum', in the pinned program and in every row, IS THE sha256 OF THE DUMP (.gsa) THAT YtcognhhbpapibaaDoorProg.lean LOADS. Nothing in Lean hashes anything: it is a label: what it is worth is what the hold of that sum in a sandbox is worth. -/
noncomputable def Tryd.pinned : Pinned := { name := "ytcognhhbpapibaadoor", sum := "09373cdc9e4b1ea723f77dadc025def1ec8a57d3ebcbe7eaf9bcca1c5b6b8312", checked := Tryd.checked }
namespace Rows
def none {H : Type} : Left H := { results := [], args := [] }

/- WHAT THE LISTED PACKAGE-LEVEL VARIABLES READ AS WHEN THE CALL BEGINS. Each datum BY PROGRAM (the guide's laid-datum.mjs) off the statement by which the dump's own 'gosem.cut.vars' lays the variable. In a bare row this is a premise. The card (YtcognhhbpapibaaDoorCards.lean) ties it to the program's text. -/
def laid_passbook_event_counts {H : Type} : DataW H := .agg [.lit (.int .i64 0), .lit (.int .i64 8), .lit (.int .i64 2), .lit (.int .i64 1), .lit (.int .i64 2), .lit (.int .i64 2), .lit (.int .i64 3), .lit (.int .i64 3), .lit (.int .i64 2), .lit (.int .i64 4), .lit (.int .i64 3), .lit (.int .i64 3), .lit (.int .i64 4), .lit (.int .i64 1), .lit (.int .i64 3), .lit (.int .i64 1)]

/-- 'passbooklaw08.EventWrites': WHATEVER THE INPUT: true; the input reads as it did. -/
def eventWritesSpec : ChangeSpec := { name := "eventWrites", fn := fun _ => fun
  | [d] => { results := [.lit (.bool true)], args := [d] }
  | _ => none }
def eventWritesRow : OpenClaim := { program := "ytcognhhbpapibaadoor", sum := "09373cdc9e4b1ea723f77dadc025def1ec8a57d3ebcbe7eaf9bcca1c5b6b8312", func := "passbook/passbooklaw08.EventWrites", spec := "eventWrites", named := ["passbook/event.counts"], apart := false, laid := [("passbook/event.counts", laid_passbook_event_counts)] }
def EventWritesSaid : Prop := eventWritesRow.holds Tryd.pinned (OpenSpec.ofChange eventWritesSpec)

/-- ITS FALSE NEIGHBOUR: 'it returns false'. Refute it at one input. -/
def eventWritesWrong : ChangeSpec := { name := "eventWrites", fn := fun _ => fun
  | [d] => { results := [.lit (.bool false)], args := [d] }
  | _ => none }
def EventWritesWrongFalsely : Prop := eventWritesRow.holds Tryd.pinned (OpenSpec.ofChange eventWritesWrong)

/-- 'passbooklaw08.EventReads': WHATEVER THE INPUT: true; the input reads as it did. -/
def eventReadsSpec : ChangeSpec := { name := "eventReads", fn := fun _ => fun
  | [d] => { results := [.lit (.bool true)], args := [d] }
  | _ => none }
def eventReadsRow : OpenClaim := { program := "ytcognhhbpapibaadoor", sum := "09373cdc9e4b1ea723f77dadc025def1ec8a57d3ebcbe7eaf9bcca1c5b6b8312", func := "passbook/passbooklaw08.EventReads", spec := "eventReads", named := ["passbook/event.counts"], apart := false, laid := [("passbook/event.counts", laid_passbook_event_counts)] }
def EventReadsSaid : Prop := eventReadsRow.holds Tryd.pinned (OpenSpec.ofChange eventReadsSpec)

/-- ITS FALSE NEIGHBOUR: 'it returns false'. Refute it at one input. -/
def eventReadsWrong : ChangeSpec := { name := "eventReads", fn := fun _ => fun
  | [d] => { results := [.lit (.bool false)], args := [d] }
  | _ => none }
def EventReadsWrongFalsely : Prop := eventReadsRow.holds Tryd.pinned (OpenSpec.ofChange eventReadsWrong)

/-- 'passbooklaw08.EventOne': WHATEVER THE INPUT: true; the input reads as it did. -/
def eventOneSpec : ChangeSpec := { name := "eventOne", fn := fun _ => fun
  | [d1, d2, d3, d4] => { results := [.lit (.bool true)], args := [d1, d2, d3, d4] }
  | _ => none }
def eventOneRow : OpenClaim := { program := "ytcognhhbpapibaadoor", sum := "09373cdc9e4b1ea723f77dadc025def1ec8a57d3ebcbe7eaf9bcca1c5b6b8312", func := "passbook/passbooklaw08.EventOne", spec := "eventOne", named := ["passbook/event.counts"], apart := false, laid := [("passbook/event.counts", laid_passbook_event_counts)] }
def EventOneSaid : Prop := eventOneRow.holds Tryd.pinned (OpenSpec.ofChange eventOneSpec)

/-- ITS FALSE NEIGHBOUR: 'it returns false'. Refute it at one input. -/
def eventOneWrong : ChangeSpec := { name := "eventOne", fn := fun _ => fun
  | [d1, d2, d3, d4] => { results := [.lit (.bool false)], args := [d1, d2, d3, d4] }
  | _ => none }
def EventOneWrongFalsely : Prop := eventOneRow.holds Tryd.pinned (OpenSpec.ofChange eventOneWrong)

/-- 'passbooklaw08.EventNumbers': WHATEVER THE INPUT: true; the input reads as it did. -/
def eventNumbersSpec : ChangeSpec := { name := "eventNumbers", fn := fun _ => fun
  | [d1, d2, d3] => { results := [.lit (.bool true)], args := [d1, d2, d3] }
  | _ => none }
def eventNumbersRow : OpenClaim := { program := "ytcognhhbpapibaadoor", sum := "09373cdc9e4b1ea723f77dadc025def1ec8a57d3ebcbe7eaf9bcca1c5b6b8312", func := "passbook/passbooklaw08.EventNumbers", spec := "eventNumbers", named := ["passbook/event.counts"], apart := false, laid := [("passbook/event.counts", laid_passbook_event_counts)] }
def EventNumbersSaid : Prop := eventNumbersRow.holds Tryd.pinned (OpenSpec.ofChange eventNumbersSpec)

/-- ITS FALSE NEIGHBOUR: 'it returns false'. Refute it at one input. -/
def eventNumbersWrong : ChangeSpec := { name := "eventNumbers", fn := fun _ => fun
  | [d1, d2, d3] => { results := [.lit (.bool false)], args := [d1, d2, d3] }
  | _ => none }
def EventNumbersWrongFalsely : Prop := eventNumbersRow.holds Tryd.pinned (OpenSpec.ofChange eventNumbersWrong)

/- THE SECOND FORM. 'bulk': how many values and letters a reading holds, each counted each time it is reached (what is shared counts as often as it is met; a slice's spare places count too). A statement '..UptoSaid' is the law's where the arguments, and the package variables that the reading takes, are together of bulk at most 1048576: NARROWER than '..Said'. Prove '..Said' where nothing that the law and all that it calls make is longer than what came in: it says more and counts as full. Else prove '..UptoSaid'. A law counts once. -/
mutual
def uptoBulk {H : Type} : DataW H → Nat
  | .lit (.string bytes) => bytes.length + 1
  | .lit _ => 1
  | .nil => 1
  | .ptr d => uptoBulk d + 1
  | .slice elems spare => uptoBulkAll elems + uptoBulkAll spare + 1
  | .agg parts => uptoBulkAll parts + 1
  | .iface _ d => uptoBulk d + 1
  | .map entries => uptoBulkEntries entries + 1
  | .held _ => 1
def uptoBulkAll {H : Type} : List (DataW H) → Nat
  | [] => 0
  | d :: r => uptoBulk d + uptoBulkAll r
def uptoBulkEntries {H : Type} : List (Lit × DataW H) → Nat
  | [] => 0
  | x :: r => uptoBulkEntry x + uptoBulkEntries r
def uptoBulkEntry {H : Type} : Lit × DataW H → Nat
  | (.string bytes, d) => bytes.length + uptoBulk d + 1
  | (_, d) => uptoBulk d + 1
 end
def uptoSmall : (H : Type) → List (DataW H) → Bool := fun _ ds => decide (uptoBulkAll ds ≤ 1048576)
def OpenSpec.upto (s : _root_.Go.ChangeSpec) : _root_.Go.OpenSpec := { _root_.Go.OpenSpec.ofChange s with cond := some uptoSmall }

/-- 'passbooklaw08.EventWrites', WHERE WHAT IT READS IS OF BULK AT MOST 1048576: true; the input reads as it did. -/
def eventWritesUptoRow : OpenClaim := { program := "ytcognhhbpapibaadoor", sum := "09373cdc9e4b1ea723f77dadc025def1ec8a57d3ebcbe7eaf9bcca1c5b6b8312", func := "passbook/passbooklaw08.EventWrites", spec := "eventWrites", named := ["passbook/event.counts"], apart := false, laid := [("passbook/event.counts", laid_passbook_event_counts)], narrowed := true }
def EventWritesUptoSaid : Prop := eventWritesUptoRow.holds Tryd.pinned (OpenSpec.upto eventWritesSpec)

/-- 'passbooklaw08.EventReads', WHERE WHAT IT READS IS OF BULK AT MOST 1048576: true; the input reads as it did. -/
def eventReadsUptoRow : OpenClaim := { program := "ytcognhhbpapibaadoor", sum := "09373cdc9e4b1ea723f77dadc025def1ec8a57d3ebcbe7eaf9bcca1c5b6b8312", func := "passbook/passbooklaw08.EventReads", spec := "eventReads", named := ["passbook/event.counts"], apart := false, laid := [("passbook/event.counts", laid_passbook_event_counts)], narrowed := true }
def EventReadsUptoSaid : Prop := eventReadsUptoRow.holds Tryd.pinned (OpenSpec.upto eventReadsSpec)

/-- 'passbooklaw08.EventOne', WHERE WHAT IT READS IS OF BULK AT MOST 1048576: true; the input reads as it did. -/
def eventOneUptoRow : OpenClaim := { program := "ytcognhhbpapibaadoor", sum := "09373cdc9e4b1ea723f77dadc025def1ec8a57d3ebcbe7eaf9bcca1c5b6b8312", func := "passbook/passbooklaw08.EventOne", spec := "eventOne", named := ["passbook/event.counts"], apart := false, laid := [("passbook/event.counts", laid_passbook_event_counts)], narrowed := true }
def EventOneUptoSaid : Prop := eventOneUptoRow.holds Tryd.pinned (OpenSpec.upto eventOneSpec)

/-- 'passbooklaw08.EventNumbers', WHERE WHAT IT READS IS OF BULK AT MOST 1048576: true; the input reads as it did. -/
def eventNumbersUptoRow : OpenClaim := { program := "ytcognhhbpapibaadoor", sum := "09373cdc9e4b1ea723f77dadc025def1ec8a57d3ebcbe7eaf9bcca1c5b6b8312", func := "passbook/passbooklaw08.EventNumbers", spec := "eventNumbers", named := ["passbook/event.counts"], apart := false, laid := [("passbook/event.counts", laid_passbook_event_counts)], narrowed := true }
def EventNumbersUptoSaid : Prop := eventNumbersUptoRow.holds Tryd.pinned (OpenSpec.upto eventNumbersSpec)

end Rows
end Go.Proofs.YtcognhhbpapibaaDoor
