/-
  DERIVED. GIVEN WITH THE SEED: THE CARDS: each row of YtfmmkbhaaifggaaDoorRows.lean that lists a variable, with what it lists TIED to the program's text (the seventh form; the later family's looks); each row that meets fmt, with fmt's text TOLD by the authors' own Lean function (tested against real Go, not proved from fmt's source: count such statements apart). THE CARD IS WHAT COUNTS. Prove the row's statement (the work); the ties are given (YtfmmkbhaaifggaaDoorTie.lean); close each card by the builder's one call (the guide's Derived/Test/ToyasCard.lean, 'card_holds'). Laid BY PROGRAM, IN A SANDBOX (cutbox-door.mjs). By AI agents, Wed Nov 11 2026. No macro, syntax, notation, axiom, sorry.
-/
import Derived.Test.YtfmmkbhaaifggaaDoorRows
import GoSem.ClaimSeven
namespace Go.Proofs.YtfmmkbhaaifggaaDoor
namespace Rows

/-- THE TIED CARD OF 'passbooklaw03.CalTexts'. -/
def calTextsCard : Claim7 := { stood := { row := calTextsRow, standIns := [], harness := (true, "365afe52e60c76befc7c20f998f29fb45fedbc89a8e76efca4e7bc3a34ecab12"), looks := false }, kinds := [], alts := [], laidByText := true, laidKinds := [.data, .data, .data], laidTests := true, laidLooks := .later }
def CalTextsCardSaid : Prop := Claim7.holds Tryd.pinned (.plain (OpenSpec.ofChange calTextsSpec)) calTextsCard

/-- THE SECOND FORM's CARD OF 'passbooklaw03.CalTexts'. -/
def calTextsUptoCard : Claim7 := { stood := { row := calTextsUptoRow, standIns := [], harness := (true, "365afe52e60c76befc7c20f998f29fb45fedbc89a8e76efca4e7bc3a34ecab12"), looks := false }, kinds := [], alts := [], laidByText := true, laidKinds := [.data, .data, .data], laidTests := true, laidLooks := .later }
def CalTextsUptoCardSaid : Prop := Claim7.holds Tryd.pinned (.plain (OpenSpec.upto calTextsSpec)) calTextsUptoCard
end Rows
end Go.Proofs.YtfmmkbhaaifggaaDoor
