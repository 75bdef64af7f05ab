/-
  DERIVED. GIVEN WITH THE SEED: THE CARDS: each row of YtmnnkipfciahmacDoorRows.lean that lists a variable, with what it lists TIED to the program's text (the seventh form; the later family's looks); each row that meets fmt, with fmt's text TOLD by the authors' own Lean function (tested against real Go, not proved from fmt's source: count such statements apart). THE CARD IS WHAT COUNTS. Prove the row's statement (the work); the ties are given (YtmnnkipfciahmacDoorTie.lean); close each card by the builder's one call (the guide's Derived/Test/ToyasCard.lean, 'card_holds'). Laid BY PROGRAM, IN A SANDBOX (cutbox-door.mjs). By AI agents, Wed Nov 11 2026. No macro, syntax, notation, axiom, sorry.
-/
import Derived.Test.YtmnnkipfciahmacDoorRows
import GoSem.ClaimSeven
namespace Go.Proofs.YtmnnkipfciahmacDoor
namespace Rows

/-- THE TIED CARD OF 'passbooklaw03.CalNumbers'. -/
def calNumbersCard : Claim7 := { stood := { row := calNumbersRow, standIns := [], harness := (true, "9e1a2076809e5509868d3d26186003f30364c66a4c18f212a90bd485762ca895"), looks := false }, kinds := [], alts := [], laidByText := true, laidKinds := [.data, .data, .data], laidTests := true, laidLooks := .later }
def CalNumbersCardSaid : Prop := Claim7.holds Tryd.pinned (.plain (OpenSpec.ofChange calNumbersSpec)) calNumbersCard

/-- THE SECOND FORM's CARD OF 'passbooklaw03.CalNumbers'. -/
def calNumbersUptoCard : Claim7 := { stood := { row := calNumbersUptoRow, standIns := [], harness := (true, "9e1a2076809e5509868d3d26186003f30364c66a4c18f212a90bd485762ca895"), looks := false }, kinds := [], alts := [], laidByText := true, laidKinds := [.data, .data, .data], laidTests := true, laidLooks := .later }
def CalNumbersUptoCardSaid : Prop := Claim7.holds Tryd.pinned (.plain (OpenSpec.upto calNumbersSpec)) calNumbersUptoCard
end Rows
end Go.Proofs.YtmnnkipfciahmacDoor
