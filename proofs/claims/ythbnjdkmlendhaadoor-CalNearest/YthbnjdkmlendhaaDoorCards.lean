/-
  DERIVED. GIVEN WITH THE SEED: THE CARDS: each row of YthbnjdkmlendhaaDoorRows.lean that lists a variable, with what it lists TIED to the program's text (the seventh form; the later family's looks); each row that meets fmt, with fmt's text TOLD by the authors' own Lean function (tested against real Go, not proved from fmt's source: count such statements apart). THE CARD IS WHAT COUNTS. Prove the row's statement (the work); the ties are given (YthbnjdkmlendhaaDoorTie.lean); close each card by the builder's one call (the guide's Derived/Test/ToyasCard.lean, 'card_holds'). Laid BY PROGRAM, IN A SANDBOX (cutbox-door.mjs). By AI agents, Wed Nov 11 2026. No macro, syntax, notation, axiom, sorry.
-/
import Derived.Test.YthbnjdkmlendhaaDoorRows
import GoSem.ClaimSeven
namespace Go.Proofs.YthbnjdkmlendhaaDoor
namespace Rows

/-- THE TIED CARD OF 'passbooklaw03.CalNearest'. -/
def calNearestCard : Claim7 := { stood := { row := calNearestRow, standIns := [], harness := (true, "66008262bad9ec1f2cd9d6b20de78e856340d82c92a7a8d9f465f84872de6d88"), looks := false }, kinds := [], alts := [], laidByText := true, laidKinds := [.data, .data, .data], laidTests := true, laidLooks := .later }
def CalNearestCardSaid : Prop := Claim7.holds Tryd.pinned (.plain (OpenSpec.ofChange calNearestSpec)) calNearestCard

/-- THE SECOND FORM's CARD OF 'passbooklaw03.CalNearest'. -/
def calNearestUptoCard : Claim7 := { stood := { row := calNearestUptoRow, standIns := [], harness := (true, "66008262bad9ec1f2cd9d6b20de78e856340d82c92a7a8d9f465f84872de6d88"), looks := false }, kinds := [], alts := [], laidByText := true, laidKinds := [.data, .data, .data], laidTests := true, laidLooks := .later }
def CalNearestUptoCardSaid : Prop := Claim7.holds Tryd.pinned (.plain (OpenSpec.upto calNearestSpec)) calNearestUptoCard
end Rows
end Go.Proofs.YthbnjdkmlendhaaDoor
