/-
  DERIVED. GIVEN WITH THE SEED: THE CARDS: each row of YtgabklihgjjjeaaGreatDoorRows.lean that lists a variable, with what it lists TIED to the program's text (the seventh form; the later family's looks); each row that meets fmt, with fmt's text TOLD by the authors' own Lean function (tested against real Go, not proved from fmt's source: count such statements apart). THE CARD IS WHAT COUNTS. Prove the row's statement (the work); the ties are given (YtgabklihgjjjeaaGreatDoorTie.lean); close each card by the builder's one call (the guide's Derived/Test/ToyasCard.lean, 'card_holds'). Laid BY PROGRAM, IN A SANDBOX (cutbox-door.mjs). By AI agents, Wed Nov 11 2026. No macro, syntax, notation, axiom, sorry.
-/
import Derived.Test.YtgabklihgjjjeaaGreatDoorRows
import GoSem.ClaimSeven
namespace Go.Proofs.YtgabklihgjjjeaaGreatDoor
namespace Rows

/-- THE TIED CARD OF 'passbooklaw11.SnapNil'. -/
def snapNilCard : Claim7 := { stood := { row := snapNilRow, standIns := [], harness := (true, "10a87e4c0e9c64b4085195690aaf62fb0459120ca69424a7ed26d3553f33df1b"), looks := false }, kinds := [], alts := [], laidByText := true, laidKinds := [.data, .data, .data], laidTests := true, laidLooks := .later }
def SnapNilCardSaid : Prop := Claim7.holds Tryz.pinned (.plain (OpenSpec.ofChange snapNilSpec)) snapNilCard

/-- THE TIED CARD OF 'passbooklaw11.SnapSafe'. -/
def snapSafeCard : Claim7 := { stood := { row := snapSafeRow, standIns := [], harness := (true, "10a87e4c0e9c64b4085195690aaf62fb0459120ca69424a7ed26d3553f33df1b"), looks := false }, kinds := [], alts := [], laidByText := true, laidKinds := [.data, .data, .data], laidTests := true, laidLooks := .later }
def SnapSafeCardSaid : Prop := Claim7.holds Tryz.pinned (.plain (OpenSpec.ofChange snapSafeSpec)) snapSafeCard

/-- THE TIED CARD OF 'passbooklaw11.SnapNewest'. -/
def snapNewestCard : Claim7 := { stood := { row := snapNewestRow, standIns := [], harness := (true, "10a87e4c0e9c64b4085195690aaf62fb0459120ca69424a7ed26d3553f33df1b"), looks := false }, kinds := [], alts := [], laidByText := true, laidKinds := [.data, .data, .data], laidTests := true, laidLooks := .later }
def SnapNewestCardSaid : Prop := Claim7.holds Tryz.pinned (.plain (OpenSpec.ofChange snapNewestSpec)) snapNewestCard

/-- THE SECOND FORM's CARD OF 'passbooklaw11.SnapNil'. -/
def snapNilUptoCard : Claim7 := { stood := { row := snapNilUptoRow, standIns := [], harness := (true, "10a87e4c0e9c64b4085195690aaf62fb0459120ca69424a7ed26d3553f33df1b"), looks := false }, kinds := [], alts := [], laidByText := true, laidKinds := [.data, .data, .data], laidTests := true, laidLooks := .later }
def SnapNilUptoCardSaid : Prop := Claim7.holds Tryz.pinned (.plain (OpenSpec.upto snapNilSpec)) snapNilUptoCard

/-- THE SECOND FORM's CARD OF 'passbooklaw11.SnapSafe'. -/
def snapSafeUptoCard : Claim7 := { stood := { row := snapSafeUptoRow, standIns := [], harness := (true, "10a87e4c0e9c64b4085195690aaf62fb0459120ca69424a7ed26d3553f33df1b"), looks := false }, kinds := [], alts := [], laidByText := true, laidKinds := [.data, .data, .data], laidTests := true, laidLooks := .later }
def SnapSafeUptoCardSaid : Prop := Claim7.holds Tryz.pinned (.plain (OpenSpec.upto snapSafeSpec)) snapSafeUptoCard

/-- THE SECOND FORM's CARD OF 'passbooklaw11.SnapNewest'. -/
def snapNewestUptoCard : Claim7 := { stood := { row := snapNewestUptoRow, standIns := [], harness := (true, "10a87e4c0e9c64b4085195690aaf62fb0459120ca69424a7ed26d3553f33df1b"), looks := false }, kinds := [], alts := [], laidByText := true, laidKinds := [.data, .data, .data], laidTests := true, laidLooks := .later }
def SnapNewestUptoCardSaid : Prop := Claim7.holds Tryz.pinned (.plain (OpenSpec.upto snapNewestSpec)) snapNewestUptoCard
end Rows
end Go.Proofs.YtgabklihgjjjeaaGreatDoor
