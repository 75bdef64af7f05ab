/-
  DERIVED. GIVEN WITH THE SEED: THE CARDS: each row of YtkmdegmpffgplaaGreatDoorRows.lean that lists a variable, with what it lists TIED to the program's text (the seventh form; the later family's looks); each row that meets fmt, with fmt's text TOLD by the authors' own Lean function (tested against real Go, not proved from fmt's source: count such statements apart). THE CARD IS WHAT COUNTS. Prove the row's statement (the work); the ties are given (YtkmdegmpffgplaaGreatDoorTie.lean); close each card by the builder's one call (the guide's Derived/Test/ToyasCard.lean, 'card_holds'). Laid BY PROGRAM, IN A SANDBOX (cutbox-door.mjs). By AI agents, Wed Nov 11 2026. No macro, syntax, notation, axiom, sorry.
-/
import Derived.Test.YtkmdegmpffgplaaGreatDoorRows
import GoSem.ClaimSeven
namespace Go.Proofs.YtkmdegmpffgplaaGreatDoor
namespace Rows

/-- THE TIED CARD OF 'passbooklaw10.LogNil'. -/
def logNilCard : Claim7 := { stood := { row := logNilRow, standIns := [], harness := (true, "d9a378fa89972ce04070851a582e864efe51e5b950dbe1dbc14e616c99c78743"), looks := false }, kinds := [], alts := [], laidByText := true, laidKinds := [.data, .data, .data, .data, .data], laidTests := true, laidLooks := .later }
def LogNilCardSaid : Prop := Claim7.holds Tryz.pinned (.plain (OpenSpec.ofChange logNilSpec)) logNilCard

/-- THE TIED CARD OF 'passbooklaw10.LogFull'. -/
def logFullCard : Claim7 := { stood := { row := logFullRow, standIns := [], harness := (true, "d9a378fa89972ce04070851a582e864efe51e5b950dbe1dbc14e616c99c78743"), looks := false }, kinds := [], alts := [], laidByText := true, laidKinds := [.data, .data, .data, .data, .data], laidTests := true, laidLooks := .later }
def LogFullCardSaid : Prop := Claim7.holds Tryz.pinned (.plain (OpenSpec.ofChange logFullSpec)) logFullCard

/-- THE TIED CARD OF 'passbooklaw10.LogPruned'. -/
def logPrunedCard : Claim7 := { stood := { row := logPrunedRow, standIns := [], harness := (true, "d9a378fa89972ce04070851a582e864efe51e5b950dbe1dbc14e616c99c78743"), looks := false }, kinds := [], alts := [], laidByText := true, laidKinds := [.data, .data, .data, .data, .data], laidTests := true, laidLooks := .later }
def LogPrunedCardSaid : Prop := Claim7.holds Tryz.pinned (.plain (OpenSpec.ofChange logPrunedSpec)) logPrunedCard

/-- THE TIED CARD OF 'passbooklaw10.LogTwice'. -/
def logTwiceCard : Claim7 := { stood := { row := logTwiceRow, standIns := [], harness := (true, "d9a378fa89972ce04070851a582e864efe51e5b950dbe1dbc14e616c99c78743"), looks := false }, kinds := [], alts := [], laidByText := true, laidKinds := [.data, .data, .data, .data, .data], laidTests := true, laidLooks := .later }
def LogTwiceCardSaid : Prop := Claim7.holds Tryz.pinned (.plain (OpenSpec.ofChange logTwiceSpec)) logTwiceCard

/-- THE TIED CARD OF 'passbooklaw10.LogTail'. -/
def logTailCard : Claim7 := { stood := { row := logTailRow, standIns := [], harness := (true, "d9a378fa89972ce04070851a582e864efe51e5b950dbe1dbc14e616c99c78743"), looks := false }, kinds := [], alts := [], laidByText := true, laidKinds := [.data, .data, .data, .data, .data], laidTests := true, laidLooks := .later }
def LogTailCardSaid : Prop := Claim7.holds Tryz.pinned (.plain (OpenSpec.ofChange logTailSpec)) logTailCard

/-- THE TIED CARD OF 'passbooklaw10.LogSafe'. -/
def logSafeCard : Claim7 := { stood := { row := logSafeRow, standIns := [], harness := (true, "d9a378fa89972ce04070851a582e864efe51e5b950dbe1dbc14e616c99c78743"), looks := false }, kinds := [], alts := [], laidByText := true, laidKinds := [.data, .data, .data, .data, .data], laidTests := true, laidLooks := .later }
def LogSafeCardSaid : Prop := Claim7.holds Tryz.pinned (.plain (OpenSpec.ofChange logSafeSpec)) logSafeCard

/-- THE SECOND FORM's CARD OF 'passbooklaw10.LogNil'. -/
def logNilUptoCard : Claim7 := { stood := { row := logNilUptoRow, standIns := [], harness := (true, "d9a378fa89972ce04070851a582e864efe51e5b950dbe1dbc14e616c99c78743"), looks := false }, kinds := [], alts := [], laidByText := true, laidKinds := [.data, .data, .data, .data, .data], laidTests := true, laidLooks := .later }
def LogNilUptoCardSaid : Prop := Claim7.holds Tryz.pinned (.plain (OpenSpec.upto logNilSpec)) logNilUptoCard

/-- THE SECOND FORM's CARD OF 'passbooklaw10.LogFull'. -/
def logFullUptoCard : Claim7 := { stood := { row := logFullUptoRow, standIns := [], harness := (true, "d9a378fa89972ce04070851a582e864efe51e5b950dbe1dbc14e616c99c78743"), looks := false }, kinds := [], alts := [], laidByText := true, laidKinds := [.data, .data, .data, .data, .data], laidTests := true, laidLooks := .later }
def LogFullUptoCardSaid : Prop := Claim7.holds Tryz.pinned (.plain (OpenSpec.upto logFullSpec)) logFullUptoCard

/-- THE SECOND FORM's CARD OF 'passbooklaw10.LogPruned'. -/
def logPrunedUptoCard : Claim7 := { stood := { row := logPrunedUptoRow, standIns := [], harness := (true, "d9a378fa89972ce04070851a582e864efe51e5b950dbe1dbc14e616c99c78743"), looks := false }, kinds := [], alts := [], laidByText := true, laidKinds := [.data, .data, .data, .data, .data], laidTests := true, laidLooks := .later }
def LogPrunedUptoCardSaid : Prop := Claim7.holds Tryz.pinned (.plain (OpenSpec.upto logPrunedSpec)) logPrunedUptoCard

/-- THE SECOND FORM's CARD OF 'passbooklaw10.LogTwice'. -/
def logTwiceUptoCard : Claim7 := { stood := { row := logTwiceUptoRow, standIns := [], harness := (true, "d9a378fa89972ce04070851a582e864efe51e5b950dbe1dbc14e616c99c78743"), looks := false }, kinds := [], alts := [], laidByText := true, laidKinds := [.data, .data, .data, .data, .data], laidTests := true, laidLooks := .later }
def LogTwiceUptoCardSaid : Prop := Claim7.holds Tryz.pinned (.plain (OpenSpec.upto logTwiceSpec)) logTwiceUptoCard

/-- THE SECOND FORM's CARD OF 'passbooklaw10.LogTail'. -/
def logTailUptoCard : Claim7 := { stood := { row := logTailUptoRow, standIns := [], harness := (true, "d9a378fa89972ce04070851a582e864efe51e5b950dbe1dbc14e616c99c78743"), looks := false }, kinds := [], alts := [], laidByText := true, laidKinds := [.data, .data, .data, .data, .data], laidTests := true, laidLooks := .later }
def LogTailUptoCardSaid : Prop := Claim7.holds Tryz.pinned (.plain (OpenSpec.upto logTailSpec)) logTailUptoCard

/-- THE SECOND FORM's CARD OF 'passbooklaw10.LogSafe'. -/
def logSafeUptoCard : Claim7 := { stood := { row := logSafeUptoRow, standIns := [], harness := (true, "d9a378fa89972ce04070851a582e864efe51e5b950dbe1dbc14e616c99c78743"), looks := false }, kinds := [], alts := [], laidByText := true, laidKinds := [.data, .data, .data, .data, .data], laidTests := true, laidLooks := .later }
def LogSafeUptoCardSaid : Prop := Claim7.holds Tryz.pinned (.plain (OpenSpec.upto logSafeSpec)) logSafeUptoCard
end Rows
end Go.Proofs.YtkmdegmpffgplaaGreatDoor
