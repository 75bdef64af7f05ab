/-
  DERIVED. GIVEN WITH THE SEED: THE CARDS: each row of YtkndnpkpdchbiaaDoorRows.lean that lists a variable, with what it lists TIED to the program's text (the seventh form; the later family's looks); each row that meets fmt, with fmt's text TOLD by the authors' own Lean function (tested against real Go, not proved from fmt's source: count such statements apart). THE CARD IS WHAT COUNTS. Prove the row's statement (the work); the ties are given (YtkndnpkpdchbiaaDoorTie.lean); close each card by the builder's one call (the guide's Derived/Test/ToyasCard.lean, 'card_holds'). Laid BY PROGRAM, IN A SANDBOX (cutbox-door.mjs). By AI agents, Wed Nov 11 2026. No macro, syntax, notation, axiom, sorry.
-/
import Derived.Test.YtkndnpkpdchbiaaDoorRows
import GoSem.ClaimSeven
namespace Go.Proofs.YtkndnpkpdchbiaaDoor
namespace Rows

/-- THE TIED CARD OF 'passbooklaw16.FxQuotes'. -/
def fxQuotesCard : Claim7 := { stood := { row := fxQuotesRow, standIns := [], harness := (true, "92f8e0ab6c7bb3f0db3703249ce94ca967177d72e9c10a665e002b104326e4ae"), looks := false }, kinds := [], alts := [], laidByText := true, laidKinds := [.data], laidTests := true, laidLooks := .later }
def FxQuotesCardSaid : Prop := Claim7.holds Tryd.pinned (.plain (OpenSpec.ofChange fxQuotesSpec)) fxQuotesCard

/-- THE TIED CARD OF 'passbooklaw16.FxBack'. -/
def fxBackCard : Claim7 := { stood := { row := fxBackRow, standIns := [], harness := (true, "92f8e0ab6c7bb3f0db3703249ce94ca967177d72e9c10a665e002b104326e4ae"), looks := false }, kinds := [], alts := [], laidByText := true, laidKinds := [.data], laidTests := true, laidLooks := .later }
def FxBackCardSaid : Prop := Claim7.holds Tryd.pinned (.plain (OpenSpec.ofChange fxBackSpec)) fxBackCard

/-- THE TIED CARD OF 'passbooklaw16.FxSpread'. -/
def fxSpreadCard : Claim7 := { stood := { row := fxSpreadRow, standIns := [], harness := (true, "92f8e0ab6c7bb3f0db3703249ce94ca967177d72e9c10a665e002b104326e4ae"), looks := false }, kinds := [], alts := [], laidByText := true, laidKinds := [.data], laidTests := true, laidLooks := .later }
def FxSpreadCardSaid : Prop := Claim7.holds Tryd.pinned (.plain (OpenSpec.ofChange fxSpreadSpec)) fxSpreadCard

/-- THE SECOND FORM's CARD OF 'passbooklaw16.FxQuotes'. -/
def fxQuotesUptoCard : Claim7 := { stood := { row := fxQuotesUptoRow, standIns := [], harness := (true, "92f8e0ab6c7bb3f0db3703249ce94ca967177d72e9c10a665e002b104326e4ae"), looks := false }, kinds := [], alts := [], laidByText := true, laidKinds := [.data], laidTests := true, laidLooks := .later }
def FxQuotesUptoCardSaid : Prop := Claim7.holds Tryd.pinned (.plain (OpenSpec.upto fxQuotesSpec)) fxQuotesUptoCard

/-- THE SECOND FORM's CARD OF 'passbooklaw16.FxBack'. -/
def fxBackUptoCard : Claim7 := { stood := { row := fxBackUptoRow, standIns := [], harness := (true, "92f8e0ab6c7bb3f0db3703249ce94ca967177d72e9c10a665e002b104326e4ae"), looks := false }, kinds := [], alts := [], laidByText := true, laidKinds := [.data], laidTests := true, laidLooks := .later }
def FxBackUptoCardSaid : Prop := Claim7.holds Tryd.pinned (.plain (OpenSpec.upto fxBackSpec)) fxBackUptoCard

/-- THE SECOND FORM's CARD OF 'passbooklaw16.FxSpread'. -/
def fxSpreadUptoCard : Claim7 := { stood := { row := fxSpreadUptoRow, standIns := [], harness := (true, "92f8e0ab6c7bb3f0db3703249ce94ca967177d72e9c10a665e002b104326e4ae"), looks := false }, kinds := [], alts := [], laidByText := true, laidKinds := [.data], laidTests := true, laidLooks := .later }
def FxSpreadUptoCardSaid : Prop := Claim7.holds Tryd.pinned (.plain (OpenSpec.upto fxSpreadSpec)) fxSpreadUptoCard
end Rows
end Go.Proofs.YtkndnpkpdchbiaaDoor
