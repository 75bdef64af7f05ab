/-
  DERIVED. GIVEN WITH THE SEED: THE CARDS: each row of YtcnigpkmedgbdaaDoorRows.lean that lists a variable, with what it lists TIED to the program's text (the seventh form; the later family's looks); each row that meets fmt, with fmt's text TOLD by the authors' own Lean function (tested against real Go, not proved from fmt's source: count such statements apart). THE CARD IS WHAT COUNTS. Prove the row's statement (the work); the ties are given (YtcnigpkmedgbdaaDoorTie.lean); close each card by the builder's one call (the guide's Derived/Test/ToyasCard.lean, 'card_holds'). Laid BY PROGRAM, IN A SANDBOX (cutbox-door.mjs). By AI agents, Wed Nov 11 2026. No macro, syntax, notation, axiom, sorry.
-/
import Derived.Test.YtcnigpkmedgbdaaDoorRows
import GoSem.ClaimSeven
namespace Go.Proofs.YtcnigpkmedgbdaaDoor
namespace Rows

/-- THE TIED CARD OF 'passbooklaw05.MoneySums'. -/
def moneySumsCard : Claim7 := { stood := { row := moneySumsRow, standIns := [], harness := (true, "c2bbafb28a138e6518aad4d47805f3469ff51561ac15946e5406c13f4a72ebd7"), looks := false }, kinds := [], alts := [], laidByText := true, laidKinds := [.data], laidTests := true, laidLooks := .later }
def MoneySumsCardSaid : Prop := Claim7.holds Tryd.pinned (.plain (OpenSpec.ofChange moneySumsSpec)) moneySumsCard

/-- THE TIED CARD OF 'passbooklaw05.MoneySplits'. -/
def moneySplitsCard : Claim7 := { stood := { row := moneySplitsRow, standIns := [], harness := (true, "c2bbafb28a138e6518aad4d47805f3469ff51561ac15946e5406c13f4a72ebd7"), looks := false }, kinds := [], alts := [], laidByText := true, laidKinds := [.data], laidTests := true, laidLooks := .later }
def MoneySplitsCardSaid : Prop := Claim7.holds Tryd.pinned (.plain (OpenSpec.ofChange moneySplitsSpec)) moneySplitsCard

/-- THE TIED CARD OF 'passbooklaw05.MoneyNothingLost'. -/
def moneyNothingLostCard : Claim7 := { stood := { row := moneyNothingLostRow, standIns := [], harness := (true, "c2bbafb28a138e6518aad4d47805f3469ff51561ac15946e5406c13f4a72ebd7"), looks := false }, kinds := [], alts := [], laidByText := true, laidKinds := [.data], laidTests := true, laidLooks := .later }
def MoneyNothingLostCardSaid : Prop := Claim7.holds Tryd.pinned (.plain (OpenSpec.ofChange moneyNothingLostSpec)) moneyNothingLostCard

/-- THE TIED CARD OF 'passbooklaw05.MoneyDecimals'. -/
def moneyDecimalsCard : Claim7 := { stood := { row := moneyDecimalsRow, standIns := [], harness := (true, "c2bbafb28a138e6518aad4d47805f3469ff51561ac15946e5406c13f4a72ebd7"), looks := false }, kinds := [], alts := [], laidByText := true, laidKinds := [.data], laidTests := true, laidLooks := .later }
def MoneyDecimalsCardSaid : Prop := Claim7.holds Tryd.pinned (.plain (OpenSpec.ofChange moneyDecimalsSpec)) moneyDecimalsCard

/-- THE TIED CARD OF 'passbooklaw05.MoneyOrder'. -/
def moneyOrderCard : Claim7 := { stood := { row := moneyOrderRow, standIns := [], harness := (true, "c2bbafb28a138e6518aad4d47805f3469ff51561ac15946e5406c13f4a72ebd7"), looks := false }, kinds := [], alts := [], laidByText := true, laidKinds := [.data], laidTests := true, laidLooks := .later }
def MoneyOrderCardSaid : Prop := Claim7.holds Tryd.pinned (.plain (OpenSpec.ofChange moneyOrderSpec)) moneyOrderCard

/-- THE SECOND FORM's CARD OF 'passbooklaw05.MoneySums'. -/
def moneySumsUptoCard : Claim7 := { stood := { row := moneySumsUptoRow, standIns := [], harness := (true, "c2bbafb28a138e6518aad4d47805f3469ff51561ac15946e5406c13f4a72ebd7"), looks := false }, kinds := [], alts := [], laidByText := true, laidKinds := [.data], laidTests := true, laidLooks := .later }
def MoneySumsUptoCardSaid : Prop := Claim7.holds Tryd.pinned (.plain (OpenSpec.upto moneySumsSpec)) moneySumsUptoCard

/-- THE SECOND FORM's CARD OF 'passbooklaw05.MoneySplits'. -/
def moneySplitsUptoCard : Claim7 := { stood := { row := moneySplitsUptoRow, standIns := [], harness := (true, "c2bbafb28a138e6518aad4d47805f3469ff51561ac15946e5406c13f4a72ebd7"), looks := false }, kinds := [], alts := [], laidByText := true, laidKinds := [.data], laidTests := true, laidLooks := .later }
def MoneySplitsUptoCardSaid : Prop := Claim7.holds Tryd.pinned (.plain (OpenSpec.upto moneySplitsSpec)) moneySplitsUptoCard

/-- THE SECOND FORM's CARD OF 'passbooklaw05.MoneyNothingLost'. -/
def moneyNothingLostUptoCard : Claim7 := { stood := { row := moneyNothingLostUptoRow, standIns := [], harness := (true, "c2bbafb28a138e6518aad4d47805f3469ff51561ac15946e5406c13f4a72ebd7"), looks := false }, kinds := [], alts := [], laidByText := true, laidKinds := [.data], laidTests := true, laidLooks := .later }
def MoneyNothingLostUptoCardSaid : Prop := Claim7.holds Tryd.pinned (.plain (OpenSpec.upto moneyNothingLostSpec)) moneyNothingLostUptoCard

/-- THE SECOND FORM's CARD OF 'passbooklaw05.MoneyDecimals'. -/
def moneyDecimalsUptoCard : Claim7 := { stood := { row := moneyDecimalsUptoRow, standIns := [], harness := (true, "c2bbafb28a138e6518aad4d47805f3469ff51561ac15946e5406c13f4a72ebd7"), looks := false }, kinds := [], alts := [], laidByText := true, laidKinds := [.data], laidTests := true, laidLooks := .later }
def MoneyDecimalsUptoCardSaid : Prop := Claim7.holds Tryd.pinned (.plain (OpenSpec.upto moneyDecimalsSpec)) moneyDecimalsUptoCard

/-- THE SECOND FORM's CARD OF 'passbooklaw05.MoneyOrder'. -/
def moneyOrderUptoCard : Claim7 := { stood := { row := moneyOrderUptoRow, standIns := [], harness := (true, "c2bbafb28a138e6518aad4d47805f3469ff51561ac15946e5406c13f4a72ebd7"), looks := false }, kinds := [], alts := [], laidByText := true, laidKinds := [.data], laidTests := true, laidLooks := .later }
def MoneyOrderUptoCardSaid : Prop := Claim7.holds Tryd.pinned (.plain (OpenSpec.upto moneyOrderSpec)) moneyOrderUptoCard
end Rows
end Go.Proofs.YtcnigpkmedgbdaaDoor
