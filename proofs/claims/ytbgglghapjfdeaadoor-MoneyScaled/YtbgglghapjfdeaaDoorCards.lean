/-
  DERIVED. GIVEN WITH THE SEED: THE CARDS: each row of YtbgglghapjfdeaaDoorRows.lean that lists a variable, with what it lists TIED to the program's text (the seventh form; the later family's looks); each row that meets fmt, with fmt's text TOLD by the authors' own Lean function (tested against real Go, not proved from fmt's source: count such statements apart). THE CARD IS WHAT COUNTS. Prove the row's statement (the work); the ties are given (YtbgglghapjfdeaaDoorTie.lean); close each card by the builder's one call (the guide's Derived/Test/ToyasCard.lean, 'card_holds'). Laid BY PROGRAM, IN A SANDBOX (cutbox-door.mjs). By AI agents, Wed Nov 11 2026. No macro, syntax, notation, axiom, sorry.
-/
import Derived.Test.YtbgglghapjfdeaaDoorRows
import GoSem.ClaimSeven
namespace Go.Proofs.YtbgglghapjfdeaaDoor
namespace Rows

/-- THE TIED CARD OF 'passbooklaw05.MoneySplits'. -/
def moneySplitsCard : Claim7 := { stood := { row := moneySplitsRow, standIns := [], harness := (true, "de23d2b17d7610f3bb64096156ab1da01f678ce46348aaa13fe62d5740c19220"), looks := false }, kinds := [], alts := [], laidByText := true, laidKinds := [.data], laidTests := true, laidLooks := .later }
def MoneySplitsCardSaid : Prop := Claim7.holds Tryd.pinned (.plain (OpenSpec.ofChange moneySplitsSpec)) moneySplitsCard

/-- THE TIED CARD OF 'passbooklaw05.MoneyNothingLost'. -/
def moneyNothingLostCard : Claim7 := { stood := { row := moneyNothingLostRow, standIns := [], harness := (true, "de23d2b17d7610f3bb64096156ab1da01f678ce46348aaa13fe62d5740c19220"), looks := false }, kinds := [], alts := [], laidByText := true, laidKinds := [.data], laidTests := true, laidLooks := .later }
def MoneyNothingLostCardSaid : Prop := Claim7.holds Tryd.pinned (.plain (OpenSpec.ofChange moneyNothingLostSpec)) moneyNothingLostCard

/-- THE TIED CARD OF 'passbooklaw05.MoneyScaled'. -/
def moneyScaledCard : Claim7 := { stood := { row := moneyScaledRow, standIns := [], harness := (true, "de23d2b17d7610f3bb64096156ab1da01f678ce46348aaa13fe62d5740c19220"), looks := false }, kinds := [], alts := [], laidByText := true, laidKinds := [.data], laidTests := true, laidLooks := .later }
def MoneyScaledCardSaid : Prop := Claim7.holds Tryd.pinned (.plain (OpenSpec.ofChange moneyScaledSpec)) moneyScaledCard

/-- THE SECOND FORM's CARD OF 'passbooklaw05.MoneySplits'. -/
def moneySplitsUptoCard : Claim7 := { stood := { row := moneySplitsUptoRow, standIns := [], harness := (true, "de23d2b17d7610f3bb64096156ab1da01f678ce46348aaa13fe62d5740c19220"), looks := false }, kinds := [], alts := [], laidByText := true, laidKinds := [.data], laidTests := true, laidLooks := .later }
def MoneySplitsUptoCardSaid : Prop := Claim7.holds Tryd.pinned (.plain (OpenSpec.upto moneySplitsSpec)) moneySplitsUptoCard

/-- THE SECOND FORM's CARD OF 'passbooklaw05.MoneyNothingLost'. -/
def moneyNothingLostUptoCard : Claim7 := { stood := { row := moneyNothingLostUptoRow, standIns := [], harness := (true, "de23d2b17d7610f3bb64096156ab1da01f678ce46348aaa13fe62d5740c19220"), looks := false }, kinds := [], alts := [], laidByText := true, laidKinds := [.data], laidTests := true, laidLooks := .later }
def MoneyNothingLostUptoCardSaid : Prop := Claim7.holds Tryd.pinned (.plain (OpenSpec.upto moneyNothingLostSpec)) moneyNothingLostUptoCard

/-- THE SECOND FORM's CARD OF 'passbooklaw05.MoneyScaled'. -/
def moneyScaledUptoCard : Claim7 := { stood := { row := moneyScaledUptoRow, standIns := [], harness := (true, "de23d2b17d7610f3bb64096156ab1da01f678ce46348aaa13fe62d5740c19220"), looks := false }, kinds := [], alts := [], laidByText := true, laidKinds := [.data], laidTests := true, laidLooks := .later }
def MoneyScaledUptoCardSaid : Prop := Claim7.holds Tryd.pinned (.plain (OpenSpec.upto moneyScaledSpec)) moneyScaledUptoCard
end Rows
end Go.Proofs.YtbgglghapjfdeaaDoor
