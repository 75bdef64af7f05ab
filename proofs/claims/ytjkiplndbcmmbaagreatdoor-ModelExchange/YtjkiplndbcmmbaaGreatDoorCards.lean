/-
  DERIVED. GIVEN WITH THE SEED: THE CARDS: each row of YtjkiplndbcmmbaaGreatDoorRows.lean that lists a variable, with what it lists TIED to the program's text (the seventh form; the later family's looks); each row that meets fmt, with fmt's text TOLD by the authors' own Lean function (tested against real Go, not proved from fmt's source: count such statements apart). THE CARD IS WHAT COUNTS. Prove the row's statement (the work); the ties are given (YtjkiplndbcmmbaaGreatDoorTie.lean); close each card by the builder's one call (the guide's Derived/Test/ToyasCard.lean, 'card_holds'). Laid BY PROGRAM, IN A SANDBOX (cutbox-door.mjs). By AI agents, Wed Nov 11 2026. No macro, syntax, notation, axiom, sorry.
-/
import Derived.Test.YtjkiplndbcmmbaaGreatDoorRows
import GoSem.ClaimSeven
namespace Go.Proofs.YtjkiplndbcmmbaaGreatDoor
namespace Rows

/-- THE TIED CARD OF 'passbooklaw17.ModelSpends'. -/
def modelSpendsCard : Claim7 := { stood := { row := modelSpendsRow, standIns := [], harness := (true, "9d13d48cccc3971f4412385c45495085a48fcfea1114674f9ef4ea83ec24d9fe"), looks := false }, kinds := [], alts := [], laidByText := true, laidKinds := [.data, .data, .data, .data], laidTests := true, laidLooks := .later }
def ModelSpendsCardSaid : Prop := Claim7.holds Tryz.pinned (.plain (OpenSpec.ofChange modelSpendsSpec)) modelSpendsCard

/-- THE TIED CARD OF 'passbooklaw17.ModelLoans'. -/
def modelLoansCard : Claim7 := { stood := { row := modelLoansRow, standIns := [], harness := (true, "9d13d48cccc3971f4412385c45495085a48fcfea1114674f9ef4ea83ec24d9fe"), looks := false }, kinds := [], alts := [], laidByText := true, laidKinds := [.data, .data, .data, .data], laidTests := true, laidLooks := .later }
def ModelLoansCardSaid : Prop := Claim7.holds Tryz.pinned (.plain (OpenSpec.ofChange modelLoansSpec)) modelLoansCard

/-- THE TIED CARD OF 'passbooklaw17.ModelClosed'. -/
def modelClosedCard : Claim7 := { stood := { row := modelClosedRow, standIns := [], harness := (true, "9d13d48cccc3971f4412385c45495085a48fcfea1114674f9ef4ea83ec24d9fe"), looks := false }, kinds := [], alts := [], laidByText := true, laidKinds := [.data, .data, .data, .data], laidTests := true, laidLooks := .later }
def ModelClosedCardSaid : Prop := Claim7.holds Tryz.pinned (.plain (OpenSpec.ofChange modelClosedSpec)) modelClosedCard

/-- THE TIED CARD OF 'passbooklaw17.ModelKeys'. -/
def modelKeysCard : Claim7 := { stood := { row := modelKeysRow, standIns := [], harness := (true, "9d13d48cccc3971f4412385c45495085a48fcfea1114674f9ef4ea83ec24d9fe"), looks := false }, kinds := [], alts := [], laidByText := true, laidKinds := [.data, .data, .data, .data], laidTests := true, laidLooks := .later }
def ModelKeysCardSaid : Prop := Claim7.holds Tryz.pinned (.plain (OpenSpec.ofChange modelKeysSpec)) modelKeysCard

/-- THE TIED CARD OF 'passbooklaw17.ModelRates'. -/
def modelRatesCard : Claim7 := { stood := { row := modelRatesRow, standIns := [], harness := (true, "9d13d48cccc3971f4412385c45495085a48fcfea1114674f9ef4ea83ec24d9fe"), looks := false }, kinds := [], alts := [], laidByText := true, laidKinds := [.data, .data, .data, .data], laidTests := true, laidLooks := .later }
def ModelRatesCardSaid : Prop := Claim7.holds Tryz.pinned (.plain (OpenSpec.ofChange modelRatesSpec)) modelRatesCard

/-- THE TIED CARD OF 'passbooklaw17.ModelExchange'. -/
def modelExchangeCard : Claim7 := { stood := { row := modelExchangeRow, standIns := [], harness := (true, "9d13d48cccc3971f4412385c45495085a48fcfea1114674f9ef4ea83ec24d9fe"), looks := false }, kinds := [], alts := [], laidByText := true, laidKinds := [.data, .data, .data, .data], laidTests := true, laidLooks := .later }
def ModelExchangeCardSaid : Prop := Claim7.holds Tryz.pinned (.plain (OpenSpec.ofChange modelExchangeSpec)) modelExchangeCard

/-- THE SECOND FORM's CARD OF 'passbooklaw17.ModelSpends'. -/
def modelSpendsUptoCard : Claim7 := { stood := { row := modelSpendsUptoRow, standIns := [], harness := (true, "9d13d48cccc3971f4412385c45495085a48fcfea1114674f9ef4ea83ec24d9fe"), looks := false }, kinds := [], alts := [], laidByText := true, laidKinds := [.data, .data, .data, .data], laidTests := true, laidLooks := .later }
def ModelSpendsUptoCardSaid : Prop := Claim7.holds Tryz.pinned (.plain (OpenSpec.upto modelSpendsSpec)) modelSpendsUptoCard

/-- THE SECOND FORM's CARD OF 'passbooklaw17.ModelLoans'. -/
def modelLoansUptoCard : Claim7 := { stood := { row := modelLoansUptoRow, standIns := [], harness := (true, "9d13d48cccc3971f4412385c45495085a48fcfea1114674f9ef4ea83ec24d9fe"), looks := false }, kinds := [], alts := [], laidByText := true, laidKinds := [.data, .data, .data, .data], laidTests := true, laidLooks := .later }
def ModelLoansUptoCardSaid : Prop := Claim7.holds Tryz.pinned (.plain (OpenSpec.upto modelLoansSpec)) modelLoansUptoCard

/-- THE SECOND FORM's CARD OF 'passbooklaw17.ModelClosed'. -/
def modelClosedUptoCard : Claim7 := { stood := { row := modelClosedUptoRow, standIns := [], harness := (true, "9d13d48cccc3971f4412385c45495085a48fcfea1114674f9ef4ea83ec24d9fe"), looks := false }, kinds := [], alts := [], laidByText := true, laidKinds := [.data, .data, .data, .data], laidTests := true, laidLooks := .later }
def ModelClosedUptoCardSaid : Prop := Claim7.holds Tryz.pinned (.plain (OpenSpec.upto modelClosedSpec)) modelClosedUptoCard

/-- THE SECOND FORM's CARD OF 'passbooklaw17.ModelKeys'. -/
def modelKeysUptoCard : Claim7 := { stood := { row := modelKeysUptoRow, standIns := [], harness := (true, "9d13d48cccc3971f4412385c45495085a48fcfea1114674f9ef4ea83ec24d9fe"), looks := false }, kinds := [], alts := [], laidByText := true, laidKinds := [.data, .data, .data, .data], laidTests := true, laidLooks := .later }
def ModelKeysUptoCardSaid : Prop := Claim7.holds Tryz.pinned (.plain (OpenSpec.upto modelKeysSpec)) modelKeysUptoCard

/-- THE SECOND FORM's CARD OF 'passbooklaw17.ModelRates'. -/
def modelRatesUptoCard : Claim7 := { stood := { row := modelRatesUptoRow, standIns := [], harness := (true, "9d13d48cccc3971f4412385c45495085a48fcfea1114674f9ef4ea83ec24d9fe"), looks := false }, kinds := [], alts := [], laidByText := true, laidKinds := [.data, .data, .data, .data], laidTests := true, laidLooks := .later }
def ModelRatesUptoCardSaid : Prop := Claim7.holds Tryz.pinned (.plain (OpenSpec.upto modelRatesSpec)) modelRatesUptoCard

/-- THE SECOND FORM's CARD OF 'passbooklaw17.ModelExchange'. -/
def modelExchangeUptoCard : Claim7 := { stood := { row := modelExchangeUptoRow, standIns := [], harness := (true, "9d13d48cccc3971f4412385c45495085a48fcfea1114674f9ef4ea83ec24d9fe"), looks := false }, kinds := [], alts := [], laidByText := true, laidKinds := [.data, .data, .data, .data], laidTests := true, laidLooks := .later }
def ModelExchangeUptoCardSaid : Prop := Claim7.holds Tryz.pinned (.plain (OpenSpec.upto modelExchangeSpec)) modelExchangeUptoCard
end Rows
end Go.Proofs.YtjkiplndbcmmbaaGreatDoor
