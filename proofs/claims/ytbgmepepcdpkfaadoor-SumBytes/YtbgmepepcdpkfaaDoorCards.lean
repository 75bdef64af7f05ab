/-
  DERIVED. GIVEN WITH THE SEED: THE CARDS: each row of YtbgmepepcdpkfaaDoorRows.lean that lists a variable, with what it lists TIED to the program's text (the seventh form; the later family's looks); each row that meets fmt, with fmt's text TOLD by the authors' own Lean function (tested against real Go, not proved from fmt's source: count such statements apart). THE CARD IS WHAT COUNTS. Prove the row's statement (the work); the ties are given (YtbgmepepcdpkfaaDoorTie.lean); close each card by the builder's one call (the guide's Derived/Test/ToyasCard.lean, 'card_holds'). Laid BY PROGRAM, IN A SANDBOX (cutbox-door.mjs). By AI agents, Wed Nov 11 2026. No macro, syntax, notation, axiom, sorry.
-/
import Derived.Test.YtbgmepepcdpkfaaDoorRows
import GoSem.ClaimSeven
namespace Go.Proofs.YtbgmepepcdpkfaaDoor
namespace Rows

/-- THE TIED CARD OF 'passbooklaw06.SumBytes'. -/
def sumBytesCard : Claim7 := { stood := { row := sumBytesRow, standIns := [], harness := (true, "8f8975abab863f6c42dec2fd2321805702eec27c27e586af66eefac733a6ace4"), looks := false }, kinds := [], alts := [], laidByText := true, laidKinds := [.data, .data], laidTests := true, laidLooks := .later }
def SumBytesCardSaid : Prop := Claim7.holds Tryd.pinned (.plain (OpenSpec.ofChange sumBytesSpec)) sumBytesCard

/-- THE TIED CARD OF 'passbooklaw06.SumRoots'. -/
def sumRootsCard : Claim7 := { stood := { row := sumRootsRow, standIns := [], harness := (true, "8f8975abab863f6c42dec2fd2321805702eec27c27e586af66eefac733a6ace4"), looks := false }, kinds := [], alts := [], laidByText := true, laidKinds := [.data, .data], laidTests := true, laidLooks := .later }
def SumRootsCardSaid : Prop := Claim7.holds Tryd.pinned (.plain (OpenSpec.ofChange sumRootsSpec)) sumRootsCard

/-- THE TIED CARD OF 'passbooklaw06.SumTurned'. -/
def sumTurnedCard : Claim7 := { stood := { row := sumTurnedRow, standIns := [], harness := (true, "8f8975abab863f6c42dec2fd2321805702eec27c27e586af66eefac733a6ace4"), looks := false }, kinds := [], alts := [], laidByText := true, laidKinds := [.data, .data], laidTests := true, laidLooks := .later }
def SumTurnedCardSaid : Prop := Claim7.holds Tryd.pinned (.plain (OpenSpec.ofChange sumTurnedSpec)) sumTurnedCard

/-- THE TIED CARD OF 'passbooklaw06.SumLinear'. -/
def sumLinearCard : Claim7 := { stood := { row := sumLinearRow, standIns := [], harness := (true, "8f8975abab863f6c42dec2fd2321805702eec27c27e586af66eefac733a6ace4"), looks := false }, kinds := [], alts := [], laidByText := true, laidKinds := [.data, .data], laidTests := true, laidLooks := .later }
def SumLinearCardSaid : Prop := Claim7.holds Tryd.pinned (.plain (OpenSpec.ofChange sumLinearSpec)) sumLinearCard

/-- THE SECOND FORM's CARD OF 'passbooklaw06.SumBytes'. -/
def sumBytesUptoCard : Claim7 := { stood := { row := sumBytesUptoRow, standIns := [], harness := (true, "8f8975abab863f6c42dec2fd2321805702eec27c27e586af66eefac733a6ace4"), looks := false }, kinds := [], alts := [], laidByText := true, laidKinds := [.data, .data], laidTests := true, laidLooks := .later }
def SumBytesUptoCardSaid : Prop := Claim7.holds Tryd.pinned (.plain (OpenSpec.upto sumBytesSpec)) sumBytesUptoCard

/-- THE SECOND FORM's CARD OF 'passbooklaw06.SumRoots'. -/
def sumRootsUptoCard : Claim7 := { stood := { row := sumRootsUptoRow, standIns := [], harness := (true, "8f8975abab863f6c42dec2fd2321805702eec27c27e586af66eefac733a6ace4"), looks := false }, kinds := [], alts := [], laidByText := true, laidKinds := [.data, .data], laidTests := true, laidLooks := .later }
def SumRootsUptoCardSaid : Prop := Claim7.holds Tryd.pinned (.plain (OpenSpec.upto sumRootsSpec)) sumRootsUptoCard

/-- THE SECOND FORM's CARD OF 'passbooklaw06.SumTurned'. -/
def sumTurnedUptoCard : Claim7 := { stood := { row := sumTurnedUptoRow, standIns := [], harness := (true, "8f8975abab863f6c42dec2fd2321805702eec27c27e586af66eefac733a6ace4"), looks := false }, kinds := [], alts := [], laidByText := true, laidKinds := [.data, .data], laidTests := true, laidLooks := .later }
def SumTurnedUptoCardSaid : Prop := Claim7.holds Tryd.pinned (.plain (OpenSpec.upto sumTurnedSpec)) sumTurnedUptoCard

/-- THE SECOND FORM's CARD OF 'passbooklaw06.SumLinear'. -/
def sumLinearUptoCard : Claim7 := { stood := { row := sumLinearUptoRow, standIns := [], harness := (true, "8f8975abab863f6c42dec2fd2321805702eec27c27e586af66eefac733a6ace4"), looks := false }, kinds := [], alts := [], laidByText := true, laidKinds := [.data, .data], laidTests := true, laidLooks := .later }
def SumLinearUptoCardSaid : Prop := Claim7.holds Tryd.pinned (.plain (OpenSpec.upto sumLinearSpec)) sumLinearUptoCard
end Rows
end Go.Proofs.YtbgmepepcdpkfaaDoor
