/-
  DERIVED. GIVEN WITH THE SEED: THE CARDS: each row of YtlgcbbnnldlooaaDoorRows.lean that lists a variable, with what it lists TIED to the program's text (the seventh form; the later family's looks); each row that meets fmt, with fmt's text TOLD by the authors' own Lean function (tested against real Go, not proved from fmt's source: count such statements apart). THE CARD IS WHAT COUNTS. Prove the row's statement (the work); the ties are given (YtlgcbbnnldlooaaDoorTie.lean); close each card by the builder's one call (the guide's Derived/Test/ToyasCard.lean, 'card_holds'). Laid BY PROGRAM, IN A SANDBOX (cutbox-door.mjs). By AI agents, Wed Nov 11 2026. No macro, syntax, notation, axiom, sorry.
-/
import Derived.Test.YtlgcbbnnldlooaaDoorRows
import GoSem.ClaimSeven
namespace Go.Proofs.YtlgcbbnnldlooaaDoor
namespace Rows

/-- THE TIED CARD OF 'passbooklaw13.ChartPosts'. -/
def chartPostsCard : Claim7 := { stood := { row := chartPostsRow, standIns := [], harness := (true, "dc27797d525087ab08502c0acdd2ec8bd9a4d64e73509e07889bd6444aeba4f4"), looks := false }, kinds := [], alts := [], laidByText := true, laidKinds := [.data, .data], laidTests := true, laidLooks := .later }
def ChartPostsCardSaid : Prop := Claim7.holds Tryd.pinned (.plain (OpenSpec.ofChange chartPostsSpec)) chartPostsCard

/-- THE TIED CARD OF 'passbooklaw13.ChartBalances'. -/
def chartBalancesCard : Claim7 := { stood := { row := chartBalancesRow, standIns := [], harness := (true, "dc27797d525087ab08502c0acdd2ec8bd9a4d64e73509e07889bd6444aeba4f4"), looks := false }, kinds := [], alts := [], laidByText := true, laidKinds := [.data, .data], laidTests := true, laidLooks := .later }
def ChartBalancesCardSaid : Prop := Claim7.holds Tryd.pinned (.plain (OpenSpec.ofChange chartBalancesSpec)) chartBalancesCard

/-- THE TIED CARD OF 'passbooklaw13.ChartNil'. -/
def chartNilCard : Claim7 := { stood := { row := chartNilRow, standIns := [], harness := (true, "dc27797d525087ab08502c0acdd2ec8bd9a4d64e73509e07889bd6444aeba4f4"), looks := false }, kinds := [], alts := [], laidByText := true, laidKinds := [.data, .data], laidTests := true, laidLooks := .later }
def ChartNilCardSaid : Prop := Claim7.holds Tryd.pinned (.plain (OpenSpec.ofChange chartNilSpec)) chartNilCard

/-- THE TIED CARD OF 'passbooklaw13.ChartNothingLost'. -/
def chartNothingLostCard : Claim7 := { stood := { row := chartNothingLostRow, standIns := [], harness := (true, "dc27797d525087ab08502c0acdd2ec8bd9a4d64e73509e07889bd6444aeba4f4"), looks := false }, kinds := [], alts := [], laidByText := true, laidKinds := [.data, .data], laidTests := true, laidLooks := .later }
def ChartNothingLostCardSaid : Prop := Claim7.holds Tryd.pinned (.plain (OpenSpec.ofChange chartNothingLostSpec)) chartNothingLostCard

/-- THE TIED CARD OF 'passbooklaw13.ChartOrder'. -/
def chartOrderCard : Claim7 := { stood := { row := chartOrderRow, standIns := [], harness := (true, "dc27797d525087ab08502c0acdd2ec8bd9a4d64e73509e07889bd6444aeba4f4"), looks := false }, kinds := [], alts := [], laidByText := true, laidKinds := [.data, .data], laidTests := true, laidLooks := .later }
def ChartOrderCardSaid : Prop := Claim7.holds Tryd.pinned (.plain (OpenSpec.ofChange chartOrderSpec)) chartOrderCard

/-- THE TIED CARD OF 'passbooklaw13.ChartParts'. -/
def chartPartsCard : Claim7 := { stood := { row := chartPartsRow, standIns := [], harness := (true, "dc27797d525087ab08502c0acdd2ec8bd9a4d64e73509e07889bd6444aeba4f4"), looks := false }, kinds := [], alts := [], laidByText := true, laidKinds := [.data, .data], laidTests := true, laidLooks := .later }
def ChartPartsCardSaid : Prop := Claim7.holds Tryd.pinned (.plain (OpenSpec.ofChange chartPartsSpec)) chartPartsCard

/-- THE SECOND FORM's CARD OF 'passbooklaw13.ChartPosts'. -/
def chartPostsUptoCard : Claim7 := { stood := { row := chartPostsUptoRow, standIns := [], harness := (true, "dc27797d525087ab08502c0acdd2ec8bd9a4d64e73509e07889bd6444aeba4f4"), looks := false }, kinds := [], alts := [], laidByText := true, laidKinds := [.data, .data], laidTests := true, laidLooks := .later }
def ChartPostsUptoCardSaid : Prop := Claim7.holds Tryd.pinned (.plain (OpenSpec.upto chartPostsSpec)) chartPostsUptoCard

/-- THE SECOND FORM's CARD OF 'passbooklaw13.ChartBalances'. -/
def chartBalancesUptoCard : Claim7 := { stood := { row := chartBalancesUptoRow, standIns := [], harness := (true, "dc27797d525087ab08502c0acdd2ec8bd9a4d64e73509e07889bd6444aeba4f4"), looks := false }, kinds := [], alts := [], laidByText := true, laidKinds := [.data, .data], laidTests := true, laidLooks := .later }
def ChartBalancesUptoCardSaid : Prop := Claim7.holds Tryd.pinned (.plain (OpenSpec.upto chartBalancesSpec)) chartBalancesUptoCard

/-- THE SECOND FORM's CARD OF 'passbooklaw13.ChartNil'. -/
def chartNilUptoCard : Claim7 := { stood := { row := chartNilUptoRow, standIns := [], harness := (true, "dc27797d525087ab08502c0acdd2ec8bd9a4d64e73509e07889bd6444aeba4f4"), looks := false }, kinds := [], alts := [], laidByText := true, laidKinds := [.data, .data], laidTests := true, laidLooks := .later }
def ChartNilUptoCardSaid : Prop := Claim7.holds Tryd.pinned (.plain (OpenSpec.upto chartNilSpec)) chartNilUptoCard

/-- THE SECOND FORM's CARD OF 'passbooklaw13.ChartNothingLost'. -/
def chartNothingLostUptoCard : Claim7 := { stood := { row := chartNothingLostUptoRow, standIns := [], harness := (true, "dc27797d525087ab08502c0acdd2ec8bd9a4d64e73509e07889bd6444aeba4f4"), looks := false }, kinds := [], alts := [], laidByText := true, laidKinds := [.data, .data], laidTests := true, laidLooks := .later }
def ChartNothingLostUptoCardSaid : Prop := Claim7.holds Tryd.pinned (.plain (OpenSpec.upto chartNothingLostSpec)) chartNothingLostUptoCard

/-- THE SECOND FORM's CARD OF 'passbooklaw13.ChartOrder'. -/
def chartOrderUptoCard : Claim7 := { stood := { row := chartOrderUptoRow, standIns := [], harness := (true, "dc27797d525087ab08502c0acdd2ec8bd9a4d64e73509e07889bd6444aeba4f4"), looks := false }, kinds := [], alts := [], laidByText := true, laidKinds := [.data, .data], laidTests := true, laidLooks := .later }
def ChartOrderUptoCardSaid : Prop := Claim7.holds Tryd.pinned (.plain (OpenSpec.upto chartOrderSpec)) chartOrderUptoCard

/-- THE SECOND FORM's CARD OF 'passbooklaw13.ChartParts'. -/
def chartPartsUptoCard : Claim7 := { stood := { row := chartPartsUptoRow, standIns := [], harness := (true, "dc27797d525087ab08502c0acdd2ec8bd9a4d64e73509e07889bd6444aeba4f4"), looks := false }, kinds := [], alts := [], laidByText := true, laidKinds := [.data, .data], laidTests := true, laidLooks := .later }
def ChartPartsUptoCardSaid : Prop := Claim7.holds Tryd.pinned (.plain (OpenSpec.upto chartPartsSpec)) chartPartsUptoCard
end Rows
end Go.Proofs.YtlgcbbnnldlooaaDoor
