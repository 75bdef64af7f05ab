/-
  DERIVED. GIVEN WITH THE SEED: THE CARDS: each row of YtmnnkipfciahmadDoorRows.lean that lists a variable, with what it lists TIED to the program's text (the seventh form; the later family's looks); each row that meets fmt, with fmt's text TOLD by the authors' own Lean function (tested against real Go, not proved from fmt's source: count such statements apart). THE CARD IS WHAT COUNTS. Prove the row's statement (the work); the ties are given (YtmnnkipfciahmadDoorTie.lean); close each card by the builder's one call (the guide's Derived/Test/ToyasCard.lean, 'card_holds'). Laid BY PROGRAM, IN A SANDBOX (cutbox-door.mjs). By AI agents, Wed Nov 11 2026. No macro, syntax, notation, axiom, sorry.
-/
import Derived.Test.YtmnnkipfciahmadDoorRows
import GoSem.ClaimSeven
namespace Go.Proofs.YtmnnkipfciahmadDoor
namespace Rows

/-- THE TIED CARD OF 'passbooklaw03.CalMonths'. -/
def calMonthsCard : Claim7 := { stood := { row := calMonthsRow, standIns := [], harness := (true, "548accf8abb11d429f989d0b33bff334068ce2821bf6daa4e9fef40308674f75"), looks := false }, kinds := [], alts := [], laidByText := true, laidKinds := [.data, .data, .data], laidTests := true, laidLooks := .later }
def CalMonthsCardSaid : Prop := Claim7.holds Tryd.pinned (.plain (OpenSpec.ofChange calMonthsSpec)) calMonthsCard

/-- THE TIED CARD OF 'passbooklaw03.CalRolls'. -/
def calRollsCard : Claim7 := { stood := { row := calRollsRow, standIns := [], harness := (true, "548accf8abb11d429f989d0b33bff334068ce2821bf6daa4e9fef40308674f75"), looks := false }, kinds := [], alts := [], laidByText := true, laidKinds := [.data, .data, .data], laidTests := true, laidLooks := .later }
def CalRollsCardSaid : Prop := Claim7.holds Tryd.pinned (.plain (OpenSpec.ofChange calRollsSpec)) calRollsCard

/-- THE TIED CARD OF 'passbooklaw03.CalTexts'. -/
def calTextsCard : Claim7 := { stood := { row := calTextsRow, standIns := [], harness := (true, "548accf8abb11d429f989d0b33bff334068ce2821bf6daa4e9fef40308674f75"), looks := false }, kinds := [], alts := [], laidByText := true, laidKinds := [.data, .data, .data], laidTests := true, laidLooks := .later }
def CalTextsCardSaid : Prop := Claim7.holds Tryd.pinned (.plain (OpenSpec.ofChange calTextsSpec)) calTextsCard

/-- THE TIED CARD OF 'passbooklaw03.CalFollows'. -/
def calFollowsCard : Claim7 := { stood := { row := calFollowsRow, standIns := [], harness := (true, "548accf8abb11d429f989d0b33bff334068ce2821bf6daa4e9fef40308674f75"), looks := false }, kinds := [], alts := [], laidByText := true, laidKinds := [.data, .data, .data], laidTests := true, laidLooks := .later }
def CalFollowsCardSaid : Prop := Claim7.holds Tryd.pinned (.plain (OpenSpec.ofChange calFollowsSpec)) calFollowsCard

/-- THE TIED CARD OF 'passbooklaw03.CalSteps'. -/
def calStepsCard : Claim7 := { stood := { row := calStepsRow, standIns := [], harness := (true, "548accf8abb11d429f989d0b33bff334068ce2821bf6daa4e9fef40308674f75"), looks := false }, kinds := [], alts := [], laidByText := true, laidKinds := [.data, .data, .data], laidTests := true, laidLooks := .later }
def CalStepsCardSaid : Prop := Claim7.holds Tryd.pinned (.plain (OpenSpec.ofChange calStepsSpec)) calStepsCard

/-- THE TIED CARD OF 'passbooklaw03.CalCycle'. -/
def calCycleCard : Claim7 := { stood := { row := calCycleRow, standIns := [], harness := (true, "548accf8abb11d429f989d0b33bff334068ce2821bf6daa4e9fef40308674f75"), looks := false }, kinds := [], alts := [], laidByText := true, laidKinds := [.data, .data, .data], laidTests := true, laidLooks := .later }
def CalCycleCardSaid : Prop := Claim7.holds Tryd.pinned (.plain (OpenSpec.ofChange calCycleSpec)) calCycleCard

/-- THE SECOND FORM's CARD OF 'passbooklaw03.CalMonths'. -/
def calMonthsUptoCard : Claim7 := { stood := { row := calMonthsUptoRow, standIns := [], harness := (true, "548accf8abb11d429f989d0b33bff334068ce2821bf6daa4e9fef40308674f75"), looks := false }, kinds := [], alts := [], laidByText := true, laidKinds := [.data, .data, .data], laidTests := true, laidLooks := .later }
def CalMonthsUptoCardSaid : Prop := Claim7.holds Tryd.pinned (.plain (OpenSpec.upto calMonthsSpec)) calMonthsUptoCard

/-- THE SECOND FORM's CARD OF 'passbooklaw03.CalRolls'. -/
def calRollsUptoCard : Claim7 := { stood := { row := calRollsUptoRow, standIns := [], harness := (true, "548accf8abb11d429f989d0b33bff334068ce2821bf6daa4e9fef40308674f75"), looks := false }, kinds := [], alts := [], laidByText := true, laidKinds := [.data, .data, .data], laidTests := true, laidLooks := .later }
def CalRollsUptoCardSaid : Prop := Claim7.holds Tryd.pinned (.plain (OpenSpec.upto calRollsSpec)) calRollsUptoCard

/-- THE SECOND FORM's CARD OF 'passbooklaw03.CalTexts'. -/
def calTextsUptoCard : Claim7 := { stood := { row := calTextsUptoRow, standIns := [], harness := (true, "548accf8abb11d429f989d0b33bff334068ce2821bf6daa4e9fef40308674f75"), looks := false }, kinds := [], alts := [], laidByText := true, laidKinds := [.data, .data, .data], laidTests := true, laidLooks := .later }
def CalTextsUptoCardSaid : Prop := Claim7.holds Tryd.pinned (.plain (OpenSpec.upto calTextsSpec)) calTextsUptoCard

/-- THE SECOND FORM's CARD OF 'passbooklaw03.CalFollows'. -/
def calFollowsUptoCard : Claim7 := { stood := { row := calFollowsUptoRow, standIns := [], harness := (true, "548accf8abb11d429f989d0b33bff334068ce2821bf6daa4e9fef40308674f75"), looks := false }, kinds := [], alts := [], laidByText := true, laidKinds := [.data, .data, .data], laidTests := true, laidLooks := .later }
def CalFollowsUptoCardSaid : Prop := Claim7.holds Tryd.pinned (.plain (OpenSpec.upto calFollowsSpec)) calFollowsUptoCard

/-- THE SECOND FORM's CARD OF 'passbooklaw03.CalSteps'. -/
def calStepsUptoCard : Claim7 := { stood := { row := calStepsUptoRow, standIns := [], harness := (true, "548accf8abb11d429f989d0b33bff334068ce2821bf6daa4e9fef40308674f75"), looks := false }, kinds := [], alts := [], laidByText := true, laidKinds := [.data, .data, .data], laidTests := true, laidLooks := .later }
def CalStepsUptoCardSaid : Prop := Claim7.holds Tryd.pinned (.plain (OpenSpec.upto calStepsSpec)) calStepsUptoCard

/-- THE SECOND FORM's CARD OF 'passbooklaw03.CalCycle'. -/
def calCycleUptoCard : Claim7 := { stood := { row := calCycleUptoRow, standIns := [], harness := (true, "548accf8abb11d429f989d0b33bff334068ce2821bf6daa4e9fef40308674f75"), looks := false }, kinds := [], alts := [], laidByText := true, laidKinds := [.data, .data, .data], laidTests := true, laidLooks := .later }
def CalCycleUptoCardSaid : Prop := Claim7.holds Tryd.pinned (.plain (OpenSpec.upto calCycleSpec)) calCycleUptoCard
end Rows
end Go.Proofs.YtmnnkipfciahmadDoor
