/- money: the contracts of the document's DocTwo, DocCmp, DocDigits. -/
import Derived.Test.YteohncnjjgoemaaGreatDoorBd
import Derived.Deep.DeepCutAuto
namespace Go.Proofs.YteohncnjjgoemaaGreatDoor
open Go.RowKit
set_option linter.unusedVariables false

theorem rdigits_ok (i : Nat) (w : World) (hi : i < 4) : Calls Tryz.prog 34 #[.int .i64 i] w fun e w' => e = .returned (.int .i64 (cdg i : Nat)) ∧ w' = w := by
  match i, hi with
  | 0, _ =>
    show Calls Tryz.prog 34 #[.int .i64 0] w fun e w' => e = .returned (.int .i64 2) ∧ w' = w
    go_enter Tryz.func34, Tryz.ntmps34
    go_wp2_with fail
    go_ret
    exact ⟨rfl, rfl⟩
  | 1, _ =>
    show Calls Tryz.prog 34 #[.int .i64 1] w fun e w' => e = .returned (.int .i64 2) ∧ w' = w
    go_enter Tryz.func34, Tryz.ntmps34
    go_wp2_with fail
    go_ret
    exact ⟨rfl, rfl⟩
  | 2, _ =>
    show Calls Tryz.prog 34 #[.int .i64 2] w fun e w' => e = .returned (.int .i64 0) ∧ w' = w
    go_enter Tryz.func34, Tryz.ntmps34
    go_wp2_with fail
    go_ret
    exact ⟨rfl, rfl⟩
  | 3, _ =>
    show Calls Tryz.prog 34 #[.int .i64 3] w fun e w' => e = .returned (.int .i64 3) ∧ w' = w
    go_enter Tryz.func34, Tryz.ntmps34
    go_wp2_with fail
    go_ret
    exact ⟨rfl, rfl⟩
end Go.Proofs.YteohncnjjgoemaaGreatDoor
