/- money: the contract of Of. -/
import Derived.Test.YtbgglghapjfdeaaDoorBb
namespace Go.Proofs.YtbgglghapjfdeaaDoor
open Go.RowKit
set_option linter.unusedVariables false
attribute [local go_sem] ext_cell ext_frozen ext_drew ext_of_drew ext_of_drewN ext_setCell ext_lt ext_lt1 ext_lt2 ext_lt3 lt_n2 lt_n3 lt_n4 lt_n5 lt_n6

theorem cut0_zero (c : Int) : cut0 c 0 = c := by
  unfold cut0
  rw [Nat.pow_zero, Nat.div_one, sv_abs]
end Go.Proofs.YtbgglghapjfdeaaDoor
