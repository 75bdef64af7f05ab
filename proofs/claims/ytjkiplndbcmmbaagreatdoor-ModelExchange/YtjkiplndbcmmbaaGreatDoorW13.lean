/- texts of the model: Cc Ci -/
import Derived.Test.YtjkiplndbcmmbaaGreatDoorProg
import Derived.Test.YtjkiplndbcmmbaaGreatDoorW01
import Derived.WalkSpells
import Derived.WalkLawsBesides
import Derived.Handy
set_option linter.unusedVariables false
set_option linter.unusedSimpArgs false
set_option maxHeartbeats 16000000
set_option maxRecDepth 100000
namespace Go.Proofs.YtjkiplndbcmmbaaGreatDoor
open Tryz
open Go.RowKit
theorem ol (y : Int) (w : World) (h1 : 1 ≤ y) (h2 : y ≤ 3652059) :
  Calls prog 77 #[.int .i64 y] w fun e w' => e = .returned (.bool true) ∧ w' = w := by
 go_enter func77, ntmps77
 go_wp2
 go_ret
 exact ⟨rfl, rfl⟩
theorem mB (n : Int) (w : World) (h1 : 1 ≤ n) (h2 : n ≤ 3652059) :
  Calls prog 78 #[.int .i64 n] w fun e w' => e = .returned (.int .i64 ((n - 1) % 7)) ∧ w' = w := by
 go_enter func78, ntmps78
 go_wp2_with fail
 go_ret
 exact ⟨rfl, rfl⟩
theorem lF (n : Int) (w : World) (h1 : 1 ≤ n) (h2 : n ≤ 3652059) :
  Calls prog 49 #[.int .i64 n] w fun e w' => e = .returned (.tuple #[.int .i64 ((n - 1) % 7), .int .i64 0]) ∧ w' = w := by
 go_enter func49, ntmps49
 go_wp2_with (first | (go_at_call 77; refine (ol _ _ h1 h2).mono ?_; rintro e w1 ⟨rfl, rfl⟩) | (go_at_call 78; refine (mB n _ h1 h2).mono ?_; rintro e w1 ⟨rfl, rfl⟩))
 refine bodyPost_ret (v := .tuple #[.int .i64 ((n - 1) % 7), .int .i64 0]) (by simp [results, results49, go_sem]) rfl ⟨rfl, rfl⟩
end Go.Proofs.YtjkiplndbcmmbaaGreatDoor