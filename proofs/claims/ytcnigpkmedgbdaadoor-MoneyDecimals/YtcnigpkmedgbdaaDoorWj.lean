/- The contract of the quotient and the rest of two wide numbers (package dec). -/
import Derived.Test.YtcnigpkmedgbdaaDoorWi
import Derived.Test.YtcnigpkmedgbdaaDoorWb
import Derived.Test.YtcnigpkmedgbdaaDoorEx
import Derived.Test.YtcnigpkmedgbdaaDoorMe
namespace Go.Proofs.YtcnigpkmedgbdaaDoor
open Go.RowKit
set_option linter.unusedVariables false
attribute [local go_sem] ext_cell ext_frozen ext_drew ext_of_drew ext_of_drewN ext_setCell ext_lt ext_lt1 ext_lt2 ext_lt3 lt_n2 lt_n3 lt_n4 lt_n5 lt_n6

set_option maxHeartbeats 400000 in
set_option maxRecDepth 100000 in
theorem divided_word (m d : Nat) (a0 a1 a2 a3 a4 b0 b1 b2 b3 b4 : Int) (w : World) (ha : IsW m a0 a1 a2 a3 a4) (hb : IsW d b0 b1 b2 b3 b4) (hm : m < B ^ 5) (hd : 0 < d) (hdB : d < B) :
    Calls Tryd.prog 80 #[.agg #[.int .u64 a0, .int .u64 a1, .int .u64 a2, .int .u64 a3, .int .u64 a4], .agg #[.int .u64 b0, .int .u64 b1, .int .u64 b2, .int .u64 b3, .int .u64 b4]] w
      fun e w' => e = .returned (.tuple #[.agg #[.int .u64 (wd (m / d) 0), .int .u64 (wd (m / d) 1), .int .u64 (wd (m / d) 2), .int .u64 (wd (m / d) 3), .int .u64 (wd (m / d) 4)], .agg #[.int .u64 (wd (m % d) 0), .int .u64 (wd (m % d) 1), .int .u64 (wd (m % d) 2), .int .u64 (wd (m % d) 3), .int .u64 (wd (m % d) 4)]]) ∧ Below w.heap.size w w' := by
  obtain ⟨rfl, rfl, rfl, rfl, rfl⟩ := ha
  obtain ⟨rfl, rfl, rfl, rfl, rfl⟩ := hb
  have hbl : (bl d : Int) ≤ 64 := by have := (bl_le d 64).2 hdB; omega
  have hd5 : d < B ^ 5 := Nat.lt_of_lt_of_le hdB (by decide)
  have HW : Hid (∀ w : World, Calls Tryd.prog 92 #[.agg #[.int .u64 (wd (m) 0), .int .u64 (wd (m) 1), .int .u64 (wd (m) 2), .int .u64 (wd (m) 3), .int .u64 (wd (m) 4)], .int .u64 (wd d 0)] w fun e w' => e = .returned (.tuple #[.agg #[.int .u64 (wd (m / d) 0), .int .u64 (wd (m / d) 1), .int .u64 (wd (m / d) 2), .int .u64 (wd (m / d) 3), .int .u64 (wd (m / d) 4)], .agg #[.int .u64 (wd (m % d) 0), .int .u64 (wd (m % d) 1), .int .u64 (wd (m % d) 2), .int .u64 (wd (m % d) 3), .int .u64 (wd (m % d) 4)]]) ∧ Below w.heap.size w w') := by
    intro w
    rw [wd_low d hdB]
    exact divWord_any m d _ _ _ _ _ _ (IsW.self _) hd hdB hm
  go_enter Tryd.func80, Tryd.ntmps80
  go_wp2_with (first | (go_at_call 84; refine (bits_any d _ _ _ _ _ _ (IsW.self _) hd5).mono ?_; rintro e w1 ⟨rfl, hb1⟩; obtain ⟨x, rfl⟩ := ext_of_below hb1; clear hb1) | (go_at_call 92; refine (HW.out _).mono ?_; rintro e w1 ⟨rfl, hb1⟩; obtain ⟨y, rfl⟩ := ext_of_below hb1; clear hb1))
  refine bodyPost_ret (v := .tuple #[.agg #[.int .u64 (wd (m / d) 0), .int .u64 (wd (m / d) 1), .int .u64 (wd (m / d) 2), .int .u64 (wd (m / d) 3), .int .u64 (wd (m / d) 4)], .agg #[.int .u64 (wd (m % d) 0), .int .u64 (wd (m % d) 1), .int .u64 (wd (m % d) 2), .int .u64 (wd (m % d) 3), .int .u64 (wd (m % d) 4)]]) (by simp [results, Tryd.results80, go_sem]) rfl ⟨rfl, ?_⟩
  repeat (first | exact Below.refl _ _ | refine Below.drew ?_ | refine below_drewN ?_ _ | refine bel_alloc ?_ _ | refine bel_ext ?_ _ | (refine Below.setCell ?_ ?_ _; rotate_left; (simp <;> omega)))
end Go.Proofs.YtcnigpkmedgbdaaDoor
