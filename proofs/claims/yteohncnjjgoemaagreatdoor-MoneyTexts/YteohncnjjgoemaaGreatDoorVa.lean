/- The calls Rescale, Mul, Quo of package dec, of all arguments: what they answer, in true numbers. -/
import Derived.Test.YteohncnjjgoemaaGreatDoorPg
import Derived.Test.YteohncnjjgoemaaGreatDoorM7
namespace Go.Proofs.YteohncnjjgoemaaGreatDoor
open Go.RowKit
set_option linter.unusedVariables false
attribute [local go_sem] ext_cell ext_frozen ext_drew ext_of_drew ext_of_drewN ext_setCell ext_lt ext_lt1 ext_lt2 ext_lt3 lt_n2 lt_n3 lt_n4 lt_n5 lt_n6

/-- the coefficient of a number at another scale -/
def rv (c : Int) (s t mode : Nat) : Int := sv (decide (c < 0)) (rquo (decide (c < 0)) c.natAbs 1 ((t : Int) - s) mode)
/-- of a product -/
def mv (a : Int) (s : Nat) (b : Int) (u t mode : Nat) : Int := sv ((decide (a < 0)) != (decide (b < 0))) (rquo ((decide (a < 0)) != (decide (b < 0))) (a.natAbs * b.natAbs) 1 ((t : Int) - s - u) mode)
/-- of a quotient -/
def qv (a : Int) (s : Nat) (b : Int) (u t mode : Nat) : Int := sv ((decide (a < 0)) != (decide (b < 0))) (rquo ((decide (a < 0)) != (decide (b < 0))) a.natAbs b.natAbs ((t : Int) + u - s) mode)
theorem sv_out {neg : Bool} {n : Nat} (h : ¬ InR (sv neg n)) : M127 ≤ (n : Int) := by
  apply Classical.byContradiction
  intro hn
  exact h (sv_in.2 (by omega))
theorem rescale_yes (c : Int) (s t mode : Nat) (w : World) (ic : InR c) (hs : (s : Int) ≤ 18) (ht : (t : Int) ≤ 18) (hm : (mode : Int) ≤ 6) (hr : InR (rv c s t mode)) :
    Calls Tryz.prog 44 #[.agg #[.int .i64 (dhi c), .int .u64 (dlo c), .int .i64 s], .int .i64 t, .int .i64 mode] w
      fun e w' => e = .returned (.tuple #[.agg #[.int .i64 (dhi (rv c s t mode)), .int .u64 (dlo (rv c s t mode)), .int .i64 t], .int .i64 0]) ∧ Below w.heap.size w w' :=
  rescale_ok c _ _ s t mode w (IsD.self _) ic hs ht hm (sv_in.1 hr)
theorem rescale_no (c : Int) (s t mode : Nat) (w : World) (ic : InR c) (hs : (s : Int) ≤ 18) (ht : (t : Int) ≤ 18) (hm : (mode : Int) ≤ 6) (hr : ¬ InR (rv c s t mode)) :
    Calls Tryz.prog 44 #[.agg #[.int .i64 (dhi c), .int .u64 (dlo c), .int .i64 s], .int .i64 t, .int .i64 mode] w
      fun e w' => e = .returned (.tuple #[.agg #[.int .i64 0, .int .u64 0, .int .i64 0], .int .i64 4]) ∧ Below w.heap.size w w' :=
  rescale_big c _ _ s t mode w (IsD.self _) ic hs ht hm (sv_out hr)
set_option maxHeartbeats 400000 in
set_option maxRecDepth 100000 in
theorem rescale_arg (h l s t mode : Int) (w : World) (hb : (t < 0 ∨ 18 < t) ∨ mode < 0 ∨ 6 < mode) :
    Calls Tryz.prog 44 #[.agg #[.int .i64 h, .int .u64 l, .int .i64 s], .int .i64 t, .int .i64 mode] w
      fun e w' => e = .returned (.tuple #[.agg #[.int .i64 0, .int .u64 0, .int .i64 0], .int .i64 1]) ∧ Below w.heap.size w w' := by
  have H := (show Hid _ from hb)
  clear hb
  go_enter Tryz.func44, Tryz.ntmps44
  go_wp2_with (go_at_call 76; refine (rounding_bad _ _ _ H.out).mono ?_; rintro e w1 ⟨rfl, rfl⟩)
  refine bodyPost_ret (v := .tuple #[.agg #[.int .i64 0, .int .u64 0, .int .i64 0], .int .i64 1]) (by simp [results, Tryz.results44, go_sem]) rfl ⟨rfl, ?_⟩
  repeat (first | exact Below.refl _ _ | refine Below.drew ?_ | refine below_drewN ?_ _ | refine bel_alloc ?_ _ | refine bel_ext ?_ _ | (refine Below.setCell ?_ ?_ _; rotate_left; (simp <;> omega)))
set_option maxHeartbeats 400000 in
set_option maxRecDepth 100000 in
theorem rescale_form (h l s t : Int) (mode : Nat) (w : World) (ht0 : 0 ≤ t) (ht : t ≤ 18) (hm : (mode : Int) ≤ 6) (hb : Bad h l s) :
    Calls Tryz.prog 44 #[.agg #[.int .i64 h, .int .u64 l, .int .i64 s], .int .i64 t, .int .i64 mode] w
      fun e w' => e = .returned (.tuple #[.agg #[.int .i64 0, .int .u64 0, .int .i64 0], .int .i64 3]) ∧ Below w.heap.size w w' := by
  have H : Hid (Bad h l s) := hb
  clear hb
  go_enter Tryz.func44, Tryz.ntmps44
  go_wp2_with (first | (go_at_call 76; refine (rounding_ok _ _ _ ht0 ht hm).mono ?_; rintro e w1 ⟨rfl, rfl⟩) | (go_at_call 62; refine (check_bad _ _ _ _ H.out).mono ?_; rintro e w1 ⟨rfl, hb1⟩; obtain ⟨x, rfl⟩ := ext_of_below hb1; clear hb1))
  refine bodyPost_ret (v := .tuple #[.agg #[.int .i64 0, .int .u64 0, .int .i64 0], .int .i64 3]) (by simp [results, Tryz.results44, go_sem]) rfl ⟨rfl, ?_⟩
  repeat (first | exact Below.refl _ _ | refine Below.drew ?_ | refine below_drewN ?_ _ | refine bel_alloc ?_ _ | refine bel_ext ?_ _ | (refine Below.setCell ?_ ?_ _; rotate_left; (simp <;> omega)))
end Go.Proofs.YteohncnjjgoemaaGreatDoor
