/- The call Int of package dec, of all decimals; Of out of scale. -/
import Derived.Test.YtbgglghapjfdeaaDoorVa
import Derived.Test.YtbgglghapjfdeaaDoorQa
namespace Go.Proofs.YtbgglghapjfdeaaDoor
open Go.RowKit
set_option linter.unusedVariables false
attribute [local go_sem] ext_cell ext_frozen ext_drew ext_of_drew ext_of_drewN ext_setCell ext_lt ext_lt1 ext_lt2 ext_lt3 lt_n2 lt_n3 lt_n4 lt_n5 lt_n6

/-- the number without what stands behind the point -/
def cut0 (c : Int) (s : Nat) : Int := sv (decide (c < 0)) (c.natAbs / 10 ^ s)
theorem rv_cut (c : Int) (s : Nat) : rv c s 0 0 = cut0 c s := by
  unfold rv cut0 rquo rnum rden
  rw [show (((0 : Nat) : Int) - s).toNat = 0 by omega, show (-(((0 : Nat) : Int) - s)).toNat = s by omega, Nat.pow_zero, Nat.mul_one, Nat.one_mul]
  have : ∀ q r d, away (decide (c < 0)) q r d 0 = false := by intro q r d; unfold away; split <;> rfl
  rw [this]
  rfl
theorem cut0_abs (c : Int) (s : Nat) : (cut0 c s).natAbs ≤ c.natAbs := by
  have h := Nat.div_le_self c.natAbs (10 ^ s)
  unfold cut0 sv
  generalize c.natAbs / 10 ^ s = k at *
  split <;> omega
theorem cut0_in {c : Int} (s : Nat) (ic : InR c) : InR (cut0 c s) := by
  have h := cut0_abs c s
  have h1 := ic.lo
  have h2 := ic.hi
  exact ⟨by omega, by omega⟩
theorem int_words (q : Int) (h1 : -9223372036854775808 ≤ q) (h2 : q ≤ 9223372036854775807) : wrap64 (dlo q) = q ∧ dhi q = q / 9223372036854775808 := by
  unfold wrap64 dlo dhi; omega
theorem int_far (q : Int) (h : ¬ (-9223372036854775808 ≤ q ∧ q ≤ 9223372036854775807)) : ¬ dhi q = wrap64 (dlo q) / 9223372036854775808 := by
  unfold wrap64 dlo dhi; omega
theorem sgn_ne {x : Int} (h : ¬ x = 0) : (sgn x != 0) = true := by
  rw [bne_iff_ne]
  exact fun e => h ((sgn_zero x).1 e)
set_option maxHeartbeats 1000000 in
set_option maxRecDepth 100000 in
theorem of_arg (n s : Int) (w : World) (hs : s < 0 ∨ 18 < s) :
    Calls Tryd.prog 36 #[.int .i64 n, .int .i64 s] w fun e w' => e = .returned (.tuple #[.agg #[.int .i64 0, .int .u64 0, .int .i64 0], .int .i64 1]) ∧ Below w.heap.size w w' := by
  have H := (show Hid _ from hs)
  clear hs
  go_enter Tryd.func36, Tryd.ntmps36
  go_wp2_with (go_at_call 46; refine (isScale_no _ _ H.out).mono ?_; rintro e w1 ⟨rfl, rfl⟩)
  refine bodyPost_ret (v := .tuple #[.agg #[.int .i64 0, .int .u64 0, .int .i64 0], .int .i64 1]) (by simp [results, Tryd.results36, go_sem]) rfl ⟨rfl, ?_⟩
  repeat (first | exact Below.refl _ _ | refine Below.drew ?_ | refine below_drewN ?_ _ | refine bel_alloc ?_ _ | refine bel_ext ?_ _ | (refine Below.setCell ?_ ?_ _; rotate_left; (simp <;> omega)))
end Go.Proofs.YtbgglghapjfdeaaDoor
