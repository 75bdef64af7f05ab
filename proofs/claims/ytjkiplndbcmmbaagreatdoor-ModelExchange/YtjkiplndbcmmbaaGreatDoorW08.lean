/- texts of the model: Wa Wb -/
import Derived.Test.YtjkiplndbcmmbaaGreatDoorProg
import Derived.Test.YtjkiplndbcmmbaaGreatDoorW00
import Derived.WalkKit
import Derived.WalkSpells
import Derived.WalkLawsBesides
import Derived.BigRegion
import Derived.BigQuiet
import Derived.Deep.QuietTactic
import Derived.Laws.Externs
import Derived.Shelf.Spec.BitsCarry
import Derived.Laws.Bits64b
set_option linter.unusedVariables false
set_option linter.unusedSimpArgs false
set_option maxHeartbeats 16000000
set_option maxRecDepth 100000
namespace Go.Proofs.YtjkiplndbcmmbaaGreatDoor
open Tryz
open Go.RowKit
structure IsW (m : Nat) (a0 a1 a2 a3 a4 : Int) : Prop where
 e0 : a0 = wd m 0
 e1 : a1 = wd m 1
 e2 : a2 = wd m 2
 e3 : a3 = wd m 3
 e4 : a4 = wd m 4
theorem IsW.self (m : Nat) : IsW m (wd m 0) (wd m 1) (wd m 2) (wd m 3) (wd m 4) := ⟨rfl, rfl, rfl, rfl, rfl⟩
theorem ao {a w : World} (h : Below a.heap.size a w) (o : Obj) : Below a.heap.size a (w.alloc o) := h.alloc h.size o
theorem j7 (x y c : Int) (hx : 0 ≤ x) (hy : 0 ≤ y) (hc0 : 0 ≤ c) (hc : c ≤ 1) (w : World) :
  (callFunc 151 #[.int .u64 x, .int .u64 y, .int .u64 c]).run prog w = .ok (.value (.tuple #[.int .u64 ((x + y + c) % 18446744073709551616), .int .u64 ((x + y + c) / 18446744073709551616)])) w := by
 rw [run_callFunc_extern func151 (by kernel_rfl) (by kernel_rfl) (by kernel_rfl) (e := add64Entry) (by kernel_rfl), run_add64 x y c hx hy hc0 hc]
 rfl
theorem dl (x y b : Int) (hx : IsWord x) (hy : IsWord y) (hb0 : 0 ≤ b) (hb : b ≤ 1) (w : World) :
  (callFunc 103 #[.int .u64 x, .int .u64 y, .int .u64 b]).run prog w = .ok (.value (.tuple #[.int .u64 ((x + 18446744073709551616 - y - b) % 18446744073709551616), .int .u64 (if x < y + b then 1 else 0)])) w := by
 have hx0 := hx.lo; have hx1 := hx.hi; have hy0 := hy.lo; have hy1 := hy.hi
 obtain ⟨X, rfl⟩ := Int.eq_ofNat_of_zero_le hx0
 obtain ⟨Y, rfl⟩ := Int.eq_ofNat_of_zero_le hy0
 obtain ⟨b, rfl⟩ := Int.eq_ofNat_of_zero_le hb0
 rw [run_callFunc_extern func103 (by kernel_rfl) (by kernel_rfl) (by kernel_rfl) (e := sub64Entry) (by kernel_rfl), run_sub64 X Y b (by omega)]
 simp only [Result.andThen]
 have e1 : (((X + 18446744073709551616 - Y - b) % 18446744073709551616 : Nat) : Int) = ((X : Int) + 18446744073709551616 - (Y : Int) - (b : Int)) % 18446744073709551616 := by omega
 have e2 : ((if X < Y + b then 1 else 0 : Nat) : Int) = if (X : Int) < (Y : Int) + (b : Int) then 1 else 0 := by
  by_cases c : X < Y + b
  ·rw [if_pos c, if_pos (by omega)]; rfl
  ·rw [if_neg c, if_neg (by omega)]; rfl
 rw [e1, e2]
theorem bp (m n : Nat) (a0 a1 a2 a3 a4 b0 b1 b2 b3 b4 : Int) (w : World) (ha : IsW m a0 a1 a2 a3 a4) (hb : IsW n b0 b1 b2 b3 b4) :
  Calls prog 102 #[.agg #[.int .u64 a0, .int .u64 a1, .int .u64 a2, .int .u64 a3, .int .u64 a4], .agg #[.int .u64 b0, .int .u64 b1, .int .u64 b2, .int .u64 b3, .int .u64 b4]] w
   fun e w' => e = .returned (.agg #[.int .u64 (wd (m + n) 0), .int .u64 (wd (m + n) 1), .int .u64 (wd (m + n) 2), .int .u64 (wd (m + n) 3), .int .u64 (wd (m + n) 4)]) ∧ Below w.heap.size w w' := by
 obtain ⟨rfl, rfl, rfl, rfl, rfl⟩ := ha
 obtain ⟨rfl, rfl, rfl, rfl, rfl⟩ := hb
 have hr : ∀ i w, (callFunc 151 #[.int .u64 (wd m i), .int .u64 (wd n i), .int .u64 (car m n i)]).run prog w = .ok (.value (.tuple #[.int .u64 (wd (m + n) i), .int .u64 (car m n (i + 1))])) w := by
  intro i w
  rw [j7 _ _ _ (aS m i).lo (aS n i).lo (pL m n i).1 (pL m n i).2, tW, tU]
 have hr0 := hr 0
 rw [pM] at hr0
 have hr1 := hr 1
 have hr2 := hr 2
 have hr3 := hr 3
 have hr4 := hr 4
 clear hr
 go_enter func102, ntmps102
 go_wp2
 refine wp_loop_rounds 6 ?_
 iterate 5
  rw [rounds_succ]
  go_wp2
  go_region
  go_wp2
 rw [rounds_succ]
 go_wp2
 refine bodyPost_ret (v := .agg _) (by simp [results, results102, go_sem]) rfl ⟨rfl, ?_⟩
 repeat (first | exact Below.refl _ _ | refine Below.drew ?_ | refine below_drewN ?_ _ | refine ao ?_ _ | refine aA ?_ _ | (refine Below.setCell ?_ ?_ _; rotate_left; (simp <;> omega)))
theorem fS (m n : Nat) (a0 a1 a2 a3 a4 b0 b1 b2 b3 b4 : Int) (w : World) (ha : IsW m a0 a1 a2 a3 a4) (hb : IsW n b0 b1 b2 b3 b4) (hmn : n ≤ m) :
  Calls prog 145 #[.agg #[.int .u64 a0, .int .u64 a1, .int .u64 a2, .int .u64 a3, .int .u64 a4], .agg #[.int .u64 b0, .int .u64 b1, .int .u64 b2, .int .u64 b3, .int .u64 b4]] w
   fun e w' => e = .returned (.agg #[.int .u64 (wd (m - n) 0), .int .u64 (wd (m - n) 1), .int .u64 (wd (m - n) 2), .int .u64 (wd (m - n) 3), .int .u64 (wd (m - n) 4)]) ∧ Below w.heap.size w w' := by
 obtain ⟨rfl, rfl, rfl, rfl, rfl⟩ := ha
 obtain ⟨rfl, rfl, rfl, rfl, rfl⟩ := hb
 have hr : ∀ i w, (callFunc 103 #[.int .u64 (wd m i), .int .u64 (wd n i), .int .u64 (bor m n i)]).run prog w = .ok (.value (.tuple #[.int .u64 (wd (m - n) i), .int .u64 (bor m n (i + 1))])) w := by
  intro i w
  rw [dl _ _ _ (aS m i) (aS n i) (pI m n i).1 (pI m n i).2, qD _ _ _ hmn, qC _ _ _ hmn]
 have hr0 := hr 0
 rw [pJ] at hr0
 have hr1 := hr 1
 have hr2 := hr 2
 have hr3 := hr 3
 have hr4 := hr 4
 clear hr hmn
 go_enter func145, ntmps145
 go_wp2
 refine wp_loop_rounds 6 ?_
 iterate 5
  rw [rounds_succ]
  go_wp2
  go_region
  go_wp2
 rw [rounds_succ]
 go_wp2
 refine bodyPost_ret (v := .agg _) (by simp [results, results145, go_sem]) rfl ⟨rfl, ?_⟩
 repeat (first | exact Below.refl _ _ | refine Below.drew ?_ | refine below_drewN ?_ _ | refine ao ?_ _ | refine aA ?_ _ | (refine Below.setCell ?_ ?_ _; rotate_left; (simp <;> omega)))
theorem sF (m n : Nat) (w : World) (h4 : (wd m 4 != wd n 4) = true) :
  Calls prog 144 #[.agg #[.int .u64 (wd (m) 0), .int .u64 (wd (m) 1), .int .u64 (wd (m) 2), .int .u64 (wd (m) 3), .int .u64 (wd (m) 4)], .agg #[.int .u64 (wd (n) 0), .int .u64 (wd (n) 1), .int .u64 (wd (n) 2), .int .u64 (wd (n) 3), .int .u64 (wd (n) 4)]] w
   fun e w' => e = .returned (.bool (decide (wd m 4 < wd n 4))) ∧ Below w.heap.size w w' := by
 go_enter func144, ntmps144
 go_wp2
 refine wp_loop_rounds 6 ?_
 rw [rounds_succ]
 go_wp2
 go_quiet (fail)
 go_wp2
 go_quiet (fail)
 go_wp2
 go_ret
 refine ⟨rfl, ?_⟩
 repeat (first | exact Below.refl _ _ | refine Below.drew ?_ | refine below_drewN ?_ _ | refine ao ?_ _ | refine aA ?_ _ | (refine Below.setCell ?_ ?_ _; rotate_left; (simp <;> omega)))
theorem sE (m n : Nat) (w : World) (h4 : (wd m 4 != wd n 4) = false) (h3 : (wd m 3 != wd n 3) = true) :
  Calls prog 144 #[.agg #[.int .u64 (wd (m) 0), .int .u64 (wd (m) 1), .int .u64 (wd (m) 2), .int .u64 (wd (m) 3), .int .u64 (wd (m) 4)], .agg #[.int .u64 (wd (n) 0), .int .u64 (wd (n) 1), .int .u64 (wd (n) 2), .int .u64 (wd (n) 3), .int .u64 (wd (n) 4)]] w
   fun e w' => e = .returned (.bool (decide (wd m 3 < wd n 3))) ∧ Below w.heap.size w w' := by
 go_enter func144, ntmps144
 go_wp2
 refine wp_loop_rounds 6 ?_
 iterate 1
  rw [rounds_succ]
  go_wp2
  go_quiet (fail)
  go_wp2
 rw [rounds_succ]
 go_wp2
 go_quiet (fail)
 go_wp2
 go_quiet (fail)
 go_wp2
 go_ret
 refine ⟨rfl, ?_⟩
 repeat (first | exact Below.refl _ _ | refine Below.drew ?_ | refine below_drewN ?_ _ | refine ao ?_ _ | refine aA ?_ _ | (refine Below.setCell ?_ ?_ _; rotate_left; (simp <;> omega)))
theorem sD (m n : Nat) (w : World) (h4 : (wd m 4 != wd n 4) = false) (h3 : (wd m 3 != wd n 3) = false) (h2 : (wd m 2 != wd n 2) = true) :
  Calls prog 144 #[.agg #[.int .u64 (wd (m) 0), .int .u64 (wd (m) 1), .int .u64 (wd (m) 2), .int .u64 (wd (m) 3), .int .u64 (wd (m) 4)], .agg #[.int .u64 (wd (n) 0), .int .u64 (wd (n) 1), .int .u64 (wd (n) 2), .int .u64 (wd (n) 3), .int .u64 (wd (n) 4)]] w
   fun e w' => e = .returned (.bool (decide (wd m 2 < wd n 2))) ∧ Below w.heap.size w w' := by
 go_enter func144, ntmps144
 go_wp2
 refine wp_loop_rounds 6 ?_
 iterate 2
  rw [rounds_succ]
  go_wp2
  go_quiet (fail)
  go_wp2
 rw [rounds_succ]
 go_wp2
 go_quiet (fail)
 go_wp2
 go_quiet (fail)
 go_wp2
 go_ret
 refine ⟨rfl, ?_⟩
 repeat (first | exact Below.refl _ _ | refine Below.drew ?_ | refine below_drewN ?_ _ | refine ao ?_ _ | refine aA ?_ _ | (refine Below.setCell ?_ ?_ _; rotate_left; (simp <;> omega)))
theorem sC (m n : Nat) (w : World) (h4 : (wd m 4 != wd n 4) = false) (h3 : (wd m 3 != wd n 3) = false) (h2 : (wd m 2 != wd n 2) = false) (h1 : (wd m 1 != wd n 1) = true) :
  Calls prog 144 #[.agg #[.int .u64 (wd (m) 0), .int .u64 (wd (m) 1), .int .u64 (wd (m) 2), .int .u64 (wd (m) 3), .int .u64 (wd (m) 4)], .agg #[.int .u64 (wd (n) 0), .int .u64 (wd (n) 1), .int .u64 (wd (n) 2), .int .u64 (wd (n) 3), .int .u64 (wd (n) 4)]] w
   fun e w' => e = .returned (.bool (decide (wd m 1 < wd n 1))) ∧ Below w.heap.size w w' := by
 go_enter func144, ntmps144
 go_wp2
 refine wp_loop_rounds 6 ?_
 iterate 3
  rw [rounds_succ]
  go_wp2
  go_quiet (fail)
  go_wp2
 rw [rounds_succ]
 go_wp2
 go_quiet (fail)
 go_wp2
 go_quiet (fail)
 go_wp2
 go_ret
 refine ⟨rfl, ?_⟩
 repeat (first | exact Below.refl _ _ | refine Below.drew ?_ | refine below_drewN ?_ _ | refine ao ?_ _ | refine aA ?_ _ | (refine Below.setCell ?_ ?_ _; rotate_left; (simp <;> omega)))
theorem sB (m n : Nat) (w : World) (h4 : (wd m 4 != wd n 4) = false) (h3 : (wd m 3 != wd n 3) = false) (h2 : (wd m 2 != wd n 2) = false) (h1 : (wd m 1 != wd n 1) = false) (h0 : (wd m 0 != wd n 0) = true) :
  Calls prog 144 #[.agg #[.int .u64 (wd (m) 0), .int .u64 (wd (m) 1), .int .u64 (wd (m) 2), .int .u64 (wd (m) 3), .int .u64 (wd (m) 4)], .agg #[.int .u64 (wd (n) 0), .int .u64 (wd (n) 1), .int .u64 (wd (n) 2), .int .u64 (wd (n) 3), .int .u64 (wd (n) 4)]] w
   fun e w' => e = .returned (.bool (decide (wd m 0 < wd n 0))) ∧ Below w.heap.size w w' := by
 go_enter func144, ntmps144
 go_wp2
 refine wp_loop_rounds 6 ?_
 iterate 4
  rw [rounds_succ]
  go_wp2
  go_quiet (fail)
  go_wp2
 rw [rounds_succ]
 go_wp2
 go_quiet (fail)
 go_wp2
 go_quiet (fail)
 go_wp2
 go_ret
 refine ⟨rfl, ?_⟩
 repeat (first | exact Below.refl _ _ | refine Below.drew ?_ | refine below_drewN ?_ _ | refine ao ?_ _ | refine aA ?_ _ | (refine Below.setCell ?_ ?_ _; rotate_left; (simp <;> omega)))
theorem pC (m n : Nat) (w : World) (h4 : (wd m 4 != wd n 4) = false) (h3 : (wd m 3 != wd n 3) = false) (h2 : (wd m 2 != wd n 2) = false) (h1 : (wd m 1 != wd n 1) = false) (h0 : (wd m 0 != wd n 0) = false) :
  Calls prog 144 #[.agg #[.int .u64 (wd (m) 0), .int .u64 (wd (m) 1), .int .u64 (wd (m) 2), .int .u64 (wd (m) 3), .int .u64 (wd (m) 4)], .agg #[.int .u64 (wd (n) 0), .int .u64 (wd (n) 1), .int .u64 (wd (n) 2), .int .u64 (wd (n) 3), .int .u64 (wd (n) 4)]] w
   fun e w' => e = .returned (.bool false) ∧ Below w.heap.size w w' := by
 go_enter func144, ntmps144
 go_wp2
 refine wp_loop_rounds 6 ?_
 iterate 5
  rw [rounds_succ]
  go_wp2
  go_quiet (fail)
  go_wp2
 rw [rounds_succ]
 go_wp2
 go_ret
 refine ⟨rfl, ?_⟩
 repeat (first | exact Below.refl _ _ | refine Below.drew ?_ | refine below_drewN ?_ _ | refine ao ?_ _ | refine aA ?_ _ | (refine Below.setCell ?_ ?_ _; rotate_left; (simp <;> omega)))
theorem dh {m n i : Nat} (h : m / B ^ (i + 1) = n / B ^ (i + 1)) (hw : (wd m i != wd n i) = true) : decide (wd m i < wd n i) = decide (m < n) := by
 have hne : wn m i ≠ wn n i := by
  intro e; rw [bne_iff_ne] at hw; apply hw; rw [bH, bH, e]
 rw [decide_eq_decide, bH, bH]
 constructor
 ·intro c; exact i6 h (by omega)
 ·intro c
  rcases Nat.lt_or_ge (wn m i) (wn n i) with l | l
  ·omega
  ·have := i6 h.symm (show wn n i < wn m i by omega); omega
theorem dp {m n i : Nat} (hw : (wd m i != wd n i) = false) : wn m i = wn n i := by
 have : wd m i = wd n i := by simpa using hw
 rw [bH, bH] at this; omega
theorem kD {m n : Nat} (hm : m < B ^ 5) (hn : n < B ^ 5) : m / B ^ 5 = n / B ^ 5 := by rw [Nat.div_eq_of_lt hm, Nat.div_eq_of_lt hn]
theorem bL (m n : Nat) (a0 a1 a2 a3 a4 b0 b1 b2 b3 b4 : Int) (w : World) (ha : IsW m a0 a1 a2 a3 a4) (hb : IsW n b0 b1 b2 b3 b4) (hm : m < B ^ 5) (hn : n < B ^ 5) :
  Calls prog 144 #[.agg #[.int .u64 a0, .int .u64 a1, .int .u64 a2, .int .u64 a3, .int .u64 a4], .agg #[.int .u64 b0, .int .u64 b1, .int .u64 b2, .int .u64 b3, .int .u64 b4]] w
   fun e w' => e = .returned (.bool (decide (m < n))) ∧ Below w.heap.size w w' := by
 obtain ⟨rfl, rfl, rfl, rfl, rfl⟩ := ha
 obtain ⟨rfl, rfl, rfl, rfl, rfl⟩ := hb
 have t5 := kD hm hn
 cases h4 : (wd m 4 != wd n 4)
 ·have t4 := bj t5 (dp h4)
  cases h3 : (wd m 3 != wd n 3)
  ·have t3 := bj t4 (dp h3)
   cases h2 : (wd m 2 != wd n 2)
   ·have t2 := bj t3 (dp h2)
    cases h1 : (wd m 1 != wd n 1)
    ·have t1 := bj t2 (dp h1)
     cases h0 : (wd m 0 != wd n 0)
     ·have t0 := bj t1 (dp h0)
      simp only [Nat.pow_zero, Nat.div_one] at t0
      rw [show decide (m < n) = false by rw [t0]; simp]
      exact pC m n w h4 h3 h2 h1 h0
     ·rw [← dh t1 h0]; exact sB m n w h4 h3 h2 h1 h0
    ·rw [← dh t2 h1]; exact sC m n w h4 h3 h2 h1
   ·rw [← dh t3 h2]; exact sD m n w h4 h3 h2
  ·rw [← dh t4 h3]; exact sE m n w h4 h3
 ·rw [← dh t5 h4]; exact sF m n w h4
end Go.Proofs.YtjkiplndbcmmbaaGreatDoor