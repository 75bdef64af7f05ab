/- The contracts of the wide numbers' sums, differences, order, bits, shifts and products by a word (package dec), and of the library's functions beneath them. -/
import Derived.Test.YtlgcbbnnldlooaaDoorProg
import Derived.Test.YtlgcbbnnldlooaaDoorMa
import Derived.WalkKit
import Derived.WalkSpells
import Derived.WalkLawsBesides
import Derived.BigRegion
import Derived.BigQuiet
import Derived.Deep.QuietTactic
import Derived.Laws.Externs
import Derived.Shelf.Spec.BitsCarry
import Derived.Laws.Bits64b
namespace Go.Proofs.YtlgcbbnnldlooaaDoor
open Go.RowKit

/-- The five words of a wide number. -/
structure IsW (m : Nat) (a0 a1 a2 a3 a4 : Int) : Prop where
  e0 : a0 = wd m 0
  e1 : a1 = wd m 1
  e2 : a2 = wd m 2
  e3 : a3 = wd m 3
  e4 : a4 = wd m 4
theorem IsW.self (m : Nat) : IsW m (wd m 0) (wd m 1) (wd m 2) (wd m 3) (wd m 4) := ⟨rfl, rfl, rfl, rfl, rfl⟩

theorem bel_alloc {a w : World} (h : Below a.heap.size a w) (o : Obj) : Below a.heap.size a (w.alloc o) := h.alloc h.size o

/-! the library's words -/
theorem run_Add64 (x y c : Int) (hx : 0 ≤ x) (hy : 0 ≤ y) (hc0 : 0 ≤ c) (hc : c ≤ 1) (w : World) :
    (callFunc 80 #[.int .u64 x, .int .u64 y, .int .u64 c]).run Tryd.prog w = .ok (.value (.tuple #[.int .u64 ((x + y + c) % 18446744073709551616), .int .u64 ((x + y + c) / 18446744073709551616)])) w := by
  rw [run_callFunc_extern Tryd.func80 (by kernel_rfl) (by kernel_rfl) (by kernel_rfl) (e := add64Entry) (by kernel_rfl), run_add64 x y c hx hy hc0 hc]
  rfl

theorem run_Sub64 (x y b : Int) (hx : IsWord x) (hy : IsWord y) (hb0 : 0 ≤ b) (hb : b ≤ 1) (w : World) :
    (callFunc 63 #[.int .u64 x, .int .u64 y, .int .u64 b]).run Tryd.prog w = .ok (.value (.tuple #[.int .u64 ((x + 18446744073709551616 - y - b) % 18446744073709551616), .int .u64 (if x < y + b then 1 else 0)])) w := by
  have hx0 := hx.lo; have hx1 := hx.hi; have hy0 := hy.lo; have hy1 := hy.hi
  obtain ⟨X, rfl⟩ := Int.eq_ofNat_of_zero_le hx0
  obtain ⟨Y, rfl⟩ := Int.eq_ofNat_of_zero_le hy0
  obtain ⟨b, rfl⟩ := Int.eq_ofNat_of_zero_le hb0
  rw [run_callFunc_extern Tryd.func63 (by kernel_rfl) (by kernel_rfl) (by kernel_rfl) (e := sub64Entry) (by kernel_rfl), run_sub64 X Y b (by omega)]
  simp only [Result.andThen]
  have e1 : (((X + 18446744073709551616 - Y - b) % 18446744073709551616 : Nat) : Int) = ((X : Int) + 18446744073709551616 - (Y : Int) - (b : Int)) % 18446744073709551616 := by omega
  have e2 : ((if X < Y + b then 1 else 0 : Nat) : Int) = if (X : Int) < (Y : Int) + (b : Int) then 1 else 0 := by
    by_cases c : X < Y + b
    · rw [if_pos c, if_pos (by omega)]; rfl
    · rw [if_neg c, if_neg (by omega)]; rfl
  rw [e1, e2]

/-! plus -/
set_option maxHeartbeats 400000 in
set_option maxRecDepth 100000 in
theorem plus_any (m n : Nat) (a0 a1 a2 a3 a4 b0 b1 b2 b3 b4 : Int) (w : World) (ha : IsW m a0 a1 a2 a3 a4) (hb : IsW n b0 b1 b2 b3 b4) :
    Calls Tryd.prog 74 #[.agg #[.int .u64 a0, .int .u64 a1, .int .u64 a2, .int .u64 a3, .int .u64 a4], .agg #[.int .u64 b0, .int .u64 b1, .int .u64 b2, .int .u64 b3, .int .u64 b4]] w
      fun e w' => e = .returned (.agg #[.int .u64 (wd (m + n) 0), .int .u64 (wd (m + n) 1), .int .u64 (wd (m + n) 2), .int .u64 (wd (m + n) 3), .int .u64 (wd (m + n) 4)]) ∧ Below w.heap.size w w' := by
  obtain ⟨rfl, rfl, rfl, rfl, rfl⟩ := ha
  obtain ⟨rfl, rfl, rfl, rfl, rfl⟩ := hb
  have hr : ∀ i w, (callFunc 80 #[.int .u64 (wd m i), .int .u64 (wd n i), .int .u64 (car m n i)]).run Tryd.prog w = .ok (.value (.tuple #[.int .u64 (wd (m + n) i), .int .u64 (car m n (i + 1))])) w := by
    intro i w
    rw [run_Add64 _ _ _ (wd_isWord m i).lo (wd_isWord n i).lo (car_bd m n i).1 (car_bd m n i).2, plus_lo, plus_hi]
  have hr0 := hr 0
  rw [car_zero] at hr0
  have hr1 := hr 1
  have hr2 := hr 2
  have hr3 := hr 3
  have hr4 := hr 4
  clear hr
  go_enter Tryd.func74, Tryd.ntmps74
  go_wp2
  refine wp_loop_rounds 6 ?_
  iterate 5
    rw [rounds_succ]
    go_wp2
    go_region
    go_wp2
  rw [rounds_succ]
  go_wp2
  refine bodyPost_ret (v := .agg _) (by simp [results, Tryd.results74, go_sem]) rfl ⟨rfl, ?_⟩
  repeat (first | exact Below.refl _ _ | refine Below.drew ?_ | refine below_drewN ?_ _ | refine bel_alloc ?_ _ | refine bel_ext ?_ _ | (refine Below.setCell ?_ ?_ _; rotate_left; (simp <;> omega)))

/-! minus -/
set_option maxHeartbeats 400000 in
set_option maxRecDepth 100000 in
theorem minus_any (m n : Nat) (a0 a1 a2 a3 a4 b0 b1 b2 b3 b4 : Int) (w : World) (ha : IsW m a0 a1 a2 a3 a4) (hb : IsW n b0 b1 b2 b3 b4) (hmn : n ≤ m) :
    Calls Tryd.prog 76 #[.agg #[.int .u64 a0, .int .u64 a1, .int .u64 a2, .int .u64 a3, .int .u64 a4], .agg #[.int .u64 b0, .int .u64 b1, .int .u64 b2, .int .u64 b3, .int .u64 b4]] w
      fun e w' => e = .returned (.agg #[.int .u64 (wd (m - n) 0), .int .u64 (wd (m - n) 1), .int .u64 (wd (m - n) 2), .int .u64 (wd (m - n) 3), .int .u64 (wd (m - n) 4)]) ∧ Below w.heap.size w w' := by
  obtain ⟨rfl, rfl, rfl, rfl, rfl⟩ := ha
  obtain ⟨rfl, rfl, rfl, rfl, rfl⟩ := hb
  have hr : ∀ i w, (callFunc 63 #[.int .u64 (wd m i), .int .u64 (wd n i), .int .u64 (bor m n i)]).run Tryd.prog w = .ok (.value (.tuple #[.int .u64 (wd (m - n) i), .int .u64 (bor m n (i + 1))])) w := by
    intro i w
    rw [run_Sub64 _ _ _ (wd_isWord m i) (wd_isWord n i) (bor_bd m n i).1 (bor_bd m n i).2, minus_lo _ _ _ hmn, minus_hi _ _ _ hmn]
  have hr0 := hr 0
  rw [bor_zero] at hr0
  have hr1 := hr 1
  have hr2 := hr 2
  have hr3 := hr 3
  have hr4 := hr 4
  clear hr hmn
  go_enter Tryd.func76, Tryd.ntmps76
  go_wp2
  refine wp_loop_rounds 6 ?_
  iterate 5
    rw [rounds_succ]
    go_wp2
    go_region
    go_wp2
  rw [rounds_succ]
  go_wp2
  refine bodyPost_ret (v := .agg _) (by simp [results, Tryd.results76, go_sem]) rfl ⟨rfl, ?_⟩
  repeat (first | exact Below.refl _ _ | refine Below.drew ?_ | refine below_drewN ?_ _ | refine bel_alloc ?_ _ | refine bel_ext ?_ _ | (refine Below.setCell ?_ ?_ _; rotate_left; (simp <;> omega)))
end Go.Proofs.YtlgcbbnnldlooaaDoor
