/- The contracts of the wide numbers' order, bits, shifts and products by a word (package dec). -/
import Derived.Test.YtlgcbbnnldlooaaDoorWa
namespace Go.Proofs.YtlgcbbnnldlooaaDoor
open Go.RowKit

set_option maxHeartbeats 400000 in
set_option maxRecDepth 100000 in
theorem below_4 (m n : Nat) (w : World) (h4 : (wd m 4 != wd n 4) = true) :
    Calls Tryd.prog 75 #[.agg #[.int .u64 (wd (m) 0), .int .u64 (wd (m) 1), .int .u64 (wd (m) 2), .int .u64 (wd (m) 3), .int .u64 (wd (m) 4)], .agg #[.int .u64 (wd (n) 0), .int .u64 (wd (n) 1), .int .u64 (wd (n) 2), .int .u64 (wd (n) 3), .int .u64 (wd (n) 4)]] w
      fun e w' => e = .returned (.bool (decide (wd m 4 < wd n 4))) ∧ Below w.heap.size w w' := by
  go_enter Tryd.func75, Tryd.ntmps75
  go_wp2
  refine wp_loop_rounds 6 ?_
  rw [rounds_succ]
  go_wp2
  go_quiet (fail)
  go_wp2
  go_quiet (fail)
  go_wp2
  go_ret
  refine ⟨rfl, ?_⟩
  repeat (first | exact Below.refl _ _ | refine Below.drew ?_ | refine below_drewN ?_ _ | refine bel_alloc ?_ _ | refine bel_ext ?_ _ | (refine Below.setCell ?_ ?_ _; rotate_left; (simp <;> omega)))

set_option maxHeartbeats 400000 in
set_option maxRecDepth 100000 in
theorem below_3 (m n : Nat) (w : World) (h4 : (wd m 4 != wd n 4) = false) (h3 : (wd m 3 != wd n 3) = true) :
    Calls Tryd.prog 75 #[.agg #[.int .u64 (wd (m) 0), .int .u64 (wd (m) 1), .int .u64 (wd (m) 2), .int .u64 (wd (m) 3), .int .u64 (wd (m) 4)], .agg #[.int .u64 (wd (n) 0), .int .u64 (wd (n) 1), .int .u64 (wd (n) 2), .int .u64 (wd (n) 3), .int .u64 (wd (n) 4)]] w
      fun e w' => e = .returned (.bool (decide (wd m 3 < wd n 3))) ∧ Below w.heap.size w w' := by
  go_enter Tryd.func75, Tryd.ntmps75
  go_wp2
  refine wp_loop_rounds 6 ?_
  iterate 1
    rw [rounds_succ]
    go_wp2
    go_quiet (fail)
    go_wp2
  rw [rounds_succ]
  go_wp2
  go_quiet (fail)
  go_wp2
  go_quiet (fail)
  go_wp2
  go_ret
  refine ⟨rfl, ?_⟩
  repeat (first | exact Below.refl _ _ | refine Below.drew ?_ | refine below_drewN ?_ _ | refine bel_alloc ?_ _ | refine bel_ext ?_ _ | (refine Below.setCell ?_ ?_ _; rotate_left; (simp <;> omega)))

set_option maxHeartbeats 400000 in
set_option maxRecDepth 100000 in
theorem below_2 (m n : Nat) (w : World) (h4 : (wd m 4 != wd n 4) = false) (h3 : (wd m 3 != wd n 3) = false) (h2 : (wd m 2 != wd n 2) = true) :
    Calls Tryd.prog 75 #[.agg #[.int .u64 (wd (m) 0), .int .u64 (wd (m) 1), .int .u64 (wd (m) 2), .int .u64 (wd (m) 3), .int .u64 (wd (m) 4)], .agg #[.int .u64 (wd (n) 0), .int .u64 (wd (n) 1), .int .u64 (wd (n) 2), .int .u64 (wd (n) 3), .int .u64 (wd (n) 4)]] w
      fun e w' => e = .returned (.bool (decide (wd m 2 < wd n 2))) ∧ Below w.heap.size w w' := by
  go_enter Tryd.func75, Tryd.ntmps75
  go_wp2
  refine wp_loop_rounds 6 ?_
  iterate 2
    rw [rounds_succ]
    go_wp2
    go_quiet (fail)
    go_wp2
  rw [rounds_succ]
  go_wp2
  go_quiet (fail)
  go_wp2
  go_quiet (fail)
  go_wp2
  go_ret
  refine ⟨rfl, ?_⟩
  repeat (first | exact Below.refl _ _ | refine Below.drew ?_ | refine below_drewN ?_ _ | refine bel_alloc ?_ _ | refine bel_ext ?_ _ | (refine Below.setCell ?_ ?_ _; rotate_left; (simp <;> omega)))

set_option maxHeartbeats 400000 in
set_option maxRecDepth 100000 in
theorem below_1 (m n : Nat) (w : World) (h4 : (wd m 4 != wd n 4) = false) (h3 : (wd m 3 != wd n 3) = false) (h2 : (wd m 2 != wd n 2) = false) (h1 : (wd m 1 != wd n 1) = true) :
    Calls Tryd.prog 75 #[.agg #[.int .u64 (wd (m) 0), .int .u64 (wd (m) 1), .int .u64 (wd (m) 2), .int .u64 (wd (m) 3), .int .u64 (wd (m) 4)], .agg #[.int .u64 (wd (n) 0), .int .u64 (wd (n) 1), .int .u64 (wd (n) 2), .int .u64 (wd (n) 3), .int .u64 (wd (n) 4)]] w
      fun e w' => e = .returned (.bool (decide (wd m 1 < wd n 1))) ∧ Below w.heap.size w w' := by
  go_enter Tryd.func75, Tryd.ntmps75
  go_wp2
  refine wp_loop_rounds 6 ?_
  iterate 3
    rw [rounds_succ]
    go_wp2
    go_quiet (fail)
    go_wp2
  rw [rounds_succ]
  go_wp2
  go_quiet (fail)
  go_wp2
  go_quiet (fail)
  go_wp2
  go_ret
  refine ⟨rfl, ?_⟩
  repeat (first | exact Below.refl _ _ | refine Below.drew ?_ | refine below_drewN ?_ _ | refine bel_alloc ?_ _ | refine bel_ext ?_ _ | (refine Below.setCell ?_ ?_ _; rotate_left; (simp <;> omega)))

set_option maxHeartbeats 400000 in
set_option maxRecDepth 100000 in
theorem below_0 (m n : Nat) (w : World) (h4 : (wd m 4 != wd n 4) = false) (h3 : (wd m 3 != wd n 3) = false) (h2 : (wd m 2 != wd n 2) = false) (h1 : (wd m 1 != wd n 1) = false) (h0 : (wd m 0 != wd n 0) = true) :
    Calls Tryd.prog 75 #[.agg #[.int .u64 (wd (m) 0), .int .u64 (wd (m) 1), .int .u64 (wd (m) 2), .int .u64 (wd (m) 3), .int .u64 (wd (m) 4)], .agg #[.int .u64 (wd (n) 0), .int .u64 (wd (n) 1), .int .u64 (wd (n) 2), .int .u64 (wd (n) 3), .int .u64 (wd (n) 4)]] w
      fun e w' => e = .returned (.bool (decide (wd m 0 < wd n 0))) ∧ Below w.heap.size w w' := by
  go_enter Tryd.func75, Tryd.ntmps75
  go_wp2
  refine wp_loop_rounds 6 ?_
  iterate 4
    rw [rounds_succ]
    go_wp2
    go_quiet (fail)
    go_wp2
  rw [rounds_succ]
  go_wp2
  go_quiet (fail)
  go_wp2
  go_quiet (fail)
  go_wp2
  go_ret
  refine ⟨rfl, ?_⟩
  repeat (first | exact Below.refl _ _ | refine Below.drew ?_ | refine below_drewN ?_ _ | refine bel_alloc ?_ _ | refine bel_ext ?_ _ | (refine Below.setCell ?_ ?_ _; rotate_left; (simp <;> omega)))

set_option maxHeartbeats 400000 in
set_option maxRecDepth 100000 in
theorem below_no (m n : Nat) (w : World) (h4 : (wd m 4 != wd n 4) = false) (h3 : (wd m 3 != wd n 3) = false) (h2 : (wd m 2 != wd n 2) = false) (h1 : (wd m 1 != wd n 1) = false) (h0 : (wd m 0 != wd n 0) = false) :
    Calls Tryd.prog 75 #[.agg #[.int .u64 (wd (m) 0), .int .u64 (wd (m) 1), .int .u64 (wd (m) 2), .int .u64 (wd (m) 3), .int .u64 (wd (m) 4)], .agg #[.int .u64 (wd (n) 0), .int .u64 (wd (n) 1), .int .u64 (wd (n) 2), .int .u64 (wd (n) 3), .int .u64 (wd (n) 4)]] w
      fun e w' => e = .returned (.bool false) ∧ Below w.heap.size w w' := by
  go_enter Tryd.func75, Tryd.ntmps75
  go_wp2
  refine wp_loop_rounds 6 ?_
  iterate 5
    rw [rounds_succ]
    go_wp2
    go_quiet (fail)
    go_wp2
  rw [rounds_succ]
  go_wp2
  go_ret
  refine ⟨rfl, ?_⟩
  repeat (first | exact Below.refl _ _ | refine Below.drew ?_ | refine below_drewN ?_ _ | refine bel_alloc ?_ _ | refine bel_ext ?_ _ | (refine Below.setCell ?_ ?_ _; rotate_left; (simp <;> omega)))

theorem less_word {m n i : Nat} (h : m / B ^ (i + 1) = n / B ^ (i + 1)) (hw : (wd m i != wd n i) = true) : decide (wd m i < wd n i) = decide (m < n) := by
  have hne : wn m i ≠ wn n i := by
    intro e; rw [bne_iff_ne] at hw; apply hw; rw [wd_wn, wd_wn, e]
  rw [decide_eq_decide, wd_wn, wd_wn]
  constructor
  · intro c; exact lt_of_word h (by omega)
  · intro c
    rcases Nat.lt_or_ge (wn m i) (wn n i) with l | l
    · omega
    · have := lt_of_word h.symm (show wn n i < wn m i by omega); omega
theorem same_word {m n i : Nat} (hw : (wd m i != wd n i) = false) : wn m i = wn n i := by
  have : wd m i = wd n i := by simpa using hw
  rw [wd_wn, wd_wn] at this; omega
theorem less_all {m n : Nat} (hm : m < B ^ 5) (hn : n < B ^ 5) : m / B ^ 5 = n / B ^ 5 := by rw [Nat.div_eq_of_lt hm, Nat.div_eq_of_lt hn]

theorem below_any (m n : Nat) (a0 a1 a2 a3 a4 b0 b1 b2 b3 b4 : Int) (w : World) (ha : IsW m a0 a1 a2 a3 a4) (hb : IsW n b0 b1 b2 b3 b4) (hm : m < B ^ 5) (hn : n < B ^ 5) :
    Calls Tryd.prog 75 #[.agg #[.int .u64 a0, .int .u64 a1, .int .u64 a2, .int .u64 a3, .int .u64 a4], .agg #[.int .u64 b0, .int .u64 b1, .int .u64 b2, .int .u64 b3, .int .u64 b4]] w
      fun e w' => e = .returned (.bool (decide (m < n))) ∧ Below w.heap.size w w' := by
  obtain ⟨rfl, rfl, rfl, rfl, rfl⟩ := ha
  obtain ⟨rfl, rfl, rfl, rfl, rfl⟩ := hb
  have t5 := less_all hm hn
  cases h4 : (wd m 4 != wd n 4)
  · have t4 := eq_of_word t5 (same_word h4)
    cases h3 : (wd m 3 != wd n 3)
    · have t3 := eq_of_word t4 (same_word h3)
      cases h2 : (wd m 2 != wd n 2)
      · have t2 := eq_of_word t3 (same_word h2)
        cases h1 : (wd m 1 != wd n 1)
        · have t1 := eq_of_word t2 (same_word h1)
          cases h0 : (wd m 0 != wd n 0)
          · have t0 := eq_of_word t1 (same_word h0)
            simp only [Nat.pow_zero, Nat.div_one] at t0
            rw [show decide (m < n) = false by rw [t0]; simp]
            exact below_no m n w h4 h3 h2 h1 h0
          · rw [← less_word t1 h0]; exact below_0 m n w h4 h3 h2 h1 h0
        · rw [← less_word t2 h1]; exact below_1 m n w h4 h3 h2 h1
      · rw [← less_word t3 h2]; exact below_2 m n w h4 h3 h2
    · rw [← less_word t4 h3]; exact below_3 m n w h4 h3
  · rw [← less_word t5 h4]; exact below_4 m n w h4
end Go.Proofs.YtlgcbbnnldlooaaDoor
