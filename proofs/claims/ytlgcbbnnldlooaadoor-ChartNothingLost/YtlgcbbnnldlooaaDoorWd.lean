/- The contracts of the wide numbers' bits, shifts and products by a word (package dec). -/
import Derived.Test.YtlgcbbnnldlooaaDoorWc
namespace Go.Proofs.YtlgcbbnnldlooaaDoor
open Go.RowKit
set_option linter.unusedVariables false

theorem or_bit (a b : Nat) (hb : b ≤ 1) : bits .or .u64 (IntKind.u64.wrap ((a : Int) * 2)) (b : Int) = (((2 * a + b) % B : Nat) : Int) := by
  have e : IntKind.u64.wrap ((a : Int) * 2) = ((2 * (a % 9223372036854775808) : Nat) : Int) := by rw [IntKind.wrap_u64]; omega
  rw [e, bits_or_u64_nat _ _ (by omega) (by omega)]
  have h := Nat.two_pow_add_eq_or_of_lt (i := 1) (b := b) (by omega) (a % 9223372036854775808)
  simp only [Nat.pow_one] at h
  rw [← h, B_eq]
  omega
theorem shift_w0 (m b : Nat) (hb : b ≤ 1) : bits .or .u64 (IntKind.u64.wrap (wd m 0 * 2)) (b : Int) = wd (2 * m + b) 0 := by
  rw [wd_wn, or_bit _ _ hb]
  have := shift_lo m b 0 hb
  rw [sbit_zero] at this
  rw [this, wd_wn]
theorem shift_w (m b i : Nat) (hb : b ≤ 1) : bits .or .u64 (IntKind.u64.wrap (wd m (i + 1) * 2)) (wd m i / 9223372036854775808) = wd (2 * m + b) (i + 1) := by
  have e : wd m i / 9223372036854775808 = ((sbit m b (i + 1) : Nat) : Int) := by rw [← shift_hi m b i hb, wd_wn]; omega
  rw [e, wd_wn, or_bit _ _ (sbit_le m b _ hb), shift_lo m b _ hb, wd_wn]

set_option maxHeartbeats 400000 in
set_option maxRecDepth 100000 in
theorem bits_4 (m : Nat) (w : World) (h4 : (wd m 4 != 0) = true) :
    Calls Tryd.prog 61 #[.agg #[.int .u64 (wd (m) 0), .int .u64 (wd (m) 1), .int .u64 (wd (m) 2), .int .u64 (wd (m) 3), .int .u64 (wd (m) 4)]] w
      fun e w' => e = .returned (.int .i64 (256 + bl (wd m 4).toNat)) ∧ Below w.heap.size w w' := by
  have hw := wd_isWord m 4
  have hb : bl (wd m 4).toNat ≤ 64 := bl_le64 _ (by have := hw.hi; have := hw.lo; omega)
  go_enter Tryd.func61, Tryd.ntmps61
  go_wp2
  refine wp_loop_rounds 6 ?_
  rw [rounds_succ]
  go_wp2_with (go_at_call 77; refine (len64_any _ _ hw).mono ?_; rintro e w' ⟨rfl, rfl⟩)
  go_ret
  refine ⟨rfl, ?_⟩
  repeat (first | exact Below.refl _ _ | refine Below.drew ?_ | refine below_drewN ?_ _ | refine bel_alloc ?_ _ | refine bel_ext ?_ _ | (refine Below.setCell ?_ ?_ _; rotate_left; (simp <;> omega)))
set_option maxHeartbeats 400000 in
set_option maxRecDepth 100000 in
theorem bits_3 (m : Nat) (w : World) (h4 : (wd m 4 != 0) = false) (h3 : (wd m 3 != 0) = true) :
    Calls Tryd.prog 61 #[.agg #[.int .u64 (wd (m) 0), .int .u64 (wd (m) 1), .int .u64 (wd (m) 2), .int .u64 (wd (m) 3), .int .u64 (wd (m) 4)]] w
      fun e w' => e = .returned (.int .i64 (192 + bl (wd m 3).toNat)) ∧ Below w.heap.size w w' := by
  have hw := wd_isWord m 3
  have hb : bl (wd m 3).toNat ≤ 64 := bl_le64 _ (by have := hw.hi; have := hw.lo; omega)
  go_enter Tryd.func61, Tryd.ntmps61
  go_wp2
  refine wp_loop_rounds 6 ?_
  iterate 1
    rw [rounds_succ]
    go_wp2
  rw [rounds_succ]
  go_wp2_with (go_at_call 77; refine (len64_any _ _ hw).mono ?_; rintro e w' ⟨rfl, rfl⟩)
  go_ret
  refine ⟨rfl, ?_⟩
  repeat (first | exact Below.refl _ _ | refine Below.drew ?_ | refine below_drewN ?_ _ | refine bel_alloc ?_ _ | refine bel_ext ?_ _ | (refine Below.setCell ?_ ?_ _; rotate_left; (simp <;> omega)))
set_option maxHeartbeats 400000 in
set_option maxRecDepth 100000 in
theorem bits_2 (m : Nat) (w : World) (h4 : (wd m 4 != 0) = false) (h3 : (wd m 3 != 0) = false) (h2 : (wd m 2 != 0) = true) :
    Calls Tryd.prog 61 #[.agg #[.int .u64 (wd (m) 0), .int .u64 (wd (m) 1), .int .u64 (wd (m) 2), .int .u64 (wd (m) 3), .int .u64 (wd (m) 4)]] w
      fun e w' => e = .returned (.int .i64 (128 + bl (wd m 2).toNat)) ∧ Below w.heap.size w w' := by
  have hw := wd_isWord m 2
  have hb : bl (wd m 2).toNat ≤ 64 := bl_le64 _ (by have := hw.hi; have := hw.lo; omega)
  go_enter Tryd.func61, Tryd.ntmps61
  go_wp2
  refine wp_loop_rounds 6 ?_
  iterate 2
    rw [rounds_succ]
    go_wp2
  rw [rounds_succ]
  go_wp2_with (go_at_call 77; refine (len64_any _ _ hw).mono ?_; rintro e w' ⟨rfl, rfl⟩)
  go_ret
  refine ⟨rfl, ?_⟩
  repeat (first | exact Below.refl _ _ | refine Below.drew ?_ | refine below_drewN ?_ _ | refine bel_alloc ?_ _ | refine bel_ext ?_ _ | (refine Below.setCell ?_ ?_ _; rotate_left; (simp <;> omega)))
set_option maxHeartbeats 400000 in
set_option maxRecDepth 100000 in
theorem bits_1 (m : Nat) (w : World) (h4 : (wd m 4 != 0) = false) (h3 : (wd m 3 != 0) = false) (h2 : (wd m 2 != 0) = false) (h1 : (wd m 1 != 0) = true) :
    Calls Tryd.prog 61 #[.agg #[.int .u64 (wd (m) 0), .int .u64 (wd (m) 1), .int .u64 (wd (m) 2), .int .u64 (wd (m) 3), .int .u64 (wd (m) 4)]] w
      fun e w' => e = .returned (.int .i64 (64 + bl (wd m 1).toNat)) ∧ Below w.heap.size w w' := by
  have hw := wd_isWord m 1
  have hb : bl (wd m 1).toNat ≤ 64 := bl_le64 _ (by have := hw.hi; have := hw.lo; omega)
  go_enter Tryd.func61, Tryd.ntmps61
  go_wp2
  refine wp_loop_rounds 6 ?_
  iterate 3
    rw [rounds_succ]
    go_wp2
  rw [rounds_succ]
  go_wp2_with (go_at_call 77; refine (len64_any _ _ hw).mono ?_; rintro e w' ⟨rfl, rfl⟩)
  go_ret
  refine ⟨rfl, ?_⟩
  repeat (first | exact Below.refl _ _ | refine Below.drew ?_ | refine below_drewN ?_ _ | refine bel_alloc ?_ _ | refine bel_ext ?_ _ | (refine Below.setCell ?_ ?_ _; rotate_left; (simp <;> omega)))
set_option maxHeartbeats 400000 in
set_option maxRecDepth 100000 in
theorem bits_0 (m : Nat) (w : World) (h4 : (wd m 4 != 0) = false) (h3 : (wd m 3 != 0) = false) (h2 : (wd m 2 != 0) = false) (h1 : (wd m 1 != 0) = false) (h0 : (wd m 0 != 0) = true) :
    Calls Tryd.prog 61 #[.agg #[.int .u64 (wd (m) 0), .int .u64 (wd (m) 1), .int .u64 (wd (m) 2), .int .u64 (wd (m) 3), .int .u64 (wd (m) 4)]] w
      fun e w' => e = .returned (.int .i64 (bl (wd m 0).toNat)) ∧ Below w.heap.size w w' := by
  have hw := wd_isWord m 0
  have hb : bl (wd m 0).toNat ≤ 64 := bl_le64 _ (by have := hw.hi; have := hw.lo; omega)
  go_enter Tryd.func61, Tryd.ntmps61
  go_wp2
  refine wp_loop_rounds 6 ?_
  iterate 4
    rw [rounds_succ]
    go_wp2
  rw [rounds_succ]
  go_wp2_with (go_at_call 77; refine (len64_any _ _ hw).mono ?_; rintro e w' ⟨rfl, rfl⟩)
  go_ret
  refine ⟨rfl, ?_⟩
  repeat (first | exact Below.refl _ _ | refine Below.drew ?_ | refine below_drewN ?_ _ | refine bel_alloc ?_ _ | refine bel_ext ?_ _ | (refine Below.setCell ?_ ?_ _; rotate_left; (simp <;> omega)))
set_option maxHeartbeats 400000 in
set_option maxRecDepth 100000 in
theorem bits_no (m : Nat) (w : World) (h4 : (wd m 4 != 0) = false) (h3 : (wd m 3 != 0) = false) (h2 : (wd m 2 != 0) = false) (h1 : (wd m 1 != 0) = false) (h0 : (wd m 0 != 0) = false) :
    Calls Tryd.prog 61 #[.agg #[.int .u64 (wd (m) 0), .int .u64 (wd (m) 1), .int .u64 (wd (m) 2), .int .u64 (wd (m) 3), .int .u64 (wd (m) 4)]] w
      fun e w' => e = .returned (.int .i64 0) ∧ Below w.heap.size w w' := by
  go_enter Tryd.func61, Tryd.ntmps61
  go_wp2
  refine wp_loop_rounds 6 ?_
  iterate 5
    rw [rounds_succ]
    go_wp2
  rw [rounds_succ]
  go_wp2
  go_ret
  refine ⟨rfl, ?_⟩
  repeat (first | exact Below.refl _ _ | refine Below.drew ?_ | refine below_drewN ?_ _ | refine bel_alloc ?_ _ | refine bel_ext ?_ _ | (refine Below.setCell ?_ ?_ _; rotate_left; (simp <;> omega)))

theorem zero_word {m i : Nat} (h : m / B ^ (i + 1) = 0) (hw : (wd m i != 0) = false) : m / B ^ i = 0 := by
  have : wd m i = 0 := by simpa using hw
  rw [wd_wn] at this
  rw [top_split, h]; omega
theorem bits_word {m i : Nat} (h : m / B ^ (i + 1) = 0) (hw : (wd m i != 0) = true) : bl m = i * 64 + bl (wd m i).toNat := by
  have hne : wn m i ≠ 0 := by
    intro e; rw [bne_iff_ne] at hw; apply hw; rw [wd_wn, e]; rfl
  rw [bl_word h hne, wd_wn, Int.toNat_natCast]

theorem bits_any (m : Nat) (a0 a1 a2 a3 a4 : Int) (w : World) (ha : IsW m a0 a1 a2 a3 a4) (hm : m < B ^ 5) :
    Calls Tryd.prog 61 #[.agg #[.int .u64 a0, .int .u64 a1, .int .u64 a2, .int .u64 a3, .int .u64 a4]] w
      fun e w' => e = .returned (.int .i64 (bl m)) ∧ Below w.heap.size w w' := by
  obtain ⟨rfl, rfl, rfl, rfl, rfl⟩ := ha
  have t5 : m / B ^ 5 = 0 := Nat.div_eq_of_lt hm
  cases h4 : (wd m 4 != 0)
  · have t4 := zero_word t5 h4
    cases h3 : (wd m 3 != 0)
    · have t3 := zero_word t4 h3
      cases h2 : (wd m 2 != 0)
      · have t2 := zero_word t3 h2
        cases h1 : (wd m 1 != 0)
        · have t1 := zero_word t2 h1
          cases h0 : (wd m 0 != 0)
          · have t0 := zero_word t1 h0
            simp only [Nat.pow_zero, Nat.div_one] at t0
            rw [bl_zero t0]; exact bits_no m w h4 h3 h2 h1 h0
          · refine (bits_0 m w h4 h3 h2 h1 h0).mono ?_
            rintro e w' ⟨rfl, hb⟩
            exact ⟨by rw [bits_word t1 h0]; simp, hb⟩
        · refine (bits_1 m w h4 h3 h2 h1).mono ?_
          rintro e w' ⟨rfl, hb⟩
          exact ⟨by rw [bits_word t2 h1]; rfl, hb⟩
      · refine (bits_2 m w h4 h3 h2).mono ?_
        rintro e w' ⟨rfl, hb⟩
        exact ⟨by rw [bits_word t3 h2]; rfl, hb⟩
    · refine (bits_3 m w h4 h3).mono ?_
      rintro e w' ⟨rfl, hb⟩
      exact ⟨by rw [bits_word t4 h3]; rfl, hb⟩
  · refine (bits_4 m w h4).mono ?_
    rintro e w' ⟨rfl, hb⟩
    exact ⟨by rw [bits_word t5 h4]; rfl, hb⟩

/-! times a word -/
theorem tw_lo (m x i : Nat) : (((wn m i * x % 18446744073709551616 : Nat) : Int) + ((tcar m x i : Nat) : Int) + 0) % 18446744073709551616 = wd (m * x) i := by
  have h := tword_lo m x i
  have h2 := (mulAdd (wn m i) x (tcar m x i)).1
  rw [h, B_eq] at h2
  rw [wd_wn, ← h2]; omega
theorem tw_hi (m x i : Nat) : ((wn m i * x / 18446744073709551616 : Nat) : Int) + (((wn m i * x % 18446744073709551616 : Nat) : Int) + ((tcar m x i : Nat) : Int) + 0) / 18446744073709551616 = ((tcar m x (i + 1) : Nat) : Int) := by
  have h := tword_hi m x i
  have h2 := (mulAdd (wn m i) x (tcar m x i)).2
  rw [h, B_eq] at h2
  rw [← h2]; omega
def tlo (m x i : Nat) : Int := ((wn m i * x % 18446744073709551616 : Nat) : Int)
def thi (m x i : Nat) : Int := ((wn m i * x / 18446744073709551616 : Nat) : Int)
def tmore (m x i : Nat) : Int := (((wn m i * x % 18446744073709551616 : Nat) : Int) + ((tcar m x i : Nat) : Int) + 0) / 18446744073709551616
def tci (m x i : Nat) : Int := ((tcar m x i : Nat) : Int)

set_option maxHeartbeats 1000000 in
set_option maxRecDepth 100000 in
theorem timesWord_any (m x : Nat) (a0 a1 a2 a3 a4 : Int) (w : World) (ha : IsW m a0 a1 a2 a3 a4) (hx : x < B) :
    Calls Tryd.prog 79 #[.agg #[.int .u64 a0, .int .u64 a1, .int .u64 a2, .int .u64 a3, .int .u64 a4], .int .u64 x] w
      fun e w' => e = .returned (.agg #[.int .u64 (wd (m * x) 0), .int .u64 (wd (m * x) 1), .int .u64 (wd (m * x) 2), .int .u64 (wd (m * x) 3), .int .u64 (wd (m * x) 4)]) ∧ Below w.heap.size w w' := by
  obtain ⟨rfl, rfl, rfl, rfl, rfl⟩ := ha
  have hc : ∀ i w, Calls Tryd.prog 81 #[.int .u64 (wd m i), .int .u64 x] w fun e w' => e = .returned (.tuple #[.int .u64 (thi m x i), .int .u64 (tlo m x i)]) ∧ w' = w := by
    intro i w
    exact mul64_any (wn m i) x w (wn_lt m i) hx
  have hr : ∀ i w, (callFunc 80 #[.int .u64 (tlo m x i), .int .u64 (tci m x i), .int .u64 0]).run Tryd.prog w = .ok (.value (.tuple #[.int .u64 (wd (m * x) i), .int .u64 (tmore m x i)])) w := by
    intro i w
    rw [run_Add64 (tlo m x i) (tci m x i) 0 (Int.natCast_nonneg _) (Int.natCast_nonneg _) (by omega) (by omega)]
    unfold tlo tci tmore
    rw [tw_lo]
  have hs : ∀ i, thi m x i + tmore m x i = tci m x (i + 1) := fun i => tw_hi m x i
  have hl : ∀ i, 0 ≤ tci m x i ∧ tci m x i ≤ 18446744073709551615 := by
    intro i
    have := tcar_lt m x i hx
    rw [B_eq] at this
    unfold tci; omega
  have hz : tci m x 0 = 0 := by unfold tci; rw [tcar_zero]; rfl
  have r0 := hr 0
  rw [hz] at r0
  have r1 := hr 1
  have r2 := hr 2
  have r3 := hr 3
  have r4 := hr 4
  have s0 := hs 0
  have s1 := hs 1
  have s2 := hs 2
  have s3 := hs 3
  have s4 := hs 4
  obtain ⟨l1, g1⟩ := hl 1
  obtain ⟨l2, g2⟩ := hl 2
  obtain ⟨l3, g3⟩ := hl 3
  obtain ⟨l4, g4⟩ := hl 4
  obtain ⟨l5, g5⟩ := hl 5
  have HC := (show Hid _ from hc)
  clear hc hr hs hl hz
  go_enter Tryd.func79, Tryd.ntmps79
  go_wp2
  refine wp_loop_rounds 6 ?_
  rw [rounds_succ]
  go_wp2_with (go_at_call 81; refine (HC.out 0 _).mono ?_; rintro e w' ⟨rfl, rfl⟩)
  rw [rounds_succ]
  go_wp2_with (go_at_call 81; refine (HC.out 1 _).mono ?_; rintro e w' ⟨rfl, rfl⟩)
  rw [rounds_succ]
  go_wp2_with (go_at_call 81; refine (HC.out 2 _).mono ?_; rintro e w' ⟨rfl, rfl⟩)
  rw [rounds_succ]
  go_wp2_with (go_at_call 81; refine (HC.out 3 _).mono ?_; rintro e w' ⟨rfl, rfl⟩)
  rw [rounds_succ]
  go_wp2_with (go_at_call 81; refine (HC.out 4 _).mono ?_; rintro e w' ⟨rfl, rfl⟩)
  rw [rounds_succ]
  go_wp2
  refine bodyPost_ret (v := .agg _) (by simp [results, Tryd.results79, go_sem]) rfl ⟨rfl, ?_⟩
  repeat (first | exact Below.refl _ _ | refine Below.drew ?_ | refine below_drewN ?_ _ | refine bel_alloc ?_ _ | refine bel_ext ?_ _ | (refine Below.setCell ?_ ?_ _; rotate_left; (simp <;> omega)))
end Go.Proofs.YtlgcbbnnldlooaaDoor
