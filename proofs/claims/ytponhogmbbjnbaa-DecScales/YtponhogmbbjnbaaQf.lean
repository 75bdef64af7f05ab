/- The law DecScales: its arithmetic and its walk. -/
import Derived.Test.YtponhogmbbjnbaaQe
import Derived.LoopTactic
namespace Go.Proofs.Ytponhogmbbjnbaa
open Go.RowKit
set_option linter.unusedVariables false
attribute [local go_sem] ext_cell ext_frozen ext_drew ext_of_drew ext_of_drewN ext_setCell ext_lt ext_lt1 ext_lt2 ext_lt3 lt_n2 lt_n3 lt_n4 lt_n5 lt_n6

theorem away_nil (neg : Bool) (q d mode : Nat) : away neg q 0 d mode = false := by unfold away; simp
theorem res_up (c : Int) (s t mode : Nat) (h : s ≤ t) : sv (decide (c < 0)) (rquo (decide (c < 0)) c.natAbs 1 ((t : Int) - s) mode) = c * (10 : Int) ^ (t - s) := by
  have e : rquo (decide (c < 0)) c.natAbs 1 ((t : Int) - s) mode = c.natAbs * 10 ^ (t - s) := by
    unfold rquo rnum rden
    rw [show ((t : Int) - s).toNat = t - s by omega, show (-((t : Int) - s)).toNat = 0 by omega, Nat.pow_zero, Nat.mul_one, Nat.div_one, Nat.mod_one, away_nil]
    simp
  rw [e, sv_up]
theorem lt_scale (c : Int) {k : Int} (hk : 0 < k) : (c * k < 0) = (c < 0) := by
  apply propext
  constructor
  · intro h
    apply Classical.byContradiction
    intro hc
    have := Int.mul_nonneg (show 0 ≤ c by omega) (Int.le_of_lt hk)
    omega
  · intro h; exact Int.mul_neg_of_neg_of_pos h hk
theorem res_down (c : Int) (s t mode : Nat) (h : s ≤ t) :
    sv (decide (c * (10 : Int) ^ (t - s) < 0)) (rquo (decide (c * (10 : Int) ^ (t - s) < 0)) (c * (10 : Int) ^ (t - s)).natAbs 1 ((s : Int) - t) mode) = c := by
  have e0 : (c * (10 : Int) ^ (t - s)).natAbs = c.natAbs * 10 ^ (t - s) := by rw [Int.natAbs_mul, Int.natAbs_pow]; rfl
  have e : rquo (decide (c * (10 : Int) ^ (t - s) < 0)) (c * (10 : Int) ^ (t - s)).natAbs 1 ((s : Int) - t) mode = c.natAbs := by
    rw [e0]
    unfold rquo rnum rden
    rw [show ((s : Int) - t).toNat = 0 by omega, show (-((s : Int) - t)).toNat = t - s by omega, Nat.pow_zero, Nat.mul_one, Nat.one_mul, Nat.mul_div_cancel _ (Nat.pow_pos (by decide)), Nat.mul_mod_left, away_nil]
    simp
  rw [e]
  simp only [lt_scale c (pow10_pos (t - s))]
  exact sv_abs c
theorem rescale_up (c U : Int) (s mode : Nat) (w : World) (ic : InR c) (h0 : (s : Int) ≤ U) (h1 : U ≤ 18) (hm : (mode : Int) ≤ 6) (hr : InR (c * (10 : Int) ^ (U.toNat - s))) :
    Calls Try.prog 10 #[.agg #[.int .i64 (dhi c), .int .u64 (dlo c), .int .i64 s], .int .i64 U, .int .i64 mode] w
      fun e w' => e = .returned (.tuple #[.agg #[.int .i64 (dhi (c * (10 : Int) ^ (U.toNat - s))), .int .u64 (dlo (c * (10 : Int) ^ (U.toNat - s))), .int .i64 U], .int .i64 0]) ∧ Below w.heap.size w w' := by
  obtain ⟨t, rfl⟩ : ∃ t : Nat, U = t := ⟨U.toNat, by omega⟩
  rw [Int.toNat_natCast] at *
  have e := res_up c s t mode (by omega)
  have h := rescale_ok c _ _ s t mode w (IsD.self _) ic (by omega) h1 hm (sv_in.1 (by rw [e]; exact hr))
  rw [e] at h
  exact h
theorem rescale_far (c U : Int) (s mode : Nat) (w : World) (ic : InR c) (h0 : (s : Int) ≤ U) (h1 : U ≤ 18) (hm : (mode : Int) ≤ 6) (hr : ¬ InR (c * (10 : Int) ^ (U.toNat - s))) :
    Calls Try.prog 10 #[.agg #[.int .i64 (dhi c), .int .u64 (dlo c), .int .i64 s], .int .i64 U, .int .i64 mode] w
      fun e w' => e = .returned (.tuple #[.agg #[.int .i64 0, .int .u64 0, .int .i64 0], .int .i64 4]) ∧ Below w.heap.size w w' := by
  obtain ⟨t, rfl⟩ : ∃ t : Nat, U = t := ⟨U.toNat, by omega⟩
  rw [Int.toNat_natCast] at *
  have e := res_up c s t mode (by omega)
  refine rescale_big c _ _ s t mode w (IsD.self _) ic (by omega) h1 hm ?_
  apply Classical.byContradiction
  intro hn
  exact hr (by rw [← e]; exact sv_in.2 (by omega))
theorem rescale_down (c U : Int) (s mode : Nat) (w : World) (ic : InR c) (h0 : (s : Int) ≤ U) (h1 : U ≤ 18) (hm : (mode : Int) ≤ 6) (hr : InR (c * (10 : Int) ^ (U.toNat - s))) :
    Calls Try.prog 10 #[.agg #[.int .i64 (dhi (c * (10 : Int) ^ (U.toNat - s))), .int .u64 (dlo (c * (10 : Int) ^ (U.toNat - s))), .int .i64 U], .int .i64 s, .int .i64 mode] w
      fun e w' => e = .returned (.tuple #[.agg #[.int .i64 (dhi c), .int .u64 (dlo c), .int .i64 s], .int .i64 0]) ∧ Below w.heap.size w w' := by
  obtain ⟨t, rfl⟩ : ∃ t : Nat, U = t := ⟨U.toNat, by omega⟩
  rw [Int.toNat_natCast] at *
  have e := res_down c s t mode (by omega)
  have h := rescale_ok _ _ _ t s mode w (IsD.self _) hr h1 (by omega) hm (sv_in.1 (by rw [e]; exact ic))
  rw [e] at h
  exact h
theorem equal_up (c U : Int) (s : Nat) (w : World) (ic : InR c) (h0 : (s : Int) ≤ U) (h1 : U ≤ 18) (hr : InR (c * (10 : Int) ^ (U.toNat - s))) :
    Calls Try.prog 17 #[.agg #[.int .i64 (dhi (c * (10 : Int) ^ (U.toNat - s))), .int .u64 (dlo (c * (10 : Int) ^ (U.toNat - s))), .int .i64 U], .agg #[.int .i64 (dhi c), .int .u64 (dlo c), .int .i64 s]] w
      fun e w' => e = .returned (.bool true) ∧ Below w.heap.size w w' := by
  obtain ⟨t, rfl⟩ : ∃ t : Nat, U = t := ⟨U.toNat, by omega⟩
  rw [Int.toNat_natCast] at *
  refine equal_yes _ _ _ _ _ _ w (fun w => ?_)
  have h := cmp_yes (c * (10 : Int) ^ (t - s)) c t s w hr ic h1 (by omega)
  have e : tv (c * (10 : Int) ^ (t - s)) t (-c) s = 0 := by
    unfold tv
    rw [show max t s = t by omega, show t - t = 0 by omega, Int.pow_zero, Int.mul_one, Int.neg_mul]; omega
  rw [e, show sgn 0 = 0 from rfl] at h
  exact h
set_option maxHeartbeats 2000000 in
set_option maxRecDepth 100000 in
theorem scales_bad (h l s more : Int) (w : World) (hb : Bad h l s) :
    Calls Try.prog 7 #[.agg #[.int .i64 h, .int .u64 l, .int .i64 s], .int .u8 more] w fun e w' => e = .returned (.bool true) ∧ Below w.heap.size w w' := by
  have HB : Hid (Bad h l s) := hb
  clear hb
  go_enter Try.func7, Try.ntmps7
  go_wp2_with fail
  refine (awake_any _).mono ?_
  rintro e w1 ⟨rfl, bb⟩
  have Aa := (at3_new w (.int .i64 h) (.int .u64 l) (.int .i64 s) 24).step bb
  have G : Below w.heap.size w w1 := (bel_alloc (Below.refl _ _) _).trans (bb.mono (by simp <;> omega))
  clear bb
  obtain ⟨a0, a1, a2, a3⟩ := Aa
  go_wp2_with fail
  refine (check_bad h l s _ HB.out).mono ?_
  rintro e w2 ⟨rfl, bb⟩
  have Aa := ((At3.mk a0 a1 a2 a3)).step bb
  clear a0 a1 a2 a3
  have G := G.trans (bb.mono G.size)
  clear bb
  obtain ⟨a0, a1, a2, a3⟩ := Aa
  go_wp2_with fail
  refine bodyPost_ret (v := .bool true) (by simp [results, Try.results7, go_sem]) rfl ⟨rfl, ?_⟩
  exact G
set_option maxHeartbeats 2000000 in
set_option maxRecDepth 100000 in
theorem scales_A (c : Int) (n : Nat) (more X : Int) (w : World) (ic : InR c) (hn : (n : Int) ≤ 18) (mb : 0 ≤ more ∧ more ≤ 255) (hU : (n : Int) + more % 19 ≤ 18)
    (R1 : Hid (∀ (m : Nat) w, (m : Int) ≤ 6 → Calls Try.prog 10 #[.agg #[.int .i64 (dhi c), .int .u64 (dlo c), .int .i64 n], .int .i64 ((n : Int) + more % 19), .int .i64 m] w fun e w' => e = .returned (.tuple #[.agg #[.int .i64 (dhi X), .int .u64 (dlo X), .int .i64 ((n : Int) + more % 19)], .int .i64 0]) ∧ Below w.heap.size w w'))
    (R2 : Hid (∀ (m : Nat) w, (m : Int) ≤ 6 → Calls Try.prog 10 #[.agg #[.int .i64 (dhi X), .int .u64 (dlo X), .int .i64 ((n : Int) + more % 19)], .int .i64 n, .int .i64 m] w fun e w' => e = .returned (.tuple #[.agg #[.int .i64 (dhi c), .int .u64 (dlo c), .int .i64 n], .int .i64 0]) ∧ Below w.heap.size w w'))
    (E : Hid (∀ w, Calls Try.prog 17 #[.agg #[.int .i64 (dhi X), .int .u64 (dlo X), .int .i64 ((n : Int) + more % 19)], .agg #[.int .i64 (dhi c), .int .u64 (dlo c), .int .i64 n]] w fun e w' => e = .returned (.bool true) ∧ Below w.heap.size w w')) :
    Calls Try.prog 7 #[.agg #[.int .i64 (dhi c), .int .u64 (dlo c), .int .i64 n], .int .u8 more] w fun e w' => e = .returned (.bool true) ∧ Below w.heap.size w w' := by
  go_enter Try.func7, Try.ntmps7
  go_wp2_with fail
  refine (awake_any _).mono ?_
  rintro e w1 ⟨rfl, bb⟩
  have Aa := (at3_new w (.int .i64 (dhi c)) (.int .u64 (dlo c)) (.int .i64 n) 24).step bb
  have G : Below w.heap.size w w1 := (bel_alloc (Below.refl _ _) _).trans (bb.mono (by simp <;> omega))
  clear bb
  obtain ⟨a0, a1, a2, a3⟩ := Aa
  go_wp2_with fail
  refine (check_ok c _ _ n _ (IsD.self _) ic hn).mono ?_
  rintro e w2 ⟨rfl, bb⟩
  have Aa := ((At3.mk a0 a1 a2 a3)).step bb
  clear a0 a1 a2 a3
  have G := G.trans (bb.mono G.size)
  clear bb
  obtain ⟨a0, a1, a2, a3⟩ := Aa
  go_wp2_with fail
  have Aa := At3.mk a0 a1 a2 a3
  clear a0 a1 a2 a3
  go_loopw [23] (fun i wr => ∃ j : Nat, j ≤ 7 ∧ i = .int .i64 j ∧ At3 wr w.heap.size (.int .i64 (dhi c)) (.int .u64 (dlo c)) (.int .i64 n) ∧ Below w.heap.size w wr) (fun i _ => 7 - (intOf i).toNat)
  case atStart => exact ⟨0, by omega, rfl, Aa, G⟩
  case round =>
    clear Aa G
    obtain ⟨j, hj, rfl, Aa, G⟩ := hrel
    by_cases hj7 : j = 7
    · subst hj7
      clear Aa
      go_wp2_with fail
      refine bodyPost_ret (v := .bool true) (by simp [results, Try.results7, go_sem]) rfl ⟨rfl, ?_⟩
      exact G
    have hj6 : (j : Int) ≤ 6 := by omega
    obtain ⟨a0, a1, a2, a3⟩ := Aa
    go_wp2_with fail
    refine (R1.out j _ hj6).mono ?_
    rintro e w3 ⟨rfl, bb⟩
    have Aa := ((At3.mk a0 a1 a2 a3)).step bb
    clear a0 a1 a2 a3
    have G := G.trans (bb.mono G.size)
    clear bb
    obtain ⟨a0, a1, a2, a3⟩ := Aa
    go_wp2_with fail
    refine (R2.out j _ hj6).mono ?_
    rintro e w4 ⟨rfl, bb⟩
    have Aa := ((At3.mk a0 a1 a2 a3).alloc _).step bb
    clear a0 a1 a2 a3
    have Ax := (at3_new w3 _ _ _ _).step bb
    have G := G.trans ((below_over bb).mono G.size)
    clear bb
    generalize w3.heap.size = px at *
    obtain ⟨a0, a1, a2, a3⟩ := Aa
    obtain ⟨x0, x1, x2, x3⟩ := Ax
    go_wp2_with fail
    refine (E.out _).mono ?_
    rintro e w5 ⟨rfl, bb⟩
    have Aa := ((At3.mk a0 a1 a2 a3).alloc _).step bb
    have Ax := ((At3.mk x0 x1 x2 x3).alloc _).step bb
    clear a0 a1 a2 a3 x0 x1 x2 x3
    have G := G.trans ((below_over bb).mono G.size)
    clear bb
    generalize w4.heap.size = py at *
    obtain ⟨a0, a1, a2, a3⟩ := Aa
    obtain ⟨x0, x1, x2, x3⟩ := Ax
    go_wp2_with fail
    go_roundw
    case rel => exact ⟨j + 1, by omega, by go_num, At3.mk a0 a1 a2 a3, G⟩
    case measure => simp [intOf]; omega
set_option maxHeartbeats 2000000 in
set_option maxRecDepth 100000 in
theorem scales_Afar (c : Int) (n : Nat) (more : Int) (w : World) (ic : InR c) (hn : (n : Int) ≤ 18) (mb : 0 ≤ more ∧ more ≤ 255) (hU : (n : Int) + more % 19 ≤ 18)
    (R : Hid (∀ w, Calls Try.prog 10 #[.agg #[.int .i64 (dhi c), .int .u64 (dlo c), .int .i64 n], .int .i64 ((n : Int) + more % 19), .int .i64 0] w fun e w' => e = .returned (.tuple #[.agg #[.int .i64 0, .int .u64 0, .int .i64 0], .int .i64 4]) ∧ Below w.heap.size w w')) :
    Calls Try.prog 7 #[.agg #[.int .i64 (dhi c), .int .u64 (dlo c), .int .i64 n], .int .u8 more] w fun e w' => e = .returned (.bool true) ∧ Below w.heap.size w w' := by
  go_enter Try.func7, Try.ntmps7
  go_wp2_with fail
  refine (awake_any _).mono ?_
  rintro e w1 ⟨rfl, bb⟩
  have Aa := (at3_new w (.int .i64 (dhi c)) (.int .u64 (dlo c)) (.int .i64 n) 24).step bb
  have G : Below w.heap.size w w1 := (bel_alloc (Below.refl _ _) _).trans (bb.mono (by simp <;> omega))
  clear bb
  obtain ⟨a0, a1, a2, a3⟩ := Aa
  go_wp2_with fail
  refine (check_ok c _ _ n _ (IsD.self _) ic hn).mono ?_
  rintro e w2 ⟨rfl, bb⟩
  have Aa := ((At3.mk a0 a1 a2 a3)).step bb
  clear a0 a1 a2 a3
  have G := G.trans (bb.mono G.size)
  clear bb
  obtain ⟨a0, a1, a2, a3⟩ := Aa
  go_wp2_with fail
  have Aa := At3.mk a0 a1 a2 a3
  clear a0 a1 a2 a3
  refine wp_loop_rounds 1 ?_
  rw [rounds_succ]
  obtain ⟨a0, a1, a2, a3⟩ := Aa
  go_wp2_with fail
  refine (R.out _).mono ?_
  rintro e w3 ⟨rfl, bb⟩
  have Aa := ((At3.mk a0 a1 a2 a3)).step bb
  clear a0 a1 a2 a3
  have G := G.trans (bb.mono G.size)
  clear bb
  obtain ⟨a0, a1, a2, a3⟩ := Aa
  go_wp2_with fail
  refine bodyPost_ret (v := .bool true) (by simp [results, Try.results7, go_sem]) rfl ⟨rfl, ?_⟩
  exact bel_alloc G _
set_option maxHeartbeats 2000000 in
set_option maxRecDepth 100000 in
theorem scales_B (c : Int) (n : Nat) (more X : Int) (w : World) (ic : InR c) (hn : (n : Int) ≤ 18) (mb : 0 ≤ more ∧ more ≤ 255) (hU : 18 < (n : Int) + more % 19)
    (R1 : Hid (∀ (m : Nat) w, (m : Int) ≤ 6 → Calls Try.prog 10 #[.agg #[.int .i64 (dhi c), .int .u64 (dlo c), .int .i64 n], .int .i64 18, .int .i64 m] w fun e w' => e = .returned (.tuple #[.agg #[.int .i64 (dhi X), .int .u64 (dlo X), .int .i64 18], .int .i64 0]) ∧ Below w.heap.size w w'))
    (R2 : Hid (∀ (m : Nat) w, (m : Int) ≤ 6 → Calls Try.prog 10 #[.agg #[.int .i64 (dhi X), .int .u64 (dlo X), .int .i64 18], .int .i64 n, .int .i64 m] w fun e w' => e = .returned (.tuple #[.agg #[.int .i64 (dhi c), .int .u64 (dlo c), .int .i64 n], .int .i64 0]) ∧ Below w.heap.size w w'))
    (E : Hid (∀ w, Calls Try.prog 17 #[.agg #[.int .i64 (dhi X), .int .u64 (dlo X), .int .i64 18], .agg #[.int .i64 (dhi c), .int .u64 (dlo c), .int .i64 n]] w fun e w' => e = .returned (.bool true) ∧ Below w.heap.size w w')) :
    Calls Try.prog 7 #[.agg #[.int .i64 (dhi c), .int .u64 (dlo c), .int .i64 n], .int .u8 more] w fun e w' => e = .returned (.bool true) ∧ Below w.heap.size w w' := by
  go_enter Try.func7, Try.ntmps7
  go_wp2_with fail
  refine (awake_any _).mono ?_
  rintro e w1 ⟨rfl, bb⟩
  have Aa := (at3_new w (.int .i64 (dhi c)) (.int .u64 (dlo c)) (.int .i64 n) 24).step bb
  have G : Below w.heap.size w w1 := (bel_alloc (Below.refl _ _) _).trans (bb.mono (by simp <;> omega))
  clear bb
  obtain ⟨a0, a1, a2, a3⟩ := Aa
  go_wp2_with fail
  refine (check_ok c _ _ n _ (IsD.self _) ic hn).mono ?_
  rintro e w2 ⟨rfl, bb⟩
  have Aa := ((At3.mk a0 a1 a2 a3)).step bb
  clear a0 a1 a2 a3
  have G := G.trans (bb.mono G.size)
  clear bb
  obtain ⟨a0, a1, a2, a3⟩ := Aa
  go_wp2_with fail
  have Aa := At3.mk a0 a1 a2 a3
  clear a0 a1 a2 a3
  go_loopw [23] (fun i wr => ∃ j : Nat, j ≤ 7 ∧ i = .int .i64 j ∧ At3 wr w.heap.size (.int .i64 (dhi c)) (.int .u64 (dlo c)) (.int .i64 n) ∧ Below w.heap.size w wr) (fun i _ => 7 - (intOf i).toNat)
  case atStart => exact ⟨0, by omega, rfl, Aa, G⟩
  case round =>
    clear Aa G
    obtain ⟨j, hj, rfl, Aa, G⟩ := hrel
    by_cases hj7 : j = 7
    · subst hj7
      clear Aa
      go_wp2_with fail
      refine bodyPost_ret (v := .bool true) (by simp [results, Try.results7, go_sem]) rfl ⟨rfl, ?_⟩
      exact G
    have hj6 : (j : Int) ≤ 6 := by omega
    obtain ⟨a0, a1, a2, a3⟩ := Aa
    go_wp2_with fail
    refine (R1.out j _ hj6).mono ?_
    rintro e w3 ⟨rfl, bb⟩
    have Aa := ((At3.mk a0 a1 a2 a3)).step bb
    clear a0 a1 a2 a3
    have G := G.trans (bb.mono G.size)
    clear bb
    obtain ⟨a0, a1, a2, a3⟩ := Aa
    go_wp2_with fail
    refine (R2.out j _ hj6).mono ?_
    rintro e w4 ⟨rfl, bb⟩
    have Aa := ((At3.mk a0 a1 a2 a3).alloc _).step bb
    clear a0 a1 a2 a3
    have Ax := (at3_new w3 _ _ _ _).step bb
    have G := G.trans ((below_over bb).mono G.size)
    clear bb
    generalize w3.heap.size = px at *
    obtain ⟨a0, a1, a2, a3⟩ := Aa
    obtain ⟨x0, x1, x2, x3⟩ := Ax
    go_wp2_with fail
    refine (E.out _).mono ?_
    rintro e w5 ⟨rfl, bb⟩
    have Aa := ((At3.mk a0 a1 a2 a3).alloc _).step bb
    have Ax := ((At3.mk x0 x1 x2 x3).alloc _).step bb
    clear a0 a1 a2 a3 x0 x1 x2 x3
    have G := G.trans ((below_over bb).mono G.size)
    clear bb
    generalize w4.heap.size = py at *
    obtain ⟨a0, a1, a2, a3⟩ := Aa
    obtain ⟨x0, x1, x2, x3⟩ := Ax
    go_wp2_with fail
    go_roundw
    case rel => exact ⟨j + 1, by omega, by go_num, At3.mk a0 a1 a2 a3, G⟩
    case measure => simp [intOf]; omega
set_option maxHeartbeats 2000000 in
set_option maxRecDepth 100000 in
theorem scales_Bfar (c : Int) (n : Nat) (more : Int) (w : World) (ic : InR c) (hn : (n : Int) ≤ 18) (mb : 0 ≤ more ∧ more ≤ 255) (hU : 18 < (n : Int) + more % 19)
    (R : Hid (∀ w, Calls Try.prog 10 #[.agg #[.int .i64 (dhi c), .int .u64 (dlo c), .int .i64 n], .int .i64 18, .int .i64 0] w fun e w' => e = .returned (.tuple #[.agg #[.int .i64 0, .int .u64 0, .int .i64 0], .int .i64 4]) ∧ Below w.heap.size w w')) :
    Calls Try.prog 7 #[.agg #[.int .i64 (dhi c), .int .u64 (dlo c), .int .i64 n], .int .u8 more] w fun e w' => e = .returned (.bool true) ∧ Below w.heap.size w w' := by
  go_enter Try.func7, Try.ntmps7
  go_wp2_with fail
  refine (awake_any _).mono ?_
  rintro e w1 ⟨rfl, bb⟩
  have Aa := (at3_new w (.int .i64 (dhi c)) (.int .u64 (dlo c)) (.int .i64 n) 24).step bb
  have G : Below w.heap.size w w1 := (bel_alloc (Below.refl _ _) _).trans (bb.mono (by simp <;> omega))
  clear bb
  obtain ⟨a0, a1, a2, a3⟩ := Aa
  go_wp2_with fail
  refine (check_ok c _ _ n _ (IsD.self _) ic hn).mono ?_
  rintro e w2 ⟨rfl, bb⟩
  have Aa := ((At3.mk a0 a1 a2 a3)).step bb
  clear a0 a1 a2 a3
  have G := G.trans (bb.mono G.size)
  clear bb
  obtain ⟨a0, a1, a2, a3⟩ := Aa
  go_wp2_with fail
  have Aa := At3.mk a0 a1 a2 a3
  clear a0 a1 a2 a3
  refine wp_loop_rounds 1 ?_
  rw [rounds_succ]
  obtain ⟨a0, a1, a2, a3⟩ := Aa
  go_wp2_with fail
  refine (R.out _).mono ?_
  rintro e w3 ⟨rfl, bb⟩
  have Aa := ((At3.mk a0 a1 a2 a3)).step bb
  clear a0 a1 a2 a3
  have G := G.trans (bb.mono G.size)
  clear bb
  obtain ⟨a0, a1, a2, a3⟩ := Aa
  go_wp2_with fail
  refine bodyPost_ret (v := .bool true) (by simp [results, Try.results7, go_sem]) rfl ⟨rfl, ?_⟩
  exact bel_alloc G _

theorem scales_walk (h l s more : Int) (wh : (Lit.int .i64 h).wf = true) (wl : (Lit.int .u64 l).wf = true) (wm : (Lit.int .u8 more).wf = true) (w : World) :
    Calls Try.prog 7 #[.agg #[.int .i64 h, .int .u64 l, .int .i64 s], .int .u8 more] w fun e w' => e = .returned (.bool true) ∧ Below w.heap.size w w' := by
  have mb : 0 ≤ more ∧ more ≤ 255 := by simpa [Lit.wf, IntKind.min, IntKind.max, IntKind.signed, IntKind.bits] using wm
  rcases form_cases h l s wh wl with hb | ⟨c, n, rfl, rfl, rfl, ic, hn⟩
  · exact scales_bad h l s more w hb
  by_cases hU : (n : Int) + more % 19 ≤ 18
  · by_cases hr : InR (c * (10 : Int) ^ (((n : Int) + more % 19).toNat - n))
    · exact scales_A c n more _ w ic hn mb hU (fun m w hm => rescale_up c _ n m w ic (by omega) hU hm hr) (fun m w hm => rescale_down c _ n m w ic (by omega) hU hm hr) (fun w => equal_up c _ n w ic (by omega) hU hr)
    · exact scales_Afar c n more w ic hn mb hU (fun w => rescale_far c _ n 0 w ic (by omega) hU (by omega) hr)
  · by_cases hr : InR (c * (10 : Int) ^ ((18 : Int).toNat - n))
    · exact scales_B c n more _ w ic hn mb (by omega) (fun m w hm => rescale_up c 18 n m w ic (by omega) (by omega) hm hr) (fun m w hm => rescale_down c 18 n m w ic (by omega) (by omega) hm hr) (fun w => equal_up c 18 n w ic (by omega) (by omega) hr)
    · exact scales_Bfar c n more w ic hn mb (by omega) (fun w => rescale_far c 18 n 0 w ic (by omega) (by omega) (by omega) hr)
end Go.Proofs.Ytponhogmbbjnbaa
