/- money: the walk of MoneyOrder. -/
import Derived.Test.YtcnigpkmedgbdaaDoorBk
import Derived.Test.YtcnigpkmedgbdaaDoorBe
namespace Go.Proofs.YtcnigpkmedgbdaaDoor
open Go.RowKit
set_option linter.unusedVariables false

theorem eqM2 (w : World) (a b c d : Int) : (Op.equalIn 10000 23 (.agg #[.int .i64 a, .int .i64 b]) (.agg #[.int .i64 c, .int .i64 d])).run Tryd.prog w = .ok ((a == c) && (b == d)) w := by
  go_simp
  by_cases h1 : a = c <;> by_cases h2 : b = d <;> simp [h1, h2]
theorem ord_zero (a b : Int) : (ord a b == 0) = (a == b) := by
  unfold ord
  by_cases h1 : a < b
  · rw [if_pos h1]; simp; omega
  · rw [if_neg h1]
    by_cases h2 : b < a
    · rw [if_pos h2]; simp; omega
    · rw [if_neg h2]; simp; omega
theorem ord_add (a b c : Int) : ord (a + c) (b + c) = ord a b := by
  unfold ord
  by_cases h1 : a < b
  · rw [if_pos h1, if_pos (by omega)]
  · rw [if_neg h1, if_neg (by omega)]
    by_cases h2 : b < a
    · rw [if_pos h2, if_pos (by omega)]
    · rw [if_neg h2, if_neg (by omega)]
/-- the stores of a struct of two cells -/
theorem infoM' : (Tryd.prog.info? 23).map (·.size) = some 2 := infoM
set_option maxHeartbeats 40000000 in
set_option maxRecDepth 100000 in
theorem order_walk (a b c d : Int) (w : World) (T : Cu w) (N : Cn w) (d1 : 0 ≤ d) (d2 : d ≤ 255) : Calls Tryd.prog 7 #[.int .i64 a, .int .i64 b, .int .i64 c, .int .u8 d] w fun e w' => e = .returned (.bool true) ∧ Below w.heap.size w w' := by
  obtain ⟨X, hX⟩ : ∃ X, X = a.tmod 5000000000000 := ⟨_, rfl⟩
  obtain ⟨Y, hY⟩ : ∃ Y, Y = b.tmod 5000000000000 := ⟨_, rfl⟩
  obtain ⟨Z, hZ⟩ : ∃ Z, Z = c.tmod 5000000000000 := ⟨_, rfl⟩
  have bd : ∀ t : Int, -5000000000000 < t.tmod 5000000000000 ∧ t.tmod 5000000000000 < 5000000000000 := fun t => by
    rcases Int.le_total 0 t with h | h
    · have := Int.tmod_nonneg (b := 5000000000000) h
      have := Int.tmod_lt_of_pos t (show (0 : Int) < 5000000000000 by decide)
      omega
    · have h1 := Int.tmod_nonneg (b := 5000000000000) (show 0 ≤ -t by omega)
      have h2 := Int.tmod_lt_of_pos (-t) (show (0 : Int) < 5000000000000 by decide)
      rw [Int.neg_tmod] at h1 h2
      omega
  have bX := bd a
  have bY := bd b
  have bZ := bd c
  rw [← hX] at bX
  rw [← hY] at bY
  rw [← hZ] at bZ
  obtain ⟨k, hk⟩ : ∃ k, k = d % 4 := ⟨_, rfl⟩
  have bk : 0 ≤ k ∧ k ≤ 3 := by omega
  have fm : ∀ n : Int, -10000000000000 ≤ n → n ≤ 10000000000000 → mform k n = true := fun n h1 h2 => by unfold mform; rw [wi_yes bk.1 bk.2, wi_yes h1 h2]; rfl
  have ce : ∀ m n : Int, -10000000000000 ≤ m → m ≤ 10000000000000 → -10000000000000 ≤ n → n ≤ 10000000000000 → cbe k m k n = 0 := fun m n h1 h2 h3 h4 => by unfold cbe; rw [fm m h1 h2, fm n h3 h4]; simp
  have c1 : ∀ w, Calls Tryd.prog 8 #[.agg #[.int .i64 k, .int .i64 X], .agg #[.int .i64 k, .int .i64 Z]] w fun e w' => e = .returned (.tuple #[.agg #[.int .i64 k, .int .i64 (X + Z)], .int .i64 0]) ∧ Below w.heap.size w w' := fun w => Add_ok k X k Z w (ce X Z (by omega) (by omega) (by omega) (by omega)) ⟨⟨by omega, by omega⟩, by omega, by omega⟩ (wi_yes (by omega) (by omega))
  have c2 : ∀ w, Calls Tryd.prog 8 #[.agg #[.int .i64 k, .int .i64 Y], .agg #[.int .i64 k, .int .i64 Z]] w fun e w' => e = .returned (.tuple #[.agg #[.int .i64 k, .int .i64 (Y + Z)], .int .i64 0]) ∧ Below w.heap.size w w' := fun w => Add_ok k Y k Z w (ce Y Z (by omega) (by omega) (by omega) (by omega)) ⟨⟨by omega, by omega⟩, by omega, by omega⟩ (wi_yes (by omega) (by omega))
  have c3 : ∀ w, Calls Tryd.prog 10 #[.agg #[.int .i64 k, .int .i64 (X + Z)], .agg #[.int .i64 k, .int .i64 Z]] w fun e w' => e = .returned (.tuple #[.agg #[.int .i64 k, .int .i64 X], .int .i64 0]) ∧ Below w.heap.size w w' := fun w => by
    have h := Sub_ok k (X + Z) k Z w (ce (X + Z) Z (by omega) (by omega) (by omega) (by omega)) ⟨⟨by omega, by omega⟩, by omega, by omega⟩ (wi_yes (by omega) (by omega))
    rw [show X + Z - Z = X by omega] at h
    exact h
  obtain ⟨O, hO⟩ : ∃ O, O = ord X Y := ⟨_, rfl⟩
  have c4 : ∀ w, Calls Tryd.prog 11 #[.agg #[.int .i64 k, .int .i64 X], .agg #[.int .i64 k, .int .i64 Y]] w fun e w' => e = .returned (.tuple #[.int .i64 O, .int .i64 0]) ∧ Below w.heap.size w w' := fun w => by rw [hO]; exact MCmp_ok k X k Y w (ce X Y (by omega) (by omega) (by omega) (by omega))
  have c5 : ∀ w, Calls Tryd.prog 11 #[.agg #[.int .i64 k, .int .i64 (X + Z)], .agg #[.int .i64 k, .int .i64 (Y + Z)]] w fun e w' => e = .returned (.tuple #[.int .i64 O, .int .i64 0]) ∧ Below w.heap.size w w' := fun w => by
    have h := MCmp_ok k (X + Z) k (Y + Z) w (ce (X + Z) (Y + Z) (by omega) (by omega) (by omega) (by omega))
    rw [ord_add, ← hO] at h
    exact h
  have C1 := (show Hid _ from c1)
  have C2 := (show Hid _ from c2)
  have C3 := (show Hid _ from c3)
  have C4 := (show Hid _ from c4)
  have C5 := (show Hid _ from c5)
  have HO := (show Hid _ from hO)
  have HX0 := (show Hid _ from hX)
  have HY0 := (show Hid _ from hY)
  have HZ0 := (show Hid _ from hZ)
  have HT := (show Hid _ from T)
  have HN := (show Hid _ from N)
  have HK0 := (show Hid _ from hk)
  clear c1 c2 c3 c4 c5 hO hX hY hZ T N bd fm ce bX bY bZ hk
  go_enter Tryd.func7, Tryd.ntmps7
  go_wp2_with fail
  refine (awake05 _ HT.out HN.out).mono ?_
  rintro e w1 ⟨rfl, b1⟩
  have BB_1 := (show Hid _ from b1)
  clear b1 HT HN
  go_upto_region 5 with fail
  rw [← HK0.out]
  clear HK0 bk
  refine wp_region_noPanic ?_
  refine wp_region_held_drew (S := fun w' => True) (by kernel_rfl) trivial (fun hHeld => ?_)
  refine takeD 0 29 (.int .i64 k) (by exact rfl) rfl (by kernel_rfl) (by kernel_rfl) (by kernel_rfl) (fun _ _ _ h => h) (Or.inl ⟨by rfl, ?_⟩) (by assumption) ?_
  · intro wq hS
    go_simp
  try simp only [Act.put, List.setIfInBounds_toArray, List.set_cons_zero, List.set_cons_succ]
  refine takeD 1 30 (.int .i64 a) (by exact rfl) rfl (by kernel_rfl) (by kernel_rfl) (by kernel_rfl) (fun _ _ _ h => h) (Or.inl ⟨by rfl, ?_⟩) (by assumption) ?_
  · intro wq hS
    go_simp
  try simp only [Act.put, List.setIfInBounds_toArray, List.set_cons_zero, List.set_cons_succ]
  refine takeD 2 31 (.int .i64 5000000000000) (by exact rfl) rfl (by kernel_rfl) (by kernel_rfl) (by kernel_rfl) (fun _ _ _ h => h) (Or.inl ⟨by rfl, ?_⟩) (by assumption) ?_
  · intro wq hS
    go_simp
  try simp only [Act.put, List.setIfInBounds_toArray, List.set_cons_zero, List.set_cons_succ]
  refine takeD 3 32 (.int .i64 X) (by exact rfl) rfl (by kernel_rfl) (by kernel_rfl) (by kernel_rfl) (fun _ _ _ h => h) (Or.inl ⟨by rfl, ?_⟩) (by assumption) ?_
  · intro wq hS
    go_simp
    exact HX0.out.symm
  try simp only [Act.put, List.setIfInBounds_toArray, List.set_cons_zero, List.set_cons_succ]
  refine takeD 4 33 (.agg #[.int .i64 k, .int .i64 X]) (by exact rfl) rfl (by kernel_rfl) (by kernel_rfl) (by kernel_rfl) (fun _ _ _ h => h) (Or.inl ⟨by rfl, ?_⟩) (by assumption) ?_
  · intro wq hS
    go_simp
  try simp only [Act.put, List.setIfInBounds_toArray, List.set_cons_zero, List.set_cons_succ]
  refine takeD 5 34 (.int .i64 k) (by exact rfl) rfl (by kernel_rfl) (by kernel_rfl) (by kernel_rfl) (fun _ _ _ h => h) (Or.inl ⟨by rfl, ?_⟩) (by assumption) ?_
  · intro wq hS
    go_simp
  try simp only [Act.put, List.setIfInBounds_toArray, List.set_cons_zero, List.set_cons_succ]
  refine takeD 6 35 (.int .i64 b) (by exact rfl) rfl (by kernel_rfl) (by kernel_rfl) (by kernel_rfl) (fun _ _ _ h => h) (Or.inl ⟨by rfl, ?_⟩) (by assumption) ?_
  · intro wq hS
    go_simp
  try simp only [Act.put, List.setIfInBounds_toArray, List.set_cons_zero, List.set_cons_succ]
  refine takeD 7 36 (.int .i64 5000000000000) (by exact rfl) rfl (by kernel_rfl) (by kernel_rfl) (by kernel_rfl) (fun _ _ _ h => h) (Or.inl ⟨by rfl, ?_⟩) (by assumption) ?_
  · intro wq hS
    go_simp
  try simp only [Act.put, List.setIfInBounds_toArray, List.set_cons_zero, List.set_cons_succ]
  refine takeD 8 37 (.int .i64 Y) (by exact rfl) rfl (by kernel_rfl) (by kernel_rfl) (by kernel_rfl) (fun _ _ _ h => h) (Or.inl ⟨by rfl, ?_⟩) (by assumption) ?_
  · intro wq hS
    go_simp
    exact HY0.out.symm
  try simp only [Act.put, List.setIfInBounds_toArray, List.set_cons_zero, List.set_cons_succ]
  refine takeD 9 38 (.agg #[.int .i64 k, .int .i64 Y]) (by exact rfl) rfl (by kernel_rfl) (by kernel_rfl) (by kernel_rfl) (fun _ _ _ h => h) (Or.inl ⟨by rfl, ?_⟩) (by assumption) ?_
  · intro wq hS
    go_simp
  try simp only [Act.put, List.setIfInBounds_toArray, List.set_cons_zero, List.set_cons_succ]
  refine takeD 10 39 (.int .i64 k) (by exact rfl) rfl (by kernel_rfl) (by kernel_rfl) (by kernel_rfl) (fun _ _ _ h => h) (Or.inl ⟨by rfl, ?_⟩) (by assumption) ?_
  · intro wq hS
    go_simp
  try simp only [Act.put, List.setIfInBounds_toArray, List.set_cons_zero, List.set_cons_succ]
  refine takeD 11 40 (.int .i64 c) (by exact rfl) rfl (by kernel_rfl) (by kernel_rfl) (by kernel_rfl) (fun _ _ _ h => h) (Or.inl ⟨by rfl, ?_⟩) (by assumption) ?_
  · intro wq hS
    go_simp
  try simp only [Act.put, List.setIfInBounds_toArray, List.set_cons_zero, List.set_cons_succ]
  refine takeD 12 41 (.int .i64 5000000000000) (by exact rfl) rfl (by kernel_rfl) (by kernel_rfl) (by kernel_rfl) (fun _ _ _ h => h) (Or.inl ⟨by rfl, ?_⟩) (by assumption) ?_
  · intro wq hS
    go_simp
  try simp only [Act.put, List.setIfInBounds_toArray, List.set_cons_zero, List.set_cons_succ]
  refine takeD 13 42 (.int .i64 Z) (by exact rfl) rfl (by kernel_rfl) (by kernel_rfl) (by kernel_rfl) (fun _ _ _ h => h) (Or.inl ⟨by rfl, ?_⟩) (by assumption) ?_
  · intro wq hS
    go_simp
    exact HZ0.out.symm
  try simp only [Act.put, List.setIfInBounds_toArray, List.set_cons_zero, List.set_cons_succ]
  refine takeD 14 43 (.agg #[.int .i64 k, .int .i64 Z]) (by exact rfl) rfl (by kernel_rfl) (by kernel_rfl) (by kernel_rfl) (fun _ _ _ h => h) (Or.inl ⟨by rfl, ?_⟩) (by assumption) ?_
  · intro wq hS
    go_simp
  try simp only [Act.put, List.setIfInBounds_toArray, List.set_cons_zero, List.set_cons_succ]
  clear hHeld
  have BB_z := (show Hid _ from (Below.refl w1.heap.size w1).drew)
  obtain ⟨W0, hW0⟩ : ∃ W0, W0 = w1 := ⟨_, rfl⟩
  have BW := (show Hid _ from BB_1.out)
  rw [← hW0] at BB_z BW
  rw [← hW0]
  clear hW0 BB_1
  generalize W0.drew = wz at *
  refine wpAnyH_ready (rs := [15, 16, 17]) (by kernel_rfl) (by simp) ?_
  refine (AllReadyH.cons (by exact rfl) (fun K hK => ?_) (AllReadyH.cons (by exact rfl) (fun K hK => ?_) (AllReadyH.cons (by exact rfl) (fun K hK => ?_) AllReadyH.nil)))
  · go_simp
    have BB_a1 := (show Hid _ from BB_z.out.alloc BB_z.out.size (.cells (mcl 0 0).toArray 23))
    have VX_a1 := (show Hid _ from va_new wz (mcl 0 0) 23)
    have HX : Hid (W0.heap.size ≤ wz.heap.size) := BB_z.out.size
    refine hK.out _ _ trivial (fun hHeld => ?_)
    try simp only [Act.put, List.setIfInBounds_toArray, List.set_cons_zero, List.set_cons_succ]
    clear hK K hHeld  BB_z
    change wpAnyH _ _ _ _ _ _ _ _ (wz.alloc (.cells (mcl 0 0).toArray 23))
    generalize wz.alloc (.cells (mcl 0 0).toArray 23) = wa1 at *
    generalize wz.heap.size = pX at *
    refine wpAnyH_ready (rs := [16, 17]) (by kernel_rfl) (by simp) ?_
    refine (AllReadyH.cons (by exact rfl) (fun K hK => ?_) (AllReadyH.cons (by exact rfl) (fun K hK => ?_) AllReadyH.nil))
    · go_simp
      have VX_a2 := (show Hid _ from VX_a1.out.alloc (.cells (mcl 0 0).toArray 23))
      have BB_a2 := (show Hid _ from BB_a1.out.alloc BB_a1.out.size (.cells (mcl 0 0).toArray 23))
      have VY_a2 := (show Hid _ from va_new wa1 (mcl 0 0) 23)
      have HY : Hid (W0.heap.size ≤ wa1.heap.size ∧ pX < wa1.heap.size) := ⟨BB_a1.out.size, VX_a1.out.lt⟩
      refine hK.out _ _ trivial (fun hHeld => ?_)
      try simp only [Act.put, List.setIfInBounds_toArray, List.set_cons_zero, List.set_cons_succ]
      clear hK K hHeld VX_a1 BB_a1
      change wpAnyH _ _ _ _ _ _ _ _ (wa1.alloc (.cells (mcl 0 0).toArray 23))
      generalize wa1.alloc (.cells (mcl 0 0).toArray 23) = wa2 at *
      generalize wa1.heap.size = pY at *
      refine wpAnyH_ready (rs := [17]) (by kernel_rfl) (by simp) ?_
      refine AllReadyH.cons (by exact rfl) (fun K hK => ?_) AllReadyH.nil
      go_simp
      have VX_a3 := (show Hid _ from VX_a2.out.alloc (.cells (mcl 0 0).toArray 23))
      have VY_a3 := (show Hid _ from VY_a2.out.alloc (.cells (mcl 0 0).toArray 23))
      have BB_a3 := (show Hid _ from BB_a2.out.alloc BB_a2.out.size (.cells (mcl 0 0).toArray 23))
      have VZ_a3 := (show Hid _ from va_new wa2 (mcl 0 0) 23)
      have HZ : Hid (W0.heap.size ≤ wa2.heap.size ∧ pX < wa2.heap.size ∧ pY < wa2.heap.size) := ⟨BB_a2.out.size, VX_a2.out.lt, VY_a2.out.lt⟩
      refine hK.out _ _ trivial (fun hHeld => ?_)
      try simp only [Act.put, List.setIfInBounds_toArray, List.set_cons_zero, List.set_cons_succ]
      clear hK K hHeld VX_a2 VY_a2 BB_a2
      change wpAnyH _ _ _ _ _ _ _ _ (wa2.alloc (.cells (mcl 0 0).toArray 23))
      generalize wa2.alloc (.cells (mcl 0 0).toArray 23) = wa3 at *
      generalize wa2.heap.size = pZ at *
      refine wpAnyH_ready (rs := [18]) (by kernel_rfl) (by simp) ?_
      refine AllReadyH.cons (by exact rfl) (fun K hK => ?_) AllReadyH.nil
      refine stAn (by rfl) (by rfl) 23 _ _ (by rfl) pX (by rfl) (mcl 0 0) (mcl k X) (by rfl) 23 VX_a3.out infoM rfl (mcl_one _ _) ?_
      intro ws4 v u
      have VX_s4 := (show Hid _ from v)
      have VY_s4 := (show Hid _ from VY_a3.out.upd u (by have := HX.out; have := HY.out; have := HZ.out; omega))
      have VZ_s4 := (show Hid _ from VZ_a3.out.upd u (by have := HX.out; have := HY.out; have := HZ.out; omega))
      have BB_s4 := (show Hid _ from u.bel BB_a3.out (by have := HX.out; have := HY.out; have := HZ.out; omega))
      refine hK.out _ _ trivial (fun hHeld => ?_)
      clear hK K hHeld v u VX_a3 VY_a3 VZ_a3 BB_a3
      refine wpAnyH_ready (rs := [19]) (by kernel_rfl) (by simp) ?_
      refine AllReadyH.cons (by exact rfl) (fun K hK => ?_) AllReadyH.nil
      refine stAn (by rfl) (by rfl) 23 _ _ (by rfl) pY (by rfl) (mcl 0 0) (mcl k Y) (by rfl) 23 VY_s4.out infoM rfl (mcl_one _ _) ?_
      intro ws5 v u
      have VY_s5 := (show Hid _ from v)
      have VX_s5 := (show Hid _ from VX_s4.out.upd u (by have := HX.out; have := HY.out; have := HZ.out; omega))
      have VZ_s5 := (show Hid _ from VZ_s4.out.upd u (by have := HX.out; have := HY.out; have := HZ.out; omega))
      have BB_s5 := (show Hid _ from u.bel BB_s4.out (by have := HX.out; have := HY.out; have := HZ.out; omega))
      refine hK.out _ _ trivial (fun hHeld => ?_)
      clear hK K hHeld v u VX_s4 VY_s4 VZ_s4 BB_s4
      refine wpAnyH_ready (rs := [20]) (by kernel_rfl) (by simp) ?_
      refine AllReadyH.cons (by exact rfl) (fun K hK => ?_) AllReadyH.nil
      refine stAn (by rfl) (by rfl) 23 _ _ (by rfl) pZ (by rfl) (mcl 0 0) (mcl k Z) (by rfl) 23 VZ_s5.out infoM rfl (mcl_one _ _) ?_
      intro ws6 v u
      have VZ_s6 := (show Hid _ from v)
      have VX_s6 := (show Hid _ from VX_s5.out.upd u (by have := HX.out; have := HY.out; have := HZ.out; omega))
      have VY_s6 := (show Hid _ from VY_s5.out.upd u (by have := HX.out; have := HY.out; have := HZ.out; omega))
      have BB_s6 := (show Hid _ from u.bel BB_s5.out (by have := HX.out; have := HY.out; have := HZ.out; omega))
      refine hK.out _ _ trivial (fun hHeld => ?_)
      clear hK K hHeld v u VX_s5 VY_s5 VZ_s5 BB_s5
      refine wpAnyH_done (by kernel_rfl) ?_ _
      refine NoPanic.normal ?_
      have VX0 := VX_s6.out.cell 0 (v := .int .i64 k) rfl
      have VX1 := VX_s6.out.cell 1 (v := .int .i64 (X)) rfl
      have VXl := VX_s6.out.lt
      have VZ0 := VZ_s6.out.cell 0 (v := .int .i64 k) rfl
      have VZ1 := VZ_s6.out.cell 1 (v := .int .i64 (Z)) rfl
      have VZl := VZ_s6.out.lt
      go_wp2_with fail
      clear VX0 VX1 VXl VZ0 VZ1 VZl
      refine (C1.out _).mono ?_
      rintro e w11 ⟨rfl, b11⟩
      have VX_11 := (show Hid _ from (VX_s6.out).step b11)
      have VY_11 := (show Hid _ from (VY_s6.out).step b11)
      have VZ_11 := (show Hid _ from (VZ_s6.out).step b11)
      have BB_11 := (show Hid _ from BB_s6.out.trans (b11.mono BB_s6.out.size))
      clear b11 VX_s6 VY_s6 VZ_s6 BB_s6
      have VY0 := VY_11.out.cell 0 (v := .int .i64 k) rfl
      have VY1 := VY_11.out.cell 1 (v := .int .i64 (Y)) rfl
      have VYl := VY_11.out.lt
      have VZ0 := VZ_11.out.cell 0 (v := .int .i64 k) rfl
      have VZ1 := VZ_11.out.cell 1 (v := .int .i64 (Z)) rfl
      have VZl := VZ_11.out.lt
      go_wp2_with fail
      clear VY0 VY1 VYl VZ0 VZ1 VZl
      refine (C2.out _).mono ?_
      rintro e w12 ⟨rfl, b12⟩
      have VX_12 := (show Hid _ from (VX_11.out.alloc (.cells #[.int .i64 k, .int .i64 (X + Z)] 23)).step b12)
      have VY_12 := (show Hid _ from (VY_11.out.alloc (.cells #[.int .i64 k, .int .i64 (X + Z)] 23)).step b12)
      have VZ_12 := (show Hid _ from (VZ_11.out.alloc (.cells #[.int .i64 k, .int .i64 (X + Z)] 23)).step b12)
      have VP_12 := (show Hid _ from (va_new w11 [.int .i64 k, .int .i64 (X + Z)] 23).step b12)
      have BB_12 := (show Hid _ from BB_11.out.trans ((below_over b12).mono BB_11.out.size))
      clear b12 VX_11 VY_11 VZ_11 BB_11
      generalize w11.heap.size = pVP at *
      have VP0 := VP_12.out.cell 0 (v := .int .i64 k) rfl
      have VP1 := VP_12.out.cell 1 (v := .int .i64 (X + Z)) rfl
      have VPl := VP_12.out.lt
      have VZ0 := VZ_12.out.cell 0 (v := .int .i64 k) rfl
      have VZ1 := VZ_12.out.cell 1 (v := .int .i64 (Z)) rfl
      have VZl := VZ_12.out.lt
      go_wp2_with fail
      clear VP0 VP1 VPl VZ0 VZ1 VZl
      refine (C3.out _).mono ?_
      rintro e w13 ⟨rfl, b13⟩
      have VX_13 := (show Hid _ from (VX_12.out.alloc (.cells #[.int .i64 k, .int .i64 (Y + Z)] 23)).step b13)
      have VY_13 := (show Hid _ from (VY_12.out.alloc (.cells #[.int .i64 k, .int .i64 (Y + Z)] 23)).step b13)
      have VZ_13 := (show Hid _ from (VZ_12.out.alloc (.cells #[.int .i64 k, .int .i64 (Y + Z)] 23)).step b13)
      have VP_13 := (show Hid _ from (VP_12.out.alloc (.cells #[.int .i64 k, .int .i64 (Y + Z)] 23)).step b13)
      have VQ_13 := (show Hid _ from (va_new w12 [.int .i64 k, .int .i64 (Y + Z)] 23).step b13)
      have BB_13 := (show Hid _ from BB_12.out.trans ((below_over b13).mono BB_12.out.size))
      clear b13 VX_12 VY_12 VZ_12 VP_12 BB_12
      generalize w12.heap.size = pVQ at *
      have VX0 := VX_13.out.cell 0 (v := .int .i64 k) rfl
      have VX1 := VX_13.out.cell 1 (v := .int .i64 (X)) rfl
      have VXl := VX_13.out.lt
      have VY0 := VY_13.out.cell 0 (v := .int .i64 k) rfl
      have VY1 := VY_13.out.cell 1 (v := .int .i64 (Y)) rfl
      have VYl := VY_13.out.lt
      go_wp2_with fail
      clear VX0 VX1 VXl VY0 VY1 VYl
      refine (C4.out _).mono ?_
      rintro e w14 ⟨rfl, b14⟩
      have VX_14 := (show Hid _ from (VX_13.out.alloc (.cells #[.int .i64 k, .int .i64 (X)] 23)).step b14)
      have VY_14 := (show Hid _ from (VY_13.out.alloc (.cells #[.int .i64 k, .int .i64 (X)] 23)).step b14)
      have VZ_14 := (show Hid _ from (VZ_13.out.alloc (.cells #[.int .i64 k, .int .i64 (X)] 23)).step b14)
      have VP_14 := (show Hid _ from (VP_13.out.alloc (.cells #[.int .i64 k, .int .i64 (X)] 23)).step b14)
      have VQ_14 := (show Hid _ from (VQ_13.out.alloc (.cells #[.int .i64 k, .int .i64 (X)] 23)).step b14)
      have VK_14 := (show Hid _ from (va_new w13 [.int .i64 k, .int .i64 (X)] 23).step b14)
      have BB_14 := (show Hid _ from BB_13.out.trans ((below_over b14).mono BB_13.out.size))
      clear b14 VX_13 VY_13 VZ_13 VP_13 VQ_13 BB_13
      generalize w13.heap.size = pVK at *
      have VP0 := VP_14.out.cell 0 (v := .int .i64 k) rfl
      have VP1 := VP_14.out.cell 1 (v := .int .i64 (X + Z)) rfl
      have VPl := VP_14.out.lt
      have VQ0 := VQ_14.out.cell 0 (v := .int .i64 k) rfl
      have VQ1 := VQ_14.out.cell 1 (v := .int .i64 (Y + Z)) rfl
      have VQl := VQ_14.out.lt
      go_wp2_with fail
      clear VP0 VP1 VPl VQ0 VQ1 VQl
      refine (C5.out _).mono ?_
      rintro e w15 ⟨rfl, b15⟩
      have VX_15 := (show Hid _ from (VX_14.out).step b15)
      have VY_15 := (show Hid _ from (VY_14.out).step b15)
      have VZ_15 := (show Hid _ from (VZ_14.out).step b15)
      have VP_15 := (show Hid _ from (VP_14.out).step b15)
      have VQ_15 := (show Hid _ from (VQ_14.out).step b15)
      have VK_15 := (show Hid _ from (VK_14.out).step b15)
      have BB_15 := (show Hid _ from BB_14.out.trans (b15.mono BB_14.out.size))
      clear b15 VX_14 VY_14 VZ_14 VP_14 VQ_14 VK_14 BB_14
      have VX0 := VX_15.out.cell 0 (v := .int .i64 k) rfl
      have VX1 := VX_15.out.cell 1 (v := .int .i64 (X)) rfl
      have VXl := VX_15.out.lt
      have VY0 := VY_15.out.cell 0 (v := .int .i64 k) rfl
      have VY1 := VY_15.out.cell 1 (v := .int .i64 (Y)) rfl
      have VYl := VY_15.out.lt
      have VK0 := VK_15.out.cell 0 (v := .int .i64 k) rfl
      have VK1 := VK_15.out.cell 1 (v := .int .i64 (X)) rfl
      have VKl := VK_15.out.lt
      have q1 : ∀ w, (Op.equalIn 10000 23 (.agg #[.int .i64 k, .int .i64 X]) (.agg #[.int .i64 k, .int .i64 X])).run Tryd.prog w = .ok true w := fun w => by rw [eqM2]; simp
      by_cases hxy : X = Y
      · have q2 : ∀ w, (Op.equalIn 10000 23 (.agg #[.int .i64 k, .int .i64 X]) (.agg #[.int .i64 k, .int .i64 Y])).run Tryd.prog w = .ok true w := fun w => by rw [eqM2, hxy]; simp
        have q3 : (O == 0) = true := by rw [HO.out, ord_zero, hxy]; simp
        clear hxy
        go_wp2_with fail
        exact bodyPost_ret (v := .bool true) (by simp [results, Tryd.results7, go_sem]) rfl ⟨rfl, BW.out.trans (BB_15.out.mono BW.out.size)⟩
      · have q2 : ∀ w, (Op.equalIn 10000 23 (.agg #[.int .i64 k, .int .i64 X]) (.agg #[.int .i64 k, .int .i64 Y])).run Tryd.prog w = .ok false w := fun w => by rw [eqM2]; simp [hxy]
        have q3 : (O == 0) = false := by rw [HO.out, ord_zero]; simpa using hxy
        clear hxy
        go_wp2_with fail
        exact bodyPost_ret (v := .bool true) (by simp [results, Tryd.results7, go_sem]) rfl ⟨rfl, BW.out.trans (BB_15.out.mono BW.out.size)⟩
    · go_simp
      have VX_a7 := (show Hid _ from VX_a1.out.alloc (.cells (mcl 0 0).toArray 23))
      have BB_a7 := (show Hid _ from BB_a1.out.alloc BB_a1.out.size (.cells (mcl 0 0).toArray 23))
      have VZ_a7 := (show Hid _ from va_new wa1 (mcl 0 0) 23)
      have HZ : Hid (W0.heap.size ≤ wa1.heap.size ∧ pX < wa1.heap.size) := ⟨BB_a1.out.size, VX_a1.out.lt⟩
      refine hK.out _ _ trivial (fun hHeld => ?_)
      try simp only [Act.put, List.setIfInBounds_toArray, List.set_cons_zero, List.set_cons_succ]
      clear hK K hHeld VX_a1 BB_a1
      change wpAnyH _ _ _ _ _ _ _ _ (wa1.alloc (.cells (mcl 0 0).toArray 23))
      generalize wa1.alloc (.cells (mcl 0 0).toArray 23) = wa7 at *
      generalize wa1.heap.size = pZ at *
      refine wpAnyH_ready (rs := [16]) (by kernel_rfl) (by simp) ?_
      refine AllReadyH.cons (by exact rfl) (fun K hK => ?_) AllReadyH.nil
      go_simp
      have VX_a8 := (show Hid _ from VX_a7.out.alloc (.cells (mcl 0 0).toArray 23))
      have VZ_a8 := (show Hid _ from VZ_a7.out.alloc (.cells (mcl 0 0).toArray 23))
      have BB_a8 := (show Hid _ from BB_a7.out.alloc BB_a7.out.size (.cells (mcl 0 0).toArray 23))
      have VY_a8 := (show Hid _ from va_new wa7 (mcl 0 0) 23)
      have HY : Hid (W0.heap.size ≤ wa7.heap.size ∧ pX < wa7.heap.size ∧ pZ < wa7.heap.size) := ⟨BB_a7.out.size, VX_a7.out.lt, VZ_a7.out.lt⟩
      refine hK.out _ _ trivial (fun hHeld => ?_)
      try simp only [Act.put, List.setIfInBounds_toArray, List.set_cons_zero, List.set_cons_succ]
      clear hK K hHeld VX_a7 VZ_a7 BB_a7
      change wpAnyH _ _ _ _ _ _ _ _ (wa7.alloc (.cells (mcl 0 0).toArray 23))
      generalize wa7.alloc (.cells (mcl 0 0).toArray 23) = wa8 at *
      generalize wa7.heap.size = pY at *
      refine wpAnyH_ready (rs := [18]) (by kernel_rfl) (by simp) ?_
      refine AllReadyH.cons (by exact rfl) (fun K hK => ?_) AllReadyH.nil
      refine stAn (by rfl) (by rfl) 23 _ _ (by rfl) pX (by rfl) (mcl 0 0) (mcl k X) (by rfl) 23 VX_a8.out infoM rfl (mcl_one _ _) ?_
      intro ws9 v u
      have VX_s9 := (show Hid _ from v)
      have VY_s9 := (show Hid _ from VY_a8.out.upd u (by have := HX.out; have := HY.out; have := HZ.out; omega))
      have VZ_s9 := (show Hid _ from VZ_a8.out.upd u (by have := HX.out; have := HY.out; have := HZ.out; omega))
      have BB_s9 := (show Hid _ from u.bel BB_a8.out (by have := HX.out; have := HY.out; have := HZ.out; omega))
      refine hK.out _ _ trivial (fun hHeld => ?_)
      clear hK K hHeld v u VX_a8 VY_a8 VZ_a8 BB_a8
      refine wpAnyH_ready (rs := [19]) (by kernel_rfl) (by simp) ?_
      refine AllReadyH.cons (by exact rfl) (fun K hK => ?_) AllReadyH.nil
      refine stAn (by rfl) (by rfl) 23 _ _ (by rfl) pY (by rfl) (mcl 0 0) (mcl k Y) (by rfl) 23 VY_s9.out infoM rfl (mcl_one _ _) ?_
      intro ws10 v u
      have VY_s10 := (show Hid _ from v)
      have VX_s10 := (show Hid _ from VX_s9.out.upd u (by have := HX.out; have := HY.out; have := HZ.out; omega))
      have VZ_s10 := (show Hid _ from VZ_s9.out.upd u (by have := HX.out; have := HY.out; have := HZ.out; omega))
      have BB_s10 := (show Hid _ from u.bel BB_s9.out (by have := HX.out; have := HY.out; have := HZ.out; omega))
      refine hK.out _ _ trivial (fun hHeld => ?_)
      clear hK K hHeld v u VX_s9 VY_s9 VZ_s9 BB_s9
      refine wpAnyH_ready (rs := [20]) (by kernel_rfl) (by simp) ?_
      refine AllReadyH.cons (by exact rfl) (fun K hK => ?_) AllReadyH.nil
      refine stAn (by rfl) (by rfl) 23 _ _ (by rfl) pZ (by rfl) (mcl 0 0) (mcl k Z) (by rfl) 23 VZ_s10.out infoM rfl (mcl_one _ _) ?_
      intro ws11 v u
      have VZ_s11 := (show Hid _ from v)
      have VX_s11 := (show Hid _ from VX_s10.out.upd u (by have := HX.out; have := HY.out; have := HZ.out; omega))
      have VY_s11 := (show Hid _ from VY_s10.out.upd u (by have := HX.out; have := HY.out; have := HZ.out; omega))
      have BB_s11 := (show Hid _ from u.bel BB_s10.out (by have := HX.out; have := HY.out; have := HZ.out; omega))
      refine hK.out _ _ trivial (fun hHeld => ?_)
      clear hK K hHeld v u VX_s10 VY_s10 VZ_s10 BB_s10
      refine wpAnyH_done (by kernel_rfl) ?_ _
      refine NoPanic.normal ?_
      have VX0 := VX_s11.out.cell 0 (v := .int .i64 k) rfl
      have VX1 := VX_s11.out.cell 1 (v := .int .i64 (X)) rfl
      have VXl := VX_s11.out.lt
      have VZ0 := VZ_s11.out.cell 0 (v := .int .i64 k) rfl
      have VZ1 := VZ_s11.out.cell 1 (v := .int .i64 (Z)) rfl
      have VZl := VZ_s11.out.lt
      go_wp2_with fail
      clear VX0 VX1 VXl VZ0 VZ1 VZl
      refine (C1.out _).mono ?_
      rintro e w11 ⟨rfl, b11⟩
      have VX_11 := (show Hid _ from (VX_s11.out).step b11)
      have VY_11 := (show Hid _ from (VY_s11.out).step b11)
      have VZ_11 := (show Hid _ from (VZ_s11.out).step b11)
      have BB_11 := (show Hid _ from BB_s11.out.trans (b11.mono BB_s11.out.size))
      clear b11 VX_s11 VY_s11 VZ_s11 BB_s11
      have VY0 := VY_11.out.cell 0 (v := .int .i64 k) rfl
      have VY1 := VY_11.out.cell 1 (v := .int .i64 (Y)) rfl
      have VYl := VY_11.out.lt
      have VZ0 := VZ_11.out.cell 0 (v := .int .i64 k) rfl
      have VZ1 := VZ_11.out.cell 1 (v := .int .i64 (Z)) rfl
      have VZl := VZ_11.out.lt
      go_wp2_with fail
      clear VY0 VY1 VYl VZ0 VZ1 VZl
      refine (C2.out _).mono ?_
      rintro e w12 ⟨rfl, b12⟩
      have VX_12 := (show Hid _ from (VX_11.out.alloc (.cells #[.int .i64 k, .int .i64 (X + Z)] 23)).step b12)
      have VY_12 := (show Hid _ from (VY_11.out.alloc (.cells #[.int .i64 k, .int .i64 (X + Z)] 23)).step b12)
      have VZ_12 := (show Hid _ from (VZ_11.out.alloc (.cells #[.int .i64 k, .int .i64 (X + Z)] 23)).step b12)
      have VP_12 := (show Hid _ from (va_new w11 [.int .i64 k, .int .i64 (X + Z)] 23).step b12)
      have BB_12 := (show Hid _ from BB_11.out.trans ((below_over b12).mono BB_11.out.size))
      clear b12 VX_11 VY_11 VZ_11 BB_11
      generalize w11.heap.size = pVP at *
      have VP0 := VP_12.out.cell 0 (v := .int .i64 k) rfl
      have VP1 := VP_12.out.cell 1 (v := .int .i64 (X + Z)) rfl
      have VPl := VP_12.out.lt
      have VZ0 := VZ_12.out.cell 0 (v := .int .i64 k) rfl
      have VZ1 := VZ_12.out.cell 1 (v := .int .i64 (Z)) rfl
      have VZl := VZ_12.out.lt
      go_wp2_with fail
      clear VP0 VP1 VPl VZ0 VZ1 VZl
      refine (C3.out _).mono ?_
      rintro e w13 ⟨rfl, b13⟩
      have VX_13 := (show Hid _ from (VX_12.out.alloc (.cells #[.int .i64 k, .int .i64 (Y + Z)] 23)).step b13)
      have VY_13 := (show Hid _ from (VY_12.out.alloc (.cells #[.int .i64 k, .int .i64 (Y + Z)] 23)).step b13)
      have VZ_13 := (show Hid _ from (VZ_12.out.alloc (.cells #[.int .i64 k, .int .i64 (Y + Z)] 23)).step b13)
      have VP_13 := (show Hid _ from (VP_12.out.alloc (.cells #[.int .i64 k, .int .i64 (Y + Z)] 23)).step b13)
      have VQ_13 := (show Hid _ from (va_new w12 [.int .i64 k, .int .i64 (Y + Z)] 23).step b13)
      have BB_13 := (show Hid _ from BB_12.out.trans ((below_over b13).mono BB_12.out.size))
      clear b13 VX_12 VY_12 VZ_12 VP_12 BB_12
      generalize w12.heap.size = pVQ at *
      have VX0 := VX_13.out.cell 0 (v := .int .i64 k) rfl
      have VX1 := VX_13.out.cell 1 (v := .int .i64 (X)) rfl
      have VXl := VX_13.out.lt
      have VY0 := VY_13.out.cell 0 (v := .int .i64 k) rfl
      have VY1 := VY_13.out.cell 1 (v := .int .i64 (Y)) rfl
      have VYl := VY_13.out.lt
      go_wp2_with fail
      clear VX0 VX1 VXl VY0 VY1 VYl
      refine (C4.out _).mono ?_
      rintro e w14 ⟨rfl, b14⟩
      have VX_14 := (show Hid _ from (VX_13.out.alloc (.cells #[.int .i64 k, .int .i64 (X)] 23)).step b14)
      have VY_14 := (show Hid _ from (VY_13.out.alloc (.cells #[.int .i64 k, .int .i64 (X)] 23)).step b14)
      have VZ_14 := (show Hid _ from (VZ_13.out.alloc (.cells #[.int .i64 k, .int .i64 (X)] 23)).step b14)
      have VP_14 := (show Hid _ from (VP_13.out.alloc (.cells #[.int .i64 k, .int .i64 (X)] 23)).step b14)
      have VQ_14 := (show Hid _ from (VQ_13.out.alloc (.cells #[.int .i64 k, .int .i64 (X)] 23)).step b14)
      have VK_14 := (show Hid _ from (va_new w13 [.int .i64 k, .int .i64 (X)] 23).step b14)
      have BB_14 := (show Hid _ from BB_13.out.trans ((below_over b14).mono BB_13.out.size))
      clear b14 VX_13 VY_13 VZ_13 VP_13 VQ_13 BB_13
      generalize w13.heap.size = pVK at *
      have VP0 := VP_14.out.cell 0 (v := .int .i64 k) rfl
      have VP1 := VP_14.out.cell 1 (v := .int .i64 (X + Z)) rfl
      have VPl := VP_14.out.lt
      have VQ0 := VQ_14.out.cell 0 (v := .int .i64 k) rfl
      have VQ1 := VQ_14.out.cell 1 (v := .int .i64 (Y + Z)) rfl
      have VQl := VQ_14.out.lt
      go_wp2_with fail
      clear VP0 VP1 VPl VQ0 VQ1 VQl
      refine (C5.out _).mono ?_
      rintro e w15 ⟨rfl, b15⟩
      have VX_15 := (show Hid _ from (VX_14.out).step b15)
      have VY_15 := (show Hid _ from (VY_14.out).step b15)
      have VZ_15 := (show Hid _ from (VZ_14.out).step b15)
      have VP_15 := (show Hid _ from (VP_14.out).step b15)
      have VQ_15 := (show Hid _ from (VQ_14.out).step b15)
      have VK_15 := (show Hid _ from (VK_14.out).step b15)
      have BB_15 := (show Hid _ from BB_14.out.trans (b15.mono BB_14.out.size))
      clear b15 VX_14 VY_14 VZ_14 VP_14 VQ_14 VK_14 BB_14
      have VX0 := VX_15.out.cell 0 (v := .int .i64 k) rfl
      have VX1 := VX_15.out.cell 1 (v := .int .i64 (X)) rfl
      have VXl := VX_15.out.lt
      have VY0 := VY_15.out.cell 0 (v := .int .i64 k) rfl
      have VY1 := VY_15.out.cell 1 (v := .int .i64 (Y)) rfl
      have VYl := VY_15.out.lt
      have VK0 := VK_15.out.cell 0 (v := .int .i64 k) rfl
      have VK1 := VK_15.out.cell 1 (v := .int .i64 (X)) rfl
      have VKl := VK_15.out.lt
      have q1 : ∀ w, (Op.equalIn 10000 23 (.agg #[.int .i64 k, .int .i64 X]) (.agg #[.int .i64 k, .int .i64 X])).run Tryd.prog w = .ok true w := fun w => by rw [eqM2]; simp
      by_cases hxy : X = Y
      · have q2 : ∀ w, (Op.equalIn 10000 23 (.agg #[.int .i64 k, .int .i64 X]) (.agg #[.int .i64 k, .int .i64 Y])).run Tryd.prog w = .ok true w := fun w => by rw [eqM2, hxy]; simp
        have q3 : (O == 0) = true := by rw [HO.out, ord_zero, hxy]; simp
        clear hxy
        go_wp2_with fail
        exact bodyPost_ret (v := .bool true) (by simp [results, Tryd.results7, go_sem]) rfl ⟨rfl, BW.out.trans (BB_15.out.mono BW.out.size)⟩
      · have q2 : ∀ w, (Op.equalIn 10000 23 (.agg #[.int .i64 k, .int .i64 X]) (.agg #[.int .i64 k, .int .i64 Y])).run Tryd.prog w = .ok false w := fun w => by rw [eqM2]; simp [hxy]
        have q3 : (O == 0) = false := by rw [HO.out, ord_zero]; simpa using hxy
        clear hxy
        go_wp2_with fail
        exact bodyPost_ret (v := .bool true) (by simp [results, Tryd.results7, go_sem]) rfl ⟨rfl, BW.out.trans (BB_15.out.mono BW.out.size)⟩
  · go_simp
    have BB_a12 := (show Hid _ from BB_z.out.alloc BB_z.out.size (.cells (mcl 0 0).toArray 23))
    have VY_a12 := (show Hid _ from va_new wz (mcl 0 0) 23)
    have HY : Hid (W0.heap.size ≤ wz.heap.size) := BB_z.out.size
    refine hK.out _ _ trivial (fun hHeld => ?_)
    try simp only [Act.put, List.setIfInBounds_toArray, List.set_cons_zero, List.set_cons_succ]
    clear hK K hHeld  BB_z
    change wpAnyH _ _ _ _ _ _ _ _ (wz.alloc (.cells (mcl 0 0).toArray 23))
    generalize wz.alloc (.cells (mcl 0 0).toArray 23) = wa12 at *
    generalize wz.heap.size = pY at *
    refine wpAnyH_ready (rs := [15, 17]) (by kernel_rfl) (by simp) ?_
    refine (AllReadyH.cons (by exact rfl) (fun K hK => ?_) (AllReadyH.cons (by exact rfl) (fun K hK => ?_) AllReadyH.nil))
    · go_simp
      have VY_a13 := (show Hid _ from VY_a12.out.alloc (.cells (mcl 0 0).toArray 23))
      have BB_a13 := (show Hid _ from BB_a12.out.alloc BB_a12.out.size (.cells (mcl 0 0).toArray 23))
      have VX_a13 := (show Hid _ from va_new wa12 (mcl 0 0) 23)
      have HX : Hid (W0.heap.size ≤ wa12.heap.size ∧ pY < wa12.heap.size) := ⟨BB_a12.out.size, VY_a12.out.lt⟩
      refine hK.out _ _ trivial (fun hHeld => ?_)
      try simp only [Act.put, List.setIfInBounds_toArray, List.set_cons_zero, List.set_cons_succ]
      clear hK K hHeld VY_a12 BB_a12
      change wpAnyH _ _ _ _ _ _ _ _ (wa12.alloc (.cells (mcl 0 0).toArray 23))
      generalize wa12.alloc (.cells (mcl 0 0).toArray 23) = wa13 at *
      generalize wa12.heap.size = pX at *
      refine wpAnyH_ready (rs := [17]) (by kernel_rfl) (by simp) ?_
      refine AllReadyH.cons (by exact rfl) (fun K hK => ?_) AllReadyH.nil
      go_simp
      have VY_a14 := (show Hid _ from VY_a13.out.alloc (.cells (mcl 0 0).toArray 23))
      have VX_a14 := (show Hid _ from VX_a13.out.alloc (.cells (mcl 0 0).toArray 23))
      have BB_a14 := (show Hid _ from BB_a13.out.alloc BB_a13.out.size (.cells (mcl 0 0).toArray 23))
      have VZ_a14 := (show Hid _ from va_new wa13 (mcl 0 0) 23)
      have HZ : Hid (W0.heap.size ≤ wa13.heap.size ∧ pY < wa13.heap.size ∧ pX < wa13.heap.size) := ⟨BB_a13.out.size, VY_a13.out.lt, VX_a13.out.lt⟩
      refine hK.out _ _ trivial (fun hHeld => ?_)
      try simp only [Act.put, List.setIfInBounds_toArray, List.set_cons_zero, List.set_cons_succ]
      clear hK K hHeld VY_a13 VX_a13 BB_a13
      change wpAnyH _ _ _ _ _ _ _ _ (wa13.alloc (.cells (mcl 0 0).toArray 23))
      generalize wa13.alloc (.cells (mcl 0 0).toArray 23) = wa14 at *
      generalize wa13.heap.size = pZ at *
      refine wpAnyH_ready (rs := [18]) (by kernel_rfl) (by simp) ?_
      refine AllReadyH.cons (by exact rfl) (fun K hK => ?_) AllReadyH.nil
      refine stAn (by rfl) (by rfl) 23 _ _ (by rfl) pX (by rfl) (mcl 0 0) (mcl k X) (by rfl) 23 VX_a14.out infoM rfl (mcl_one _ _) ?_
      intro ws15 v u
      have VX_s15 := (show Hid _ from v)
      have VY_s15 := (show Hid _ from VY_a14.out.upd u (by have := HX.out; have := HY.out; have := HZ.out; omega))
      have VZ_s15 := (show Hid _ from VZ_a14.out.upd u (by have := HX.out; have := HY.out; have := HZ.out; omega))
      have BB_s15 := (show Hid _ from u.bel BB_a14.out (by have := HX.out; have := HY.out; have := HZ.out; omega))
      refine hK.out _ _ trivial (fun hHeld => ?_)
      clear hK K hHeld v u VX_a14 VY_a14 VZ_a14 BB_a14
      refine wpAnyH_ready (rs := [19]) (by kernel_rfl) (by simp) ?_
      refine AllReadyH.cons (by exact rfl) (fun K hK => ?_) AllReadyH.nil
      refine stAn (by rfl) (by rfl) 23 _ _ (by rfl) pY (by rfl) (mcl 0 0) (mcl k Y) (by rfl) 23 VY_s15.out infoM rfl (mcl_one _ _) ?_
      intro ws16 v u
      have VY_s16 := (show Hid _ from v)
      have VX_s16 := (show Hid _ from VX_s15.out.upd u (by have := HX.out; have := HY.out; have := HZ.out; omega))
      have VZ_s16 := (show Hid _ from VZ_s15.out.upd u (by have := HX.out; have := HY.out; have := HZ.out; omega))
      have BB_s16 := (show Hid _ from u.bel BB_s15.out (by have := HX.out; have := HY.out; have := HZ.out; omega))
      refine hK.out _ _ trivial (fun hHeld => ?_)
      clear hK K hHeld v u VX_s15 VY_s15 VZ_s15 BB_s15
      refine wpAnyH_ready (rs := [20]) (by kernel_rfl) (by simp) ?_
      refine AllReadyH.cons (by exact rfl) (fun K hK => ?_) AllReadyH.nil
      refine stAn (by rfl) (by rfl) 23 _ _ (by rfl) pZ (by rfl) (mcl 0 0) (mcl k Z) (by rfl) 23 VZ_s16.out infoM rfl (mcl_one _ _) ?_
      intro ws17 v u
      have VZ_s17 := (show Hid _ from v)
      have VX_s17 := (show Hid _ from VX_s16.out.upd u (by have := HX.out; have := HY.out; have := HZ.out; omega))
      have VY_s17 := (show Hid _ from VY_s16.out.upd u (by have := HX.out; have := HY.out; have := HZ.out; omega))
      have BB_s17 := (show Hid _ from u.bel BB_s16.out (by have := HX.out; have := HY.out; have := HZ.out; omega))
      refine hK.out _ _ trivial (fun hHeld => ?_)
      clear hK K hHeld v u VX_s16 VY_s16 VZ_s16 BB_s16
      refine wpAnyH_done (by kernel_rfl) ?_ _
      refine NoPanic.normal ?_
      have VX0 := VX_s17.out.cell 0 (v := .int .i64 k) rfl
      have VX1 := VX_s17.out.cell 1 (v := .int .i64 (X)) rfl
      have VXl := VX_s17.out.lt
      have VZ0 := VZ_s17.out.cell 0 (v := .int .i64 k) rfl
      have VZ1 := VZ_s17.out.cell 1 (v := .int .i64 (Z)) rfl
      have VZl := VZ_s17.out.lt
      go_wp2_with fail
      clear VX0 VX1 VXl VZ0 VZ1 VZl
      refine (C1.out _).mono ?_
      rintro e w11 ⟨rfl, b11⟩
      have VX_11 := (show Hid _ from (VX_s17.out).step b11)
      have VY_11 := (show Hid _ from (VY_s17.out).step b11)
      have VZ_11 := (show Hid _ from (VZ_s17.out).step b11)
      have BB_11 := (show Hid _ from BB_s17.out.trans (b11.mono BB_s17.out.size))
      clear b11 VX_s17 VY_s17 VZ_s17 BB_s17
      have VY0 := VY_11.out.cell 0 (v := .int .i64 k) rfl
      have VY1 := VY_11.out.cell 1 (v := .int .i64 (Y)) rfl
      have VYl := VY_11.out.lt
      have VZ0 := VZ_11.out.cell 0 (v := .int .i64 k) rfl
      have VZ1 := VZ_11.out.cell 1 (v := .int .i64 (Z)) rfl
      have VZl := VZ_11.out.lt
      go_wp2_with fail
      clear VY0 VY1 VYl VZ0 VZ1 VZl
      refine (C2.out _).mono ?_
      rintro e w12 ⟨rfl, b12⟩
      have VX_12 := (show Hid _ from (VX_11.out.alloc (.cells #[.int .i64 k, .int .i64 (X + Z)] 23)).step b12)
      have VY_12 := (show Hid _ from (VY_11.out.alloc (.cells #[.int .i64 k, .int .i64 (X + Z)] 23)).step b12)
      have VZ_12 := (show Hid _ from (VZ_11.out.alloc (.cells #[.int .i64 k, .int .i64 (X + Z)] 23)).step b12)
      have VP_12 := (show Hid _ from (va_new w11 [.int .i64 k, .int .i64 (X + Z)] 23).step b12)
      have BB_12 := (show Hid _ from BB_11.out.trans ((below_over b12).mono BB_11.out.size))
      clear b12 VX_11 VY_11 VZ_11 BB_11
      generalize w11.heap.size = pVP at *
      have VP0 := VP_12.out.cell 0 (v := .int .i64 k) rfl
      have VP1 := VP_12.out.cell 1 (v := .int .i64 (X + Z)) rfl
      have VPl := VP_12.out.lt
      have VZ0 := VZ_12.out.cell 0 (v := .int .i64 k) rfl
      have VZ1 := VZ_12.out.cell 1 (v := .int .i64 (Z)) rfl
      have VZl := VZ_12.out.lt
      go_wp2_with fail
      clear VP0 VP1 VPl VZ0 VZ1 VZl
      refine (C3.out _).mono ?_
      rintro e w13 ⟨rfl, b13⟩
      have VX_13 := (show Hid _ from (VX_12.out.alloc (.cells #[.int .i64 k, .int .i64 (Y + Z)] 23)).step b13)
      have VY_13 := (show Hid _ from (VY_12.out.alloc (.cells #[.int .i64 k, .int .i64 (Y + Z)] 23)).step b13)
      have VZ_13 := (show Hid _ from (VZ_12.out.alloc (.cells #[.int .i64 k, .int .i64 (Y + Z)] 23)).step b13)
      have VP_13 := (show Hid _ from (VP_12.out.alloc (.cells #[.int .i64 k, .int .i64 (Y + Z)] 23)).step b13)
      have VQ_13 := (show Hid _ from (va_new w12 [.int .i64 k, .int .i64 (Y + Z)] 23).step b13)
      have BB_13 := (show Hid _ from BB_12.out.trans ((below_over b13).mono BB_12.out.size))
      clear b13 VX_12 VY_12 VZ_12 VP_12 BB_12
      generalize w12.heap.size = pVQ at *
      have VX0 := VX_13.out.cell 0 (v := .int .i64 k) rfl
      have VX1 := VX_13.out.cell 1 (v := .int .i64 (X)) rfl
      have VXl := VX_13.out.lt
      have VY0 := VY_13.out.cell 0 (v := .int .i64 k) rfl
      have VY1 := VY_13.out.cell 1 (v := .int .i64 (Y)) rfl
      have VYl := VY_13.out.lt
      go_wp2_with fail
      clear VX0 VX1 VXl VY0 VY1 VYl
      refine (C4.out _).mono ?_
      rintro e w14 ⟨rfl, b14⟩
      have VX_14 := (show Hid _ from (VX_13.out.alloc (.cells #[.int .i64 k, .int .i64 (X)] 23)).step b14)
      have VY_14 := (show Hid _ from (VY_13.out.alloc (.cells #[.int .i64 k, .int .i64 (X)] 23)).step b14)
      have VZ_14 := (show Hid _ from (VZ_13.out.alloc (.cells #[.int .i64 k, .int .i64 (X)] 23)).step b14)
      have VP_14 := (show Hid _ from (VP_13.out.alloc (.cells #[.int .i64 k, .int .i64 (X)] 23)).step b14)
      have VQ_14 := (show Hid _ from (VQ_13.out.alloc (.cells #[.int .i64 k, .int .i64 (X)] 23)).step b14)
      have VK_14 := (show Hid _ from (va_new w13 [.int .i64 k, .int .i64 (X)] 23).step b14)
      have BB_14 := (show Hid _ from BB_13.out.trans ((below_over b14).mono BB_13.out.size))
      clear b14 VX_13 VY_13 VZ_13 VP_13 VQ_13 BB_13
      generalize w13.heap.size = pVK at *
      have VP0 := VP_14.out.cell 0 (v := .int .i64 k) rfl
      have VP1 := VP_14.out.cell 1 (v := .int .i64 (X + Z)) rfl
      have VPl := VP_14.out.lt
      have VQ0 := VQ_14.out.cell 0 (v := .int .i64 k) rfl
      have VQ1 := VQ_14.out.cell 1 (v := .int .i64 (Y + Z)) rfl
      have VQl := VQ_14.out.lt
      go_wp2_with fail
      clear VP0 VP1 VPl VQ0 VQ1 VQl
      refine (C5.out _).mono ?_
      rintro e w15 ⟨rfl, b15⟩
      have VX_15 := (show Hid _ from (VX_14.out).step b15)
      have VY_15 := (show Hid _ from (VY_14.out).step b15)
      have VZ_15 := (show Hid _ from (VZ_14.out).step b15)
      have VP_15 := (show Hid _ from (VP_14.out).step b15)
      have VQ_15 := (show Hid _ from (VQ_14.out).step b15)
      have VK_15 := (show Hid _ from (VK_14.out).step b15)
      have BB_15 := (show Hid _ from BB_14.out.trans (b15.mono BB_14.out.size))
      clear b15 VX_14 VY_14 VZ_14 VP_14 VQ_14 VK_14 BB_14
      have VX0 := VX_15.out.cell 0 (v := .int .i64 k) rfl
      have VX1 := VX_15.out.cell 1 (v := .int .i64 (X)) rfl
      have VXl := VX_15.out.lt
      have VY0 := VY_15.out.cell 0 (v := .int .i64 k) rfl
      have VY1 := VY_15.out.cell 1 (v := .int .i64 (Y)) rfl
      have VYl := VY_15.out.lt
      have VK0 := VK_15.out.cell 0 (v := .int .i64 k) rfl
      have VK1 := VK_15.out.cell 1 (v := .int .i64 (X)) rfl
      have VKl := VK_15.out.lt
      have q1 : ∀ w, (Op.equalIn 10000 23 (.agg #[.int .i64 k, .int .i64 X]) (.agg #[.int .i64 k, .int .i64 X])).run Tryd.prog w = .ok true w := fun w => by rw [eqM2]; simp
      by_cases hxy : X = Y
      · have q2 : ∀ w, (Op.equalIn 10000 23 (.agg #[.int .i64 k, .int .i64 X]) (.agg #[.int .i64 k, .int .i64 Y])).run Tryd.prog w = .ok true w := fun w => by rw [eqM2, hxy]; simp
        have q3 : (O == 0) = true := by rw [HO.out, ord_zero, hxy]; simp
        clear hxy
        go_wp2_with fail
        exact bodyPost_ret (v := .bool true) (by simp [results, Tryd.results7, go_sem]) rfl ⟨rfl, BW.out.trans (BB_15.out.mono BW.out.size)⟩
      · have q2 : ∀ w, (Op.equalIn 10000 23 (.agg #[.int .i64 k, .int .i64 X]) (.agg #[.int .i64 k, .int .i64 Y])).run Tryd.prog w = .ok false w := fun w => by rw [eqM2]; simp [hxy]
        have q3 : (O == 0) = false := by rw [HO.out, ord_zero]; simpa using hxy
        clear hxy
        go_wp2_with fail
        exact bodyPost_ret (v := .bool true) (by simp [results, Tryd.results7, go_sem]) rfl ⟨rfl, BW.out.trans (BB_15.out.mono BW.out.size)⟩
    · go_simp
      have VY_a18 := (show Hid _ from VY_a12.out.alloc (.cells (mcl 0 0).toArray 23))
      have BB_a18 := (show Hid _ from BB_a12.out.alloc BB_a12.out.size (.cells (mcl 0 0).toArray 23))
      have VZ_a18 := (show Hid _ from va_new wa12 (mcl 0 0) 23)
      have HZ : Hid (W0.heap.size ≤ wa12.heap.size ∧ pY < wa12.heap.size) := ⟨BB_a12.out.size, VY_a12.out.lt⟩
      refine hK.out _ _ trivial (fun hHeld => ?_)
      try simp only [Act.put, List.setIfInBounds_toArray, List.set_cons_zero, List.set_cons_succ]
      clear hK K hHeld VY_a12 BB_a12
      change wpAnyH _ _ _ _ _ _ _ _ (wa12.alloc (.cells (mcl 0 0).toArray 23))
      generalize wa12.alloc (.cells (mcl 0 0).toArray 23) = wa18 at *
      generalize wa12.heap.size = pZ at *
      refine wpAnyH_ready (rs := [15]) (by kernel_rfl) (by simp) ?_
      refine AllReadyH.cons (by exact rfl) (fun K hK => ?_) AllReadyH.nil
      go_simp
      have VY_a19 := (show Hid _ from VY_a18.out.alloc (.cells (mcl 0 0).toArray 23))
      have VZ_a19 := (show Hid _ from VZ_a18.out.alloc (.cells (mcl 0 0).toArray 23))
      have BB_a19 := (show Hid _ from BB_a18.out.alloc BB_a18.out.size (.cells (mcl 0 0).toArray 23))
      have VX_a19 := (show Hid _ from va_new wa18 (mcl 0 0) 23)
      have HX : Hid (W0.heap.size ≤ wa18.heap.size ∧ pY < wa18.heap.size ∧ pZ < wa18.heap.size) := ⟨BB_a18.out.size, VY_a18.out.lt, VZ_a18.out.lt⟩
      refine hK.out _ _ trivial (fun hHeld => ?_)
      try simp only [Act.put, List.setIfInBounds_toArray, List.set_cons_zero, List.set_cons_succ]
      clear hK K hHeld VY_a18 VZ_a18 BB_a18
      change wpAnyH _ _ _ _ _ _ _ _ (wa18.alloc (.cells (mcl 0 0).toArray 23))
      generalize wa18.alloc (.cells (mcl 0 0).toArray 23) = wa19 at *
      generalize wa18.heap.size = pX at *
      refine wpAnyH_ready (rs := [18]) (by kernel_rfl) (by simp) ?_
      refine AllReadyH.cons (by exact rfl) (fun K hK => ?_) AllReadyH.nil
      refine stAn (by rfl) (by rfl) 23 _ _ (by rfl) pX (by rfl) (mcl 0 0) (mcl k X) (by rfl) 23 VX_a19.out infoM rfl (mcl_one _ _) ?_
      intro ws20 v u
      have VX_s20 := (show Hid _ from v)
      have VY_s20 := (show Hid _ from VY_a19.out.upd u (by have := HX.out; have := HY.out; have := HZ.out; omega))
      have VZ_s20 := (show Hid _ from VZ_a19.out.upd u (by have := HX.out; have := HY.out; have := HZ.out; omega))
      have BB_s20 := (show Hid _ from u.bel BB_a19.out (by have := HX.out; have := HY.out; have := HZ.out; omega))
      refine hK.out _ _ trivial (fun hHeld => ?_)
      clear hK K hHeld v u VX_a19 VY_a19 VZ_a19 BB_a19
      refine wpAnyH_ready (rs := [19]) (by kernel_rfl) (by simp) ?_
      refine AllReadyH.cons (by exact rfl) (fun K hK => ?_) AllReadyH.nil
      refine stAn (by rfl) (by rfl) 23 _ _ (by rfl) pY (by rfl) (mcl 0 0) (mcl k Y) (by rfl) 23 VY_s20.out infoM rfl (mcl_one _ _) ?_
      intro ws21 v u
      have VY_s21 := (show Hid _ from v)
      have VX_s21 := (show Hid _ from VX_s20.out.upd u (by have := HX.out; have := HY.out; have := HZ.out; omega))
      have VZ_s21 := (show Hid _ from VZ_s20.out.upd u (by have := HX.out; have := HY.out; have := HZ.out; omega))
      have BB_s21 := (show Hid _ from u.bel BB_s20.out (by have := HX.out; have := HY.out; have := HZ.out; omega))
      refine hK.out _ _ trivial (fun hHeld => ?_)
      clear hK K hHeld v u VX_s20 VY_s20 VZ_s20 BB_s20
      refine wpAnyH_ready (rs := [20]) (by kernel_rfl) (by simp) ?_
      refine AllReadyH.cons (by exact rfl) (fun K hK => ?_) AllReadyH.nil
      refine stAn (by rfl) (by rfl) 23 _ _ (by rfl) pZ (by rfl) (mcl 0 0) (mcl k Z) (by rfl) 23 VZ_s21.out infoM rfl (mcl_one _ _) ?_
      intro ws22 v u
      have VZ_s22 := (show Hid _ from v)
      have VX_s22 := (show Hid _ from VX_s21.out.upd u (by have := HX.out; have := HY.out; have := HZ.out; omega))
      have VY_s22 := (show Hid _ from VY_s21.out.upd u (by have := HX.out; have := HY.out; have := HZ.out; omega))
      have BB_s22 := (show Hid _ from u.bel BB_s21.out (by have := HX.out; have := HY.out; have := HZ.out; omega))
      refine hK.out _ _ trivial (fun hHeld => ?_)
      clear hK K hHeld v u VX_s21 VY_s21 VZ_s21 BB_s21
      refine wpAnyH_done (by kernel_rfl) ?_ _
      refine NoPanic.normal ?_
      have VX0 := VX_s22.out.cell 0 (v := .int .i64 k) rfl
      have VX1 := VX_s22.out.cell 1 (v := .int .i64 (X)) rfl
      have VXl := VX_s22.out.lt
      have VZ0 := VZ_s22.out.cell 0 (v := .int .i64 k) rfl
      have VZ1 := VZ_s22.out.cell 1 (v := .int .i64 (Z)) rfl
      have VZl := VZ_s22.out.lt
      go_wp2_with fail
      clear VX0 VX1 VXl VZ0 VZ1 VZl
      refine (C1.out _).mono ?_
      rintro e w11 ⟨rfl, b11⟩
      have VX_11 := (show Hid _ from (VX_s22.out).step b11)
      have VY_11 := (show Hid _ from (VY_s22.out).step b11)
      have VZ_11 := (show Hid _ from (VZ_s22.out).step b11)
      have BB_11 := (show Hid _ from BB_s22.out.trans (b11.mono BB_s22.out.size))
      clear b11 VX_s22 VY_s22 VZ_s22 BB_s22
      have VY0 := VY_11.out.cell 0 (v := .int .i64 k) rfl
      have VY1 := VY_11.out.cell 1 (v := .int .i64 (Y)) rfl
      have VYl := VY_11.out.lt
      have VZ0 := VZ_11.out.cell 0 (v := .int .i64 k) rfl
      have VZ1 := VZ_11.out.cell 1 (v := .int .i64 (Z)) rfl
      have VZl := VZ_11.out.lt
      go_wp2_with fail
      clear VY0 VY1 VYl VZ0 VZ1 VZl
      refine (C2.out _).mono ?_
      rintro e w12 ⟨rfl, b12⟩
      have VX_12 := (show Hid _ from (VX_11.out.alloc (.cells #[.int .i64 k, .int .i64 (X + Z)] 23)).step b12)
      have VY_12 := (show Hid _ from (VY_11.out.alloc (.cells #[.int .i64 k, .int .i64 (X + Z)] 23)).step b12)
      have VZ_12 := (show Hid _ from (VZ_11.out.alloc (.cells #[.int .i64 k, .int .i64 (X + Z)] 23)).step b12)
      have VP_12 := (show Hid _ from (va_new w11 [.int .i64 k, .int .i64 (X + Z)] 23).step b12)
      have BB_12 := (show Hid _ from BB_11.out.trans ((below_over b12).mono BB_11.out.size))
      clear b12 VX_11 VY_11 VZ_11 BB_11
      generalize w11.heap.size = pVP at *
      have VP0 := VP_12.out.cell 0 (v := .int .i64 k) rfl
      have VP1 := VP_12.out.cell 1 (v := .int .i64 (X + Z)) rfl
      have VPl := VP_12.out.lt
      have VZ0 := VZ_12.out.cell 0 (v := .int .i64 k) rfl
      have VZ1 := VZ_12.out.cell 1 (v := .int .i64 (Z)) rfl
      have VZl := VZ_12.out.lt
      go_wp2_with fail
      clear VP0 VP1 VPl VZ0 VZ1 VZl
      refine (C3.out _).mono ?_
      rintro e w13 ⟨rfl, b13⟩
      have VX_13 := (show Hid _ from (VX_12.out.alloc (.cells #[.int .i64 k, .int .i64 (Y + Z)] 23)).step b13)
      have VY_13 := (show Hid _ from (VY_12.out.alloc (.cells #[.int .i64 k, .int .i64 (Y + Z)] 23)).step b13)
      have VZ_13 := (show Hid _ from (VZ_12.out.alloc (.cells #[.int .i64 k, .int .i64 (Y + Z)] 23)).step b13)
      have VP_13 := (show Hid _ from (VP_12.out.alloc (.cells #[.int .i64 k, .int .i64 (Y + Z)] 23)).step b13)
      have VQ_13 := (show Hid _ from (va_new w12 [.int .i64 k, .int .i64 (Y + Z)] 23).step b13)
      have BB_13 := (show Hid _ from BB_12.out.trans ((below_over b13).mono BB_12.out.size))
      clear b13 VX_12 VY_12 VZ_12 VP_12 BB_12
      generalize w12.heap.size = pVQ at *
      have VX0 := VX_13.out.cell 0 (v := .int .i64 k) rfl
      have VX1 := VX_13.out.cell 1 (v := .int .i64 (X)) rfl
      have VXl := VX_13.out.lt
      have VY0 := VY_13.out.cell 0 (v := .int .i64 k) rfl
      have VY1 := VY_13.out.cell 1 (v := .int .i64 (Y)) rfl
      have VYl := VY_13.out.lt
      go_wp2_with fail
      clear VX0 VX1 VXl VY0 VY1 VYl
      refine (C4.out _).mono ?_
      rintro e w14 ⟨rfl, b14⟩
      have VX_14 := (show Hid _ from (VX_13.out.alloc (.cells #[.int .i64 k, .int .i64 (X)] 23)).step b14)
      have VY_14 := (show Hid _ from (VY_13.out.alloc (.cells #[.int .i64 k, .int .i64 (X)] 23)).step b14)
      have VZ_14 := (show Hid _ from (VZ_13.out.alloc (.cells #[.int .i64 k, .int .i64 (X)] 23)).step b14)
      have VP_14 := (show Hid _ from (VP_13.out.alloc (.cells #[.int .i64 k, .int .i64 (X)] 23)).step b14)
      have VQ_14 := (show Hid _ from (VQ_13.out.alloc (.cells #[.int .i64 k, .int .i64 (X)] 23)).step b14)
      have VK_14 := (show Hid _ from (va_new w13 [.int .i64 k, .int .i64 (X)] 23).step b14)
      have BB_14 := (show Hid _ from BB_13.out.trans ((below_over b14).mono BB_13.out.size))
      clear b14 VX_13 VY_13 VZ_13 VP_13 VQ_13 BB_13
      generalize w13.heap.size = pVK at *
      have VP0 := VP_14.out.cell 0 (v := .int .i64 k) rfl
      have VP1 := VP_14.out.cell 1 (v := .int .i64 (X + Z)) rfl
      have VPl := VP_14.out.lt
      have VQ0 := VQ_14.out.cell 0 (v := .int .i64 k) rfl
      have VQ1 := VQ_14.out.cell 1 (v := .int .i64 (Y + Z)) rfl
      have VQl := VQ_14.out.lt
      go_wp2_with fail
      clear VP0 VP1 VPl VQ0 VQ1 VQl
      refine (C5.out _).mono ?_
      rintro e w15 ⟨rfl, b15⟩
      have VX_15 := (show Hid _ from (VX_14.out).step b15)
      have VY_15 := (show Hid _ from (VY_14.out).step b15)
      have VZ_15 := (show Hid _ from (VZ_14.out).step b15)
      have VP_15 := (show Hid _ from (VP_14.out).step b15)
      have VQ_15 := (show Hid _ from (VQ_14.out).step b15)
      have VK_15 := (show Hid _ from (VK_14.out).step b15)
      have BB_15 := (show Hid _ from BB_14.out.trans (b15.mono BB_14.out.size))
      clear b15 VX_14 VY_14 VZ_14 VP_14 VQ_14 VK_14 BB_14
      have VX0 := VX_15.out.cell 0 (v := .int .i64 k) rfl
      have VX1 := VX_15.out.cell 1 (v := .int .i64 (X)) rfl
      have VXl := VX_15.out.lt
      have VY0 := VY_15.out.cell 0 (v := .int .i64 k) rfl
      have VY1 := VY_15.out.cell 1 (v := .int .i64 (Y)) rfl
      have VYl := VY_15.out.lt
      have VK0 := VK_15.out.cell 0 (v := .int .i64 k) rfl
      have VK1 := VK_15.out.cell 1 (v := .int .i64 (X)) rfl
      have VKl := VK_15.out.lt
      have q1 : ∀ w, (Op.equalIn 10000 23 (.agg #[.int .i64 k, .int .i64 X]) (.agg #[.int .i64 k, .int .i64 X])).run Tryd.prog w = .ok true w := fun w => by rw [eqM2]; simp
      by_cases hxy : X = Y
      · have q2 : ∀ w, (Op.equalIn 10000 23 (.agg #[.int .i64 k, .int .i64 X]) (.agg #[.int .i64 k, .int .i64 Y])).run Tryd.prog w = .ok true w := fun w => by rw [eqM2, hxy]; simp
        have q3 : (O == 0) = true := by rw [HO.out, ord_zero, hxy]; simp
        clear hxy
        go_wp2_with fail
        exact bodyPost_ret (v := .bool true) (by simp [results, Tryd.results7, go_sem]) rfl ⟨rfl, BW.out.trans (BB_15.out.mono BW.out.size)⟩
      · have q2 : ∀ w, (Op.equalIn 10000 23 (.agg #[.int .i64 k, .int .i64 X]) (.agg #[.int .i64 k, .int .i64 Y])).run Tryd.prog w = .ok false w := fun w => by rw [eqM2]; simp [hxy]
        have q3 : (O == 0) = false := by rw [HO.out, ord_zero]; simpa using hxy
        clear hxy
        go_wp2_with fail
        exact bodyPost_ret (v := .bool true) (by simp [results, Tryd.results7, go_sem]) rfl ⟨rfl, BW.out.trans (BB_15.out.mono BW.out.size)⟩
  · go_simp
    have BB_a23 := (show Hid _ from BB_z.out.alloc BB_z.out.size (.cells (mcl 0 0).toArray 23))
    have VZ_a23 := (show Hid _ from va_new wz (mcl 0 0) 23)
    have HZ : Hid (W0.heap.size ≤ wz.heap.size) := BB_z.out.size
    refine hK.out _ _ trivial (fun hHeld => ?_)
    try simp only [Act.put, List.setIfInBounds_toArray, List.set_cons_zero, List.set_cons_succ]
    clear hK K hHeld  BB_z
    change wpAnyH _ _ _ _ _ _ _ _ (wz.alloc (.cells (mcl 0 0).toArray 23))
    generalize wz.alloc (.cells (mcl 0 0).toArray 23) = wa23 at *
    generalize wz.heap.size = pZ at *
    refine wpAnyH_ready (rs := [15, 16]) (by kernel_rfl) (by simp) ?_
    refine (AllReadyH.cons (by exact rfl) (fun K hK => ?_) (AllReadyH.cons (by exact rfl) (fun K hK => ?_) AllReadyH.nil))
    · go_simp
      have VZ_a24 := (show Hid _ from VZ_a23.out.alloc (.cells (mcl 0 0).toArray 23))
      have BB_a24 := (show Hid _ from BB_a23.out.alloc BB_a23.out.size (.cells (mcl 0 0).toArray 23))
      have VX_a24 := (show Hid _ from va_new wa23 (mcl 0 0) 23)
      have HX : Hid (W0.heap.size ≤ wa23.heap.size ∧ pZ < wa23.heap.size) := ⟨BB_a23.out.size, VZ_a23.out.lt⟩
      refine hK.out _ _ trivial (fun hHeld => ?_)
      try simp only [Act.put, List.setIfInBounds_toArray, List.set_cons_zero, List.set_cons_succ]
      clear hK K hHeld VZ_a23 BB_a23
      change wpAnyH _ _ _ _ _ _ _ _ (wa23.alloc (.cells (mcl 0 0).toArray 23))
      generalize wa23.alloc (.cells (mcl 0 0).toArray 23) = wa24 at *
      generalize wa23.heap.size = pX at *
      refine wpAnyH_ready (rs := [16]) (by kernel_rfl) (by simp) ?_
      refine AllReadyH.cons (by exact rfl) (fun K hK => ?_) AllReadyH.nil
      go_simp
      have VZ_a25 := (show Hid _ from VZ_a24.out.alloc (.cells (mcl 0 0).toArray 23))
      have VX_a25 := (show Hid _ from VX_a24.out.alloc (.cells (mcl 0 0).toArray 23))
      have BB_a25 := (show Hid _ from BB_a24.out.alloc BB_a24.out.size (.cells (mcl 0 0).toArray 23))
      have VY_a25 := (show Hid _ from va_new wa24 (mcl 0 0) 23)
      have HY : Hid (W0.heap.size ≤ wa24.heap.size ∧ pZ < wa24.heap.size ∧ pX < wa24.heap.size) := ⟨BB_a24.out.size, VZ_a24.out.lt, VX_a24.out.lt⟩
      refine hK.out _ _ trivial (fun hHeld => ?_)
      try simp only [Act.put, List.setIfInBounds_toArray, List.set_cons_zero, List.set_cons_succ]
      clear hK K hHeld VZ_a24 VX_a24 BB_a24
      change wpAnyH _ _ _ _ _ _ _ _ (wa24.alloc (.cells (mcl 0 0).toArray 23))
      generalize wa24.alloc (.cells (mcl 0 0).toArray 23) = wa25 at *
      generalize wa24.heap.size = pY at *
      refine wpAnyH_ready (rs := [18]) (by kernel_rfl) (by simp) ?_
      refine AllReadyH.cons (by exact rfl) (fun K hK => ?_) AllReadyH.nil
      refine stAn (by rfl) (by rfl) 23 _ _ (by rfl) pX (by rfl) (mcl 0 0) (mcl k X) (by rfl) 23 VX_a25.out infoM rfl (mcl_one _ _) ?_
      intro ws26 v u
      have VX_s26 := (show Hid _ from v)
      have VY_s26 := (show Hid _ from VY_a25.out.upd u (by have := HX.out; have := HY.out; have := HZ.out; omega))
      have VZ_s26 := (show Hid _ from VZ_a25.out.upd u (by have := HX.out; have := HY.out; have := HZ.out; omega))
      have BB_s26 := (show Hid _ from u.bel BB_a25.out (by have := HX.out; have := HY.out; have := HZ.out; omega))
      refine hK.out _ _ trivial (fun hHeld => ?_)
      clear hK K hHeld v u VX_a25 VY_a25 VZ_a25 BB_a25
      refine wpAnyH_ready (rs := [19]) (by kernel_rfl) (by simp) ?_
      refine AllReadyH.cons (by exact rfl) (fun K hK => ?_) AllReadyH.nil
      refine stAn (by rfl) (by rfl) 23 _ _ (by rfl) pY (by rfl) (mcl 0 0) (mcl k Y) (by rfl) 23 VY_s26.out infoM rfl (mcl_one _ _) ?_
      intro ws27 v u
      have VY_s27 := (show Hid _ from v)
      have VX_s27 := (show Hid _ from VX_s26.out.upd u (by have := HX.out; have := HY.out; have := HZ.out; omega))
      have VZ_s27 := (show Hid _ from VZ_s26.out.upd u (by have := HX.out; have := HY.out; have := HZ.out; omega))
      have BB_s27 := (show Hid _ from u.bel BB_s26.out (by have := HX.out; have := HY.out; have := HZ.out; omega))
      refine hK.out _ _ trivial (fun hHeld => ?_)
      clear hK K hHeld v u VX_s26 VY_s26 VZ_s26 BB_s26
      refine wpAnyH_ready (rs := [20]) (by kernel_rfl) (by simp) ?_
      refine AllReadyH.cons (by exact rfl) (fun K hK => ?_) AllReadyH.nil
      refine stAn (by rfl) (by rfl) 23 _ _ (by rfl) pZ (by rfl) (mcl 0 0) (mcl k Z) (by rfl) 23 VZ_s27.out infoM rfl (mcl_one _ _) ?_
      intro ws28 v u
      have VZ_s28 := (show Hid _ from v)
      have VX_s28 := (show Hid _ from VX_s27.out.upd u (by have := HX.out; have := HY.out; have := HZ.out; omega))
      have VY_s28 := (show Hid _ from VY_s27.out.upd u (by have := HX.out; have := HY.out; have := HZ.out; omega))
      have BB_s28 := (show Hid _ from u.bel BB_s27.out (by have := HX.out; have := HY.out; have := HZ.out; omega))
      refine hK.out _ _ trivial (fun hHeld => ?_)
      clear hK K hHeld v u VX_s27 VY_s27 VZ_s27 BB_s27
      refine wpAnyH_done (by kernel_rfl) ?_ _
      refine NoPanic.normal ?_
      have VX0 := VX_s28.out.cell 0 (v := .int .i64 k) rfl
      have VX1 := VX_s28.out.cell 1 (v := .int .i64 (X)) rfl
      have VXl := VX_s28.out.lt
      have VZ0 := VZ_s28.out.cell 0 (v := .int .i64 k) rfl
      have VZ1 := VZ_s28.out.cell 1 (v := .int .i64 (Z)) rfl
      have VZl := VZ_s28.out.lt
      go_wp2_with fail
      clear VX0 VX1 VXl VZ0 VZ1 VZl
      refine (C1.out _).mono ?_
      rintro e w11 ⟨rfl, b11⟩
      have VX_11 := (show Hid _ from (VX_s28.out).step b11)
      have VY_11 := (show Hid _ from (VY_s28.out).step b11)
      have VZ_11 := (show Hid _ from (VZ_s28.out).step b11)
      have BB_11 := (show Hid _ from BB_s28.out.trans (b11.mono BB_s28.out.size))
      clear b11 VX_s28 VY_s28 VZ_s28 BB_s28
      have VY0 := VY_11.out.cell 0 (v := .int .i64 k) rfl
      have VY1 := VY_11.out.cell 1 (v := .int .i64 (Y)) rfl
      have VYl := VY_11.out.lt
      have VZ0 := VZ_11.out.cell 0 (v := .int .i64 k) rfl
      have VZ1 := VZ_11.out.cell 1 (v := .int .i64 (Z)) rfl
      have VZl := VZ_11.out.lt
      go_wp2_with fail
      clear VY0 VY1 VYl VZ0 VZ1 VZl
      refine (C2.out _).mono ?_
      rintro e w12 ⟨rfl, b12⟩
      have VX_12 := (show Hid _ from (VX_11.out.alloc (.cells #[.int .i64 k, .int .i64 (X + Z)] 23)).step b12)
      have VY_12 := (show Hid _ from (VY_11.out.alloc (.cells #[.int .i64 k, .int .i64 (X + Z)] 23)).step b12)
      have VZ_12 := (show Hid _ from (VZ_11.out.alloc (.cells #[.int .i64 k, .int .i64 (X + Z)] 23)).step b12)
      have VP_12 := (show Hid _ from (va_new w11 [.int .i64 k, .int .i64 (X + Z)] 23).step b12)
      have BB_12 := (show Hid _ from BB_11.out.trans ((below_over b12).mono BB_11.out.size))
      clear b12 VX_11 VY_11 VZ_11 BB_11
      generalize w11.heap.size = pVP at *
      have VP0 := VP_12.out.cell 0 (v := .int .i64 k) rfl
      have VP1 := VP_12.out.cell 1 (v := .int .i64 (X + Z)) rfl
      have VPl := VP_12.out.lt
      have VZ0 := VZ_12.out.cell 0 (v := .int .i64 k) rfl
      have VZ1 := VZ_12.out.cell 1 (v := .int .i64 (Z)) rfl
      have VZl := VZ_12.out.lt
      go_wp2_with fail
      clear VP0 VP1 VPl VZ0 VZ1 VZl
      refine (C3.out _).mono ?_
      rintro e w13 ⟨rfl, b13⟩
      have VX_13 := (show Hid _ from (VX_12.out.alloc (.cells #[.int .i64 k, .int .i64 (Y + Z)] 23)).step b13)
      have VY_13 := (show Hid _ from (VY_12.out.alloc (.cells #[.int .i64 k, .int .i64 (Y + Z)] 23)).step b13)
      have VZ_13 := (show Hid _ from (VZ_12.out.alloc (.cells #[.int .i64 k, .int .i64 (Y + Z)] 23)).step b13)
      have VP_13 := (show Hid _ from (VP_12.out.alloc (.cells #[.int .i64 k, .int .i64 (Y + Z)] 23)).step b13)
      have VQ_13 := (show Hid _ from (va_new w12 [.int .i64 k, .int .i64 (Y + Z)] 23).step b13)
      have BB_13 := (show Hid _ from BB_12.out.trans ((below_over b13).mono BB_12.out.size))
      clear b13 VX_12 VY_12 VZ_12 VP_12 BB_12
      generalize w12.heap.size = pVQ at *
      have VX0 := VX_13.out.cell 0 (v := .int .i64 k) rfl
      have VX1 := VX_13.out.cell 1 (v := .int .i64 (X)) rfl
      have VXl := VX_13.out.lt
      have VY0 := VY_13.out.cell 0 (v := .int .i64 k) rfl
      have VY1 := VY_13.out.cell 1 (v := .int .i64 (Y)) rfl
      have VYl := VY_13.out.lt
      go_wp2_with fail
      clear VX0 VX1 VXl VY0 VY1 VYl
      refine (C4.out _).mono ?_
      rintro e w14 ⟨rfl, b14⟩
      have VX_14 := (show Hid _ from (VX_13.out.alloc (.cells #[.int .i64 k, .int .i64 (X)] 23)).step b14)
      have VY_14 := (show Hid _ from (VY_13.out.alloc (.cells #[.int .i64 k, .int .i64 (X)] 23)).step b14)
      have VZ_14 := (show Hid _ from (VZ_13.out.alloc (.cells #[.int .i64 k, .int .i64 (X)] 23)).step b14)
      have VP_14 := (show Hid _ from (VP_13.out.alloc (.cells #[.int .i64 k, .int .i64 (X)] 23)).step b14)
      have VQ_14 := (show Hid _ from (VQ_13.out.alloc (.cells #[.int .i64 k, .int .i64 (X)] 23)).step b14)
      have VK_14 := (show Hid _ from (va_new w13 [.int .i64 k, .int .i64 (X)] 23).step b14)
      have BB_14 := (show Hid _ from BB_13.out.trans ((below_over b14).mono BB_13.out.size))
      clear b14 VX_13 VY_13 VZ_13 VP_13 VQ_13 BB_13
      generalize w13.heap.size = pVK at *
      have VP0 := VP_14.out.cell 0 (v := .int .i64 k) rfl
      have VP1 := VP_14.out.cell 1 (v := .int .i64 (X + Z)) rfl
      have VPl := VP_14.out.lt
      have VQ0 := VQ_14.out.cell 0 (v := .int .i64 k) rfl
      have VQ1 := VQ_14.out.cell 1 (v := .int .i64 (Y + Z)) rfl
      have VQl := VQ_14.out.lt
      go_wp2_with fail
      clear VP0 VP1 VPl VQ0 VQ1 VQl
      refine (C5.out _).mono ?_
      rintro e w15 ⟨rfl, b15⟩
      have VX_15 := (show Hid _ from (VX_14.out).step b15)
      have VY_15 := (show Hid _ from (VY_14.out).step b15)
      have VZ_15 := (show Hid _ from (VZ_14.out).step b15)
      have VP_15 := (show Hid _ from (VP_14.out).step b15)
      have VQ_15 := (show Hid _ from (VQ_14.out).step b15)
      have VK_15 := (show Hid _ from (VK_14.out).step b15)
      have BB_15 := (show Hid _ from BB_14.out.trans (b15.mono BB_14.out.size))
      clear b15 VX_14 VY_14 VZ_14 VP_14 VQ_14 VK_14 BB_14
      have VX0 := VX_15.out.cell 0 (v := .int .i64 k) rfl
      have VX1 := VX_15.out.cell 1 (v := .int .i64 (X)) rfl
      have VXl := VX_15.out.lt
      have VY0 := VY_15.out.cell 0 (v := .int .i64 k) rfl
      have VY1 := VY_15.out.cell 1 (v := .int .i64 (Y)) rfl
      have VYl := VY_15.out.lt
      have VK0 := VK_15.out.cell 0 (v := .int .i64 k) rfl
      have VK1 := VK_15.out.cell 1 (v := .int .i64 (X)) rfl
      have VKl := VK_15.out.lt
      have q1 : ∀ w, (Op.equalIn 10000 23 (.agg #[.int .i64 k, .int .i64 X]) (.agg #[.int .i64 k, .int .i64 X])).run Tryd.prog w = .ok true w := fun w => by rw [eqM2]; simp
      by_cases hxy : X = Y
      · have q2 : ∀ w, (Op.equalIn 10000 23 (.agg #[.int .i64 k, .int .i64 X]) (.agg #[.int .i64 k, .int .i64 Y])).run Tryd.prog w = .ok true w := fun w => by rw [eqM2, hxy]; simp
        have q3 : (O == 0) = true := by rw [HO.out, ord_zero, hxy]; simp
        clear hxy
        go_wp2_with fail
        exact bodyPost_ret (v := .bool true) (by simp [results, Tryd.results7, go_sem]) rfl ⟨rfl, BW.out.trans (BB_15.out.mono BW.out.size)⟩
      · have q2 : ∀ w, (Op.equalIn 10000 23 (.agg #[.int .i64 k, .int .i64 X]) (.agg #[.int .i64 k, .int .i64 Y])).run Tryd.prog w = .ok false w := fun w => by rw [eqM2]; simp [hxy]
        have q3 : (O == 0) = false := by rw [HO.out, ord_zero]; simpa using hxy
        clear hxy
        go_wp2_with fail
        exact bodyPost_ret (v := .bool true) (by simp [results, Tryd.results7, go_sem]) rfl ⟨rfl, BW.out.trans (BB_15.out.mono BW.out.size)⟩
    · go_simp
      have VZ_a29 := (show Hid _ from VZ_a23.out.alloc (.cells (mcl 0 0).toArray 23))
      have BB_a29 := (show Hid _ from BB_a23.out.alloc BB_a23.out.size (.cells (mcl 0 0).toArray 23))
      have VY_a29 := (show Hid _ from va_new wa23 (mcl 0 0) 23)
      have HY : Hid (W0.heap.size ≤ wa23.heap.size ∧ pZ < wa23.heap.size) := ⟨BB_a23.out.size, VZ_a23.out.lt⟩
      refine hK.out _ _ trivial (fun hHeld => ?_)
      try simp only [Act.put, List.setIfInBounds_toArray, List.set_cons_zero, List.set_cons_succ]
      clear hK K hHeld VZ_a23 BB_a23
      change wpAnyH _ _ _ _ _ _ _ _ (wa23.alloc (.cells (mcl 0 0).toArray 23))
      generalize wa23.alloc (.cells (mcl 0 0).toArray 23) = wa29 at *
      generalize wa23.heap.size = pY at *
      refine wpAnyH_ready (rs := [15]) (by kernel_rfl) (by simp) ?_
      refine AllReadyH.cons (by exact rfl) (fun K hK => ?_) AllReadyH.nil
      go_simp
      have VZ_a30 := (show Hid _ from VZ_a29.out.alloc (.cells (mcl 0 0).toArray 23))
      have VY_a30 := (show Hid _ from VY_a29.out.alloc (.cells (mcl 0 0).toArray 23))
      have BB_a30 := (show Hid _ from BB_a29.out.alloc BB_a29.out.size (.cells (mcl 0 0).toArray 23))
      have VX_a30 := (show Hid _ from va_new wa29 (mcl 0 0) 23)
      have HX : Hid (W0.heap.size ≤ wa29.heap.size ∧ pZ < wa29.heap.size ∧ pY < wa29.heap.size) := ⟨BB_a29.out.size, VZ_a29.out.lt, VY_a29.out.lt⟩
      refine hK.out _ _ trivial (fun hHeld => ?_)
      try simp only [Act.put, List.setIfInBounds_toArray, List.set_cons_zero, List.set_cons_succ]
      clear hK K hHeld VZ_a29 VY_a29 BB_a29
      change wpAnyH _ _ _ _ _ _ _ _ (wa29.alloc (.cells (mcl 0 0).toArray 23))
      generalize wa29.alloc (.cells (mcl 0 0).toArray 23) = wa30 at *
      generalize wa29.heap.size = pX at *
      refine wpAnyH_ready (rs := [18]) (by kernel_rfl) (by simp) ?_
      refine AllReadyH.cons (by exact rfl) (fun K hK => ?_) AllReadyH.nil
      refine stAn (by rfl) (by rfl) 23 _ _ (by rfl) pX (by rfl) (mcl 0 0) (mcl k X) (by rfl) 23 VX_a30.out infoM rfl (mcl_one _ _) ?_
      intro ws31 v u
      have VX_s31 := (show Hid _ from v)
      have VY_s31 := (show Hid _ from VY_a30.out.upd u (by have := HX.out; have := HY.out; have := HZ.out; omega))
      have VZ_s31 := (show Hid _ from VZ_a30.out.upd u (by have := HX.out; have := HY.out; have := HZ.out; omega))
      have BB_s31 := (show Hid _ from u.bel BB_a30.out (by have := HX.out; have := HY.out; have := HZ.out; omega))
      refine hK.out _ _ trivial (fun hHeld => ?_)
      clear hK K hHeld v u VX_a30 VY_a30 VZ_a30 BB_a30
      refine wpAnyH_ready (rs := [19]) (by kernel_rfl) (by simp) ?_
      refine AllReadyH.cons (by exact rfl) (fun K hK => ?_) AllReadyH.nil
      refine stAn (by rfl) (by rfl) 23 _ _ (by rfl) pY (by rfl) (mcl 0 0) (mcl k Y) (by rfl) 23 VY_s31.out infoM rfl (mcl_one _ _) ?_
      intro ws32 v u
      have VY_s32 := (show Hid _ from v)
      have VX_s32 := (show Hid _ from VX_s31.out.upd u (by have := HX.out; have := HY.out; have := HZ.out; omega))
      have VZ_s32 := (show Hid _ from VZ_s31.out.upd u (by have := HX.out; have := HY.out; have := HZ.out; omega))
      have BB_s32 := (show Hid _ from u.bel BB_s31.out (by have := HX.out; have := HY.out; have := HZ.out; omega))
      refine hK.out _ _ trivial (fun hHeld => ?_)
      clear hK K hHeld v u VX_s31 VY_s31 VZ_s31 BB_s31
      refine wpAnyH_ready (rs := [20]) (by kernel_rfl) (by simp) ?_
      refine AllReadyH.cons (by exact rfl) (fun K hK => ?_) AllReadyH.nil
      refine stAn (by rfl) (by rfl) 23 _ _ (by rfl) pZ (by rfl) (mcl 0 0) (mcl k Z) (by rfl) 23 VZ_s32.out infoM rfl (mcl_one _ _) ?_
      intro ws33 v u
      have VZ_s33 := (show Hid _ from v)
      have VX_s33 := (show Hid _ from VX_s32.out.upd u (by have := HX.out; have := HY.out; have := HZ.out; omega))
      have VY_s33 := (show Hid _ from VY_s32.out.upd u (by have := HX.out; have := HY.out; have := HZ.out; omega))
      have BB_s33 := (show Hid _ from u.bel BB_s32.out (by have := HX.out; have := HY.out; have := HZ.out; omega))
      refine hK.out _ _ trivial (fun hHeld => ?_)
      clear hK K hHeld v u VX_s32 VY_s32 VZ_s32 BB_s32
      refine wpAnyH_done (by kernel_rfl) ?_ _
      refine NoPanic.normal ?_
      have VX0 := VX_s33.out.cell 0 (v := .int .i64 k) rfl
      have VX1 := VX_s33.out.cell 1 (v := .int .i64 (X)) rfl
      have VXl := VX_s33.out.lt
      have VZ0 := VZ_s33.out.cell 0 (v := .int .i64 k) rfl
      have VZ1 := VZ_s33.out.cell 1 (v := .int .i64 (Z)) rfl
      have VZl := VZ_s33.out.lt
      go_wp2_with fail
      clear VX0 VX1 VXl VZ0 VZ1 VZl
      refine (C1.out _).mono ?_
      rintro e w11 ⟨rfl, b11⟩
      have VX_11 := (show Hid _ from (VX_s33.out).step b11)
      have VY_11 := (show Hid _ from (VY_s33.out).step b11)
      have VZ_11 := (show Hid _ from (VZ_s33.out).step b11)
      have BB_11 := (show Hid _ from BB_s33.out.trans (b11.mono BB_s33.out.size))
      clear b11 VX_s33 VY_s33 VZ_s33 BB_s33
      have VY0 := VY_11.out.cell 0 (v := .int .i64 k) rfl
      have VY1 := VY_11.out.cell 1 (v := .int .i64 (Y)) rfl
      have VYl := VY_11.out.lt
      have VZ0 := VZ_11.out.cell 0 (v := .int .i64 k) rfl
      have VZ1 := VZ_11.out.cell 1 (v := .int .i64 (Z)) rfl
      have VZl := VZ_11.out.lt
      go_wp2_with fail
      clear VY0 VY1 VYl VZ0 VZ1 VZl
      refine (C2.out _).mono ?_
      rintro e w12 ⟨rfl, b12⟩
      have VX_12 := (show Hid _ from (VX_11.out.alloc (.cells #[.int .i64 k, .int .i64 (X + Z)] 23)).step b12)
      have VY_12 := (show Hid _ from (VY_11.out.alloc (.cells #[.int .i64 k, .int .i64 (X + Z)] 23)).step b12)
      have VZ_12 := (show Hid _ from (VZ_11.out.alloc (.cells #[.int .i64 k, .int .i64 (X + Z)] 23)).step b12)
      have VP_12 := (show Hid _ from (va_new w11 [.int .i64 k, .int .i64 (X + Z)] 23).step b12)
      have BB_12 := (show Hid _ from BB_11.out.trans ((below_over b12).mono BB_11.out.size))
      clear b12 VX_11 VY_11 VZ_11 BB_11
      generalize w11.heap.size = pVP at *
      have VP0 := VP_12.out.cell 0 (v := .int .i64 k) rfl
      have VP1 := VP_12.out.cell 1 (v := .int .i64 (X + Z)) rfl
      have VPl := VP_12.out.lt
      have VZ0 := VZ_12.out.cell 0 (v := .int .i64 k) rfl
      have VZ1 := VZ_12.out.cell 1 (v := .int .i64 (Z)) rfl
      have VZl := VZ_12.out.lt
      go_wp2_with fail
      clear VP0 VP1 VPl VZ0 VZ1 VZl
      refine (C3.out _).mono ?_
      rintro e w13 ⟨rfl, b13⟩
      have VX_13 := (show Hid _ from (VX_12.out.alloc (.cells #[.int .i64 k, .int .i64 (Y + Z)] 23)).step b13)
      have VY_13 := (show Hid _ from (VY_12.out.alloc (.cells #[.int .i64 k, .int .i64 (Y + Z)] 23)).step b13)
      have VZ_13 := (show Hid _ from (VZ_12.out.alloc (.cells #[.int .i64 k, .int .i64 (Y + Z)] 23)).step b13)
      have VP_13 := (show Hid _ from (VP_12.out.alloc (.cells #[.int .i64 k, .int .i64 (Y + Z)] 23)).step b13)
      have VQ_13 := (show Hid _ from (va_new w12 [.int .i64 k, .int .i64 (Y + Z)] 23).step b13)
      have BB_13 := (show Hid _ from BB_12.out.trans ((below_over b13).mono BB_12.out.size))
      clear b13 VX_12 VY_12 VZ_12 VP_12 BB_12
      generalize w12.heap.size = pVQ at *
      have VX0 := VX_13.out.cell 0 (v := .int .i64 k) rfl
      have VX1 := VX_13.out.cell 1 (v := .int .i64 (X)) rfl
      have VXl := VX_13.out.lt
      have VY0 := VY_13.out.cell 0 (v := .int .i64 k) rfl
      have VY1 := VY_13.out.cell 1 (v := .int .i64 (Y)) rfl
      have VYl := VY_13.out.lt
      go_wp2_with fail
      clear VX0 VX1 VXl VY0 VY1 VYl
      refine (C4.out _).mono ?_
      rintro e w14 ⟨rfl, b14⟩
      have VX_14 := (show Hid _ from (VX_13.out.alloc (.cells #[.int .i64 k, .int .i64 (X)] 23)).step b14)
      have VY_14 := (show Hid _ from (VY_13.out.alloc (.cells #[.int .i64 k, .int .i64 (X)] 23)).step b14)
      have VZ_14 := (show Hid _ from (VZ_13.out.alloc (.cells #[.int .i64 k, .int .i64 (X)] 23)).step b14)
      have VP_14 := (show Hid _ from (VP_13.out.alloc (.cells #[.int .i64 k, .int .i64 (X)] 23)).step b14)
      have VQ_14 := (show Hid _ from (VQ_13.out.alloc (.cells #[.int .i64 k, .int .i64 (X)] 23)).step b14)
      have VK_14 := (show Hid _ from (va_new w13 [.int .i64 k, .int .i64 (X)] 23).step b14)
      have BB_14 := (show Hid _ from BB_13.out.trans ((below_over b14).mono BB_13.out.size))
      clear b14 VX_13 VY_13 VZ_13 VP_13 VQ_13 BB_13
      generalize w13.heap.size = pVK at *
      have VP0 := VP_14.out.cell 0 (v := .int .i64 k) rfl
      have VP1 := VP_14.out.cell 1 (v := .int .i64 (X + Z)) rfl
      have VPl := VP_14.out.lt
      have VQ0 := VQ_14.out.cell 0 (v := .int .i64 k) rfl
      have VQ1 := VQ_14.out.cell 1 (v := .int .i64 (Y + Z)) rfl
      have VQl := VQ_14.out.lt
      go_wp2_with fail
      clear VP0 VP1 VPl VQ0 VQ1 VQl
      refine (C5.out _).mono ?_
      rintro e w15 ⟨rfl, b15⟩
      have VX_15 := (show Hid _ from (VX_14.out).step b15)
      have VY_15 := (show Hid _ from (VY_14.out).step b15)
      have VZ_15 := (show Hid _ from (VZ_14.out).step b15)
      have VP_15 := (show Hid _ from (VP_14.out).step b15)
      have VQ_15 := (show Hid _ from (VQ_14.out).step b15)
      have VK_15 := (show Hid _ from (VK_14.out).step b15)
      have BB_15 := (show Hid _ from BB_14.out.trans (b15.mono BB_14.out.size))
      clear b15 VX_14 VY_14 VZ_14 VP_14 VQ_14 VK_14 BB_14
      have VX0 := VX_15.out.cell 0 (v := .int .i64 k) rfl
      have VX1 := VX_15.out.cell 1 (v := .int .i64 (X)) rfl
      have VXl := VX_15.out.lt
      have VY0 := VY_15.out.cell 0 (v := .int .i64 k) rfl
      have VY1 := VY_15.out.cell 1 (v := .int .i64 (Y)) rfl
      have VYl := VY_15.out.lt
      have VK0 := VK_15.out.cell 0 (v := .int .i64 k) rfl
      have VK1 := VK_15.out.cell 1 (v := .int .i64 (X)) rfl
      have VKl := VK_15.out.lt
      have q1 : ∀ w, (Op.equalIn 10000 23 (.agg #[.int .i64 k, .int .i64 X]) (.agg #[.int .i64 k, .int .i64 X])).run Tryd.prog w = .ok true w := fun w => by rw [eqM2]; simp
      by_cases hxy : X = Y
      · have q2 : ∀ w, (Op.equalIn 10000 23 (.agg #[.int .i64 k, .int .i64 X]) (.agg #[.int .i64 k, .int .i64 Y])).run Tryd.prog w = .ok true w := fun w => by rw [eqM2, hxy]; simp
        have q3 : (O == 0) = true := by rw [HO.out, ord_zero, hxy]; simp
        clear hxy
        go_wp2_with fail
        exact bodyPost_ret (v := .bool true) (by simp [results, Tryd.results7, go_sem]) rfl ⟨rfl, BW.out.trans (BB_15.out.mono BW.out.size)⟩
      · have q2 : ∀ w, (Op.equalIn 10000 23 (.agg #[.int .i64 k, .int .i64 X]) (.agg #[.int .i64 k, .int .i64 Y])).run Tryd.prog w = .ok false w := fun w => by rw [eqM2]; simp [hxy]
        have q3 : (O == 0) = false := by rw [HO.out, ord_zero]; simpa using hxy
        clear hxy
        go_wp2_with fail
        exact bodyPost_ret (v := .bool true) (by simp [results, Tryd.results7, go_sem]) rfl ⟨rfl, BW.out.trans (BB_15.out.mono BW.out.size)⟩
end Go.Proofs.YtcnigpkmedgbdaaDoor
