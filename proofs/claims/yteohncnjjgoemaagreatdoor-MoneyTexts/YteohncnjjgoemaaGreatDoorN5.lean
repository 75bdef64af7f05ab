/- money: the example of awake: Split of 100 by three equal weights. -/
import Derived.Test.YteohncnjjgoemaaGreatDoorBe
import Derived.Test.YteohncnjjgoemaaGreatDoorM5
import Derived.Deep.DeepCutAuto
namespace Go.Proofs.YteohncnjjgoemaaGreatDoor
open Go.RowKit
set_option linter.unusedVariables false

theorem isnanU_ok (n : Int) (w : World) : Calls Tryz.prog 100 #[.int .u64 n] w fun e w' => e = .returned (.bool false) ∧ w' = w := by
  have h : (n != n) = false := by simp
  go_enter Tryz.func100, Tryz.ntmps100
  go_wp2_with fail
  go_ret
  exact ⟨rfl, rfl⟩
theorem cmpU_one (w : World) : Calls Tryz.prog 84 #[.int .u64 1, .int .u64 1] w fun e w' => e = .returned (.int .i64 0) ∧ w' = w := by
  go_enter Tryz.func84, Tryz.ntmps84
  go_wp2_with fail
  refine (isnanU_ok 1 _).mono ?_
  rintro e w1 ⟨rfl, hq⟩
  obtain rfl := hq.symm
  go_wp2_with fail
  refine (isnanU_ok 1 _).mono ?_
  rintro e w1 ⟨rfl, hq⟩
  obtain rfl := hq.symm
  go_wp2_with fail
  go_ret
  exact ⟨rfl, rfl⟩
theorem total3 (p : Nat) (w : World) (V : VA w p (ci [1, 1, 1]) 2) : Calls Tryz.prog 55 #[.slice (some ⟨p, 0, none⟩) 3 3] w fun e w' => e = .returned (.int .u64 3) ∧ w' = w := by
  have c0 := V.cell 0 (v := .int .i64 1) rfl
  have c1 := V.cell 1 (v := .int .i64 1) rfl
  have c2 := V.cell 2 (v := .int .i64 1) rfl
  clear V
  go_enter Tryz.func55, Tryz.ntmps55
  go_wp2_with fail
  refine wp_loop_rounds 4 ?_
  rw [rounds_succ]
  go_wp2_with fail
  rw [rounds_succ]
  go_wp2_with fail
  rw [rounds_succ]
  go_wp2_with fail
  rw [rounds_succ]
  go_wp2_with fail
  go_ret
  exact ⟨rfl, rfl⟩
/-- the list of shares ahead of what is left over, and the list's box -/
def shl : List Value := [.int .u64 33, .int .u64 1, .int .u64 33, .int .u64 1, .int .u64 33, .int .u64 1]
set_option maxHeartbeats 1000000 in
theorem clo1 (b L : Nat) (w : World) (VB : VA w b [.slice (some ⟨L, 0, none⟩) 3 3] 66) (VL : VA w L shl 69) : Calls Tryz.prog 83 #[.int .i64 1, .int .i64 0, .pointer (some ⟨b, 0, none⟩)] w fun e w' => e = .returned (.int .i64 0) ∧ Below w.heap.size w w' := by
  go_enter Tryz.func83, Tryz.ntmps83
  go_upto_region 1 with fail
  refine wp_region_noPanic ?_
  refine wp_region_held_drew (S := fun w' => VA w' b [.slice (some ⟨L, 0, none⟩) 3 3] 66 ∧ VA w' L shl 69 ∧ Below w.heap.size w w') (by kernel_rfl) ⟨VB.drew, VL.drew, (Below.refl _ _).drew⟩ (fun hHeld => ?_)
  refine takeD 0 6 (.slice (some ⟨L, 0, none⟩) 3 3) (by exact rfl) rfl (by kernel_rfl) (by kernel_rfl) (by kernel_rfl) (fun _ _ _ h => h) (Or.inl ⟨by rfl, ?_⟩) (by assumption) ?_
  · intro wq hS
    have h0 := hS.1.cell 0 (v := .slice (some ⟨L, 0, none⟩) 3 3) rfl
    go_simp
  try simp only [Act.put, List.setIfInBounds_toArray, List.set_cons_zero, List.set_cons_succ]
  refine takeD 1 7 (.int .i64 0) (by exact rfl) rfl (by kernel_rfl) (by kernel_rfl) (by kernel_rfl) (fun _ _ _ h => h) (Or.inl ⟨by rfl, ?_⟩) (by assumption) ?_
  · intro wq hS
    go_simp
  try simp only [Act.put, List.setIfInBounds_toArray, List.set_cons_zero, List.set_cons_succ]
  refine takeD 2 8 (.pointer (some ⟨L, 0, none⟩)) (by exact rfl) rfl (by kernel_rfl) (by kernel_rfl) (by kernel_rfl) (fun _ _ _ h => h) (Or.inl ⟨by rfl, ?_⟩) (by assumption) ?_
  · intro wq hS
    go_simp
  try simp only [Act.put, List.setIfInBounds_toArray, List.set_cons_zero, List.set_cons_succ]
  refine takeD 3 9 (.pointer (some ⟨L, 1, none⟩)) (by exact rfl) rfl (by kernel_rfl) (by kernel_rfl) (by kernel_rfl) (fun _ _ _ h => h) (Or.inl ⟨by rfl, ?_⟩) (by assumption) ?_
  · intro wq hS
    go_simp
  try simp only [Act.put, List.setIfInBounds_toArray, List.set_cons_zero, List.set_cons_succ]
  refine takeD 4 10 (.int .u64 1) (by exact rfl) rfl (by kernel_rfl) (by kernel_rfl) (by kernel_rfl) (fun _ _ _ h => h) (Or.inl ⟨by rfl, ?_⟩) (by assumption) ?_
  · intro wq hS
    have h0 := hS.2.1.cell 1 (v := .int .u64 1) rfl
    go_simp
  try simp only [Act.put, List.setIfInBounds_toArray, List.set_cons_zero, List.set_cons_succ]
  refine takeD 5 11 (.slice (some ⟨L, 0, none⟩) 3 3) (by exact rfl) rfl (by kernel_rfl) (by kernel_rfl) (by kernel_rfl) (fun _ _ _ h => h) (Or.inl ⟨by rfl, ?_⟩) (by assumption) ?_
  · intro wq hS
    have h0 := hS.1.cell 0 (v := .slice (some ⟨L, 0, none⟩) 3 3) rfl
    go_simp
  try simp only [Act.put, List.setIfInBounds_toArray, List.set_cons_zero, List.set_cons_succ]
  refine takeD 6 12 (.int .i64 1) (by exact rfl) rfl (by kernel_rfl) (by kernel_rfl) (by kernel_rfl) (fun _ _ _ h => h) (Or.inl ⟨by rfl, ?_⟩) (by assumption) ?_
  · intro wq hS
    go_simp
  try simp only [Act.put, List.setIfInBounds_toArray, List.set_cons_zero, List.set_cons_succ]
  refine takeD 7 13 (.pointer (some ⟨L, 2, none⟩)) (by exact rfl) rfl (by kernel_rfl) (by kernel_rfl) (by kernel_rfl) (fun _ _ _ h => h) (Or.inl ⟨by rfl, ?_⟩) (by assumption) ?_
  · intro wq hS
    go_simp
  try simp only [Act.put, List.setIfInBounds_toArray, List.set_cons_zero, List.set_cons_succ]
  refine takeD 8 14 (.pointer (some ⟨L, 3, none⟩)) (by exact rfl) rfl (by kernel_rfl) (by kernel_rfl) (by kernel_rfl) (fun _ _ _ h => h) (Or.inl ⟨by rfl, ?_⟩) (by assumption) ?_
  · intro wq hS
    go_simp
  try simp only [Act.put, List.setIfInBounds_toArray, List.set_cons_zero, List.set_cons_succ]
  refine takeD 9 15 (.int .u64 1) (by exact rfl) rfl (by kernel_rfl) (by kernel_rfl) (by kernel_rfl) (fun _ _ _ h => h) (Or.inl ⟨by rfl, ?_⟩) (by assumption) ?_
  · intro wq hS
    have h0 := hS.2.1.cell 3 (v := .int .u64 1) rfl
    go_simp
  try simp only [Act.put, List.setIfInBounds_toArray, List.set_cons_zero, List.set_cons_succ]
  refine wpAnyH_ready (rs := [10]) (by kernel_rfl) (by simp) ?_
  refine AllReadyH.cons (by exact rfl) (fun K hK => ?_) AllReadyH.nil
  go_simp
  refine (cmpU_one _).mono ?_
  rintro e w1 ⟨rfl, hq⟩
  obtain rfl := hq.symm
  go_wp2_with fail
  refine hK.out _ _ hHeld (fun hHeld => ?_)
  try simp only [Act.put, List.setIfInBounds_toArray, List.set_cons_zero, List.set_cons_succ]
  clear hK K
  refine takeD 11 5 (.int .i64 0) (by exact rfl) rfl (by kernel_rfl) (by kernel_rfl) (by kernel_rfl) (fun _ _ _ h => h) (Or.inl ⟨by rfl, ?_⟩) (by assumption) ?_
  · intro wq hS
    go_simp
  try simp only [Act.put, List.setIfInBounds_toArray, List.set_cons_zero, List.set_cons_succ]
  refine wpAnyH_done (by kernel_rfl) ?_ _
  refine NoPanic.normal ?_
  go_wp2_with fail
  exact bodyPost_ret (v := .int .i64 0) (by simp [results, Tryz.results83, go_sem]) rfl ⟨rfl, hHeld.2.2⟩
set_option maxHeartbeats 1000000 in
theorem clo2 (b L : Nat) (w : World) (VB : VA w b [.slice (some ⟨L, 0, none⟩) 3 3] 66) (VL : VA w L shl 69) : Calls Tryz.prog 83 #[.int .i64 2, .int .i64 1, .pointer (some ⟨b, 0, none⟩)] w fun e w' => e = .returned (.int .i64 0) ∧ Below w.heap.size w w' := by
  go_enter Tryz.func83, Tryz.ntmps83
  go_upto_region 1 with fail
  refine wp_region_noPanic ?_
  refine wp_region_held_drew (S := fun w' => VA w' b [.slice (some ⟨L, 0, none⟩) 3 3] 66 ∧ VA w' L shl 69 ∧ Below w.heap.size w w') (by kernel_rfl) ⟨VB.drew, VL.drew, (Below.refl _ _).drew⟩ (fun hHeld => ?_)
  refine takeD 0 6 (.slice (some ⟨L, 0, none⟩) 3 3) (by exact rfl) rfl (by kernel_rfl) (by kernel_rfl) (by kernel_rfl) (fun _ _ _ h => h) (Or.inl ⟨by rfl, ?_⟩) (by assumption) ?_
  · intro wq hS
    have h0 := hS.1.cell 0 (v := .slice (some ⟨L, 0, none⟩) 3 3) rfl
    go_simp
  try simp only [Act.put, List.setIfInBounds_toArray, List.set_cons_zero, List.set_cons_succ]
  refine takeD 1 7 (.int .i64 1) (by exact rfl) rfl (by kernel_rfl) (by kernel_rfl) (by kernel_rfl) (fun _ _ _ h => h) (Or.inl ⟨by rfl, ?_⟩) (by assumption) ?_
  · intro wq hS
    go_simp
  try simp only [Act.put, List.setIfInBounds_toArray, List.set_cons_zero, List.set_cons_succ]
  refine takeD 2 8 (.pointer (some ⟨L, 2, none⟩)) (by exact rfl) rfl (by kernel_rfl) (by kernel_rfl) (by kernel_rfl) (fun _ _ _ h => h) (Or.inl ⟨by rfl, ?_⟩) (by assumption) ?_
  · intro wq hS
    go_simp
  try simp only [Act.put, List.setIfInBounds_toArray, List.set_cons_zero, List.set_cons_succ]
  refine takeD 3 9 (.pointer (some ⟨L, 3, none⟩)) (by exact rfl) rfl (by kernel_rfl) (by kernel_rfl) (by kernel_rfl) (fun _ _ _ h => h) (Or.inl ⟨by rfl, ?_⟩) (by assumption) ?_
  · intro wq hS
    go_simp
  try simp only [Act.put, List.setIfInBounds_toArray, List.set_cons_zero, List.set_cons_succ]
  refine takeD 4 10 (.int .u64 1) (by exact rfl) rfl (by kernel_rfl) (by kernel_rfl) (by kernel_rfl) (fun _ _ _ h => h) (Or.inl ⟨by rfl, ?_⟩) (by assumption) ?_
  · intro wq hS
    have h0 := hS.2.1.cell 3 (v := .int .u64 1) rfl
    go_simp
  try simp only [Act.put, List.setIfInBounds_toArray, List.set_cons_zero, List.set_cons_succ]
  refine takeD 5 11 (.slice (some ⟨L, 0, none⟩) 3 3) (by exact rfl) rfl (by kernel_rfl) (by kernel_rfl) (by kernel_rfl) (fun _ _ _ h => h) (Or.inl ⟨by rfl, ?_⟩) (by assumption) ?_
  · intro wq hS
    have h0 := hS.1.cell 0 (v := .slice (some ⟨L, 0, none⟩) 3 3) rfl
    go_simp
  try simp only [Act.put, List.setIfInBounds_toArray, List.set_cons_zero, List.set_cons_succ]
  refine takeD 6 12 (.int .i64 2) (by exact rfl) rfl (by kernel_rfl) (by kernel_rfl) (by kernel_rfl) (fun _ _ _ h => h) (Or.inl ⟨by rfl, ?_⟩) (by assumption) ?_
  · intro wq hS
    go_simp
  try simp only [Act.put, List.setIfInBounds_toArray, List.set_cons_zero, List.set_cons_succ]
  refine takeD 7 13 (.pointer (some ⟨L, 4, none⟩)) (by exact rfl) rfl (by kernel_rfl) (by kernel_rfl) (by kernel_rfl) (fun _ _ _ h => h) (Or.inl ⟨by rfl, ?_⟩) (by assumption) ?_
  · intro wq hS
    go_simp
  try simp only [Act.put, List.setIfInBounds_toArray, List.set_cons_zero, List.set_cons_succ]
  refine takeD 8 14 (.pointer (some ⟨L, 5, none⟩)) (by exact rfl) rfl (by kernel_rfl) (by kernel_rfl) (by kernel_rfl) (fun _ _ _ h => h) (Or.inl ⟨by rfl, ?_⟩) (by assumption) ?_
  · intro wq hS
    go_simp
  try simp only [Act.put, List.setIfInBounds_toArray, List.set_cons_zero, List.set_cons_succ]
  refine takeD 9 15 (.int .u64 1) (by exact rfl) rfl (by kernel_rfl) (by kernel_rfl) (by kernel_rfl) (fun _ _ _ h => h) (Or.inl ⟨by rfl, ?_⟩) (by assumption) ?_
  · intro wq hS
    have h0 := hS.2.1.cell 5 (v := .int .u64 1) rfl
    go_simp
  try simp only [Act.put, List.setIfInBounds_toArray, List.set_cons_zero, List.set_cons_succ]
  refine wpAnyH_ready (rs := [10]) (by kernel_rfl) (by simp) ?_
  refine AllReadyH.cons (by exact rfl) (fun K hK => ?_) AllReadyH.nil
  go_simp
  refine (cmpU_one _).mono ?_
  rintro e w1 ⟨rfl, hq⟩
  obtain rfl := hq.symm
  go_wp2_with fail
  refine hK.out _ _ hHeld (fun hHeld => ?_)
  try simp only [Act.put, List.setIfInBounds_toArray, List.set_cons_zero, List.set_cons_succ]
  clear hK K
  refine takeD 11 5 (.int .i64 0) (by exact rfl) rfl (by kernel_rfl) (by kernel_rfl) (by kernel_rfl) (fun _ _ _ h => h) (Or.inl ⟨by rfl, ?_⟩) (by assumption) ?_
  · intro wq hS
    go_simp
  try simp only [Act.put, List.setIfInBounds_toArray, List.set_cons_zero, List.set_cons_succ]
  refine wpAnyH_done (by kernel_rfl) ?_ _
  refine NoPanic.normal ?_
  go_wp2_with fail
  exact bodyPost_ret (v := .int .i64 0) (by simp [results, Tryz.results83, go_sem]) rfl ⟨rfl, hHeld.2.2⟩
set_option maxHeartbeats 4000000 in
set_option maxRecDepth 100000 in
theorem ins3 (q b L : Nat) (w : World) (V : VA w q (ci [0, 1, 2]) 3) (VB : VA w b [.slice (some ⟨L, 0, none⟩) 3 3] 66) (VL : VA w L shl 69) : Calls Tryz.prog 112 #[.slice (some ⟨q, 0, none⟩) 3 3, .int .i64 0, .int .i64 3, .func (.func 83) #[] #[.pointer (some ⟨b, 0, none⟩)]] w fun e w' => e = .returned (.tuple #[]) ∧ Below w.heap.size w w' := by
  have VQ_0 := (show Hid _ from V)
  have VB_0 := (show Hid _ from VB)
  have VL_0 := (show Hid _ from VL)
  have BB_0 := (show Hid _ from Below.refl w.heap.size w)
  clear V VB VL
  go_enter Tryz.func112, Tryz.ntmps112
  go_wp2_with fail
  refine wp_loop_rounds 4 ?_
  rw [rounds_succ]
  go_upto_region 4 with fail
  refine wp_loop_rounds 4 ?_
  rw [rounds_succ]
  go_upto_region 4 with fail
  refine wp_region_noPanic ?_
  refine wp_region_held_drew (S := fun w' => VA w' q (ci [0, 1, 2]) 3) (by kernel_rfl) VQ_0.out.drew (fun hHeld => ?_)
  refine takeD 0 18 (.int .i64 1) (by exact rfl) rfl (by kernel_rfl) (by kernel_rfl) (by kernel_rfl) (fun _ _ _ h => h) (Or.inl ⟨by rfl, ?_⟩) (by assumption) ?_
  · intro wq hS
    go_simp
  try simp only [Act.put, List.setIfInBounds_toArray, List.set_cons_zero, List.set_cons_succ]
  refine takeD 1 19 (.int .i64 0) (by exact rfl) rfl (by kernel_rfl) (by kernel_rfl) (by kernel_rfl) (fun _ _ _ h => h) (Or.inl ⟨by rfl, ?_⟩) (by assumption) ?_
  · intro wq hS
    go_simp
  try simp only [Act.put, List.setIfInBounds_toArray, List.set_cons_zero, List.set_cons_succ]
  refine takeD 2 20 (.bool true) (by exact rfl) rfl (by kernel_rfl) (by kernel_rfl) (by kernel_rfl) (fun _ _ _ h => h) (Or.inl ⟨by rfl, ?_⟩) (by assumption) ?_
  · intro wq hS
    go_simp
  try simp only [Act.put, List.setIfInBounds_toArray, List.set_cons_zero, List.set_cons_succ]
  refine takeD 3 21 (.bool true) (by exact rfl) rfl (by kernel_rfl) (by kernel_rfl) (by kernel_rfl) (fun _ _ _ h => h) (Or.inl ⟨by rfl, ?_⟩) (by assumption) ?_
  · intro wq hS
    go_simp
  try simp only [Act.put, List.setIfInBounds_toArray, List.set_cons_zero, List.set_cons_succ]
  refine takeD 4 22 (.func (.func 83) #[] #[.pointer (some ⟨b, 0, none⟩)]) (by exact rfl) rfl (by kernel_rfl) (by kernel_rfl) (by kernel_rfl) (fun _ _ _ h => h) (Or.inl ⟨by rfl, ?_⟩) (by assumption) ?_
  · intro wq hS
    go_simp
  try simp only [Act.put, List.setIfInBounds_toArray, List.set_cons_zero, List.set_cons_succ]
  refine takeD 5 23 (.slice (some ⟨q, 0, none⟩) 3 3) (by exact rfl) rfl (by kernel_rfl) (by kernel_rfl) (by kernel_rfl) (fun _ _ _ h => h) (Or.inl ⟨by rfl, ?_⟩) (by assumption) ?_
  · intro wq hS
    go_simp
  try simp only [Act.put, List.setIfInBounds_toArray, List.set_cons_zero, List.set_cons_succ]
  refine takeD 6 24 (.int .i64 1) (by exact rfl) rfl (by kernel_rfl) (by kernel_rfl) (by kernel_rfl) (fun _ _ _ h => h) (Or.inl ⟨by rfl, ?_⟩) (by assumption) ?_
  · intro wq hS
    go_simp
  try simp only [Act.put, List.setIfInBounds_toArray, List.set_cons_zero, List.set_cons_succ]
  refine takeD 7 25 (.pointer (some ⟨q, 1, none⟩)) (by exact rfl) rfl (by kernel_rfl) (by kernel_rfl) (by kernel_rfl) (fun _ _ _ h => h) (Or.inl ⟨by rfl, ?_⟩) (by assumption) ?_
  · intro wq hS
    go_simp
  try simp only [Act.put, List.setIfInBounds_toArray, List.set_cons_zero, List.set_cons_succ]
  refine takeD 8 26 (.int .i64 1) (by exact rfl) rfl (by kernel_rfl) (by kernel_rfl) (by kernel_rfl) (fun _ _ _ h => h) (Or.inl ⟨by rfl, ?_⟩) (by assumption) ?_
  · intro wq hS
    have h1 := hS.cell 1 (v := .int .i64 1) rfl
    go_simp
  try simp only [Act.put, List.setIfInBounds_toArray, List.set_cons_zero, List.set_cons_succ]
  refine takeD 9 27 (.slice (some ⟨q, 0, none⟩) 3 3) (by exact rfl) rfl (by kernel_rfl) (by kernel_rfl) (by kernel_rfl) (fun _ _ _ h => h) (Or.inl ⟨by rfl, ?_⟩) (by assumption) ?_
  · intro wq hS
    go_simp
  try simp only [Act.put, List.setIfInBounds_toArray, List.set_cons_zero, List.set_cons_succ]
  refine takeD 10 28 (.int .i64 1) (by exact rfl) rfl (by kernel_rfl) (by kernel_rfl) (by kernel_rfl) (fun _ _ _ h => h) (Or.inl ⟨by rfl, ?_⟩) (by assumption) ?_
  · intro wq hS
    go_simp
  try simp only [Act.put, List.setIfInBounds_toArray, List.set_cons_zero, List.set_cons_succ]
  refine takeD 11 29 (.int .i64 0) (by exact rfl) rfl (by kernel_rfl) (by kernel_rfl) (by kernel_rfl) (fun _ _ _ h => h) (Or.inl ⟨by rfl, ?_⟩) (by assumption) ?_
  · intro wq hS
    go_simp
    rfl
  try simp only [Act.put, List.setIfInBounds_toArray, List.set_cons_zero, List.set_cons_succ]
  refine takeD 12 30 (.pointer (some ⟨q, 0, none⟩)) (by exact rfl) rfl (by kernel_rfl) (by kernel_rfl) (by kernel_rfl) (fun _ _ _ h => h) (Or.inl ⟨by rfl, ?_⟩) (by assumption) ?_
  · intro wq hS
    go_simp
  try simp only [Act.put, List.setIfInBounds_toArray, List.set_cons_zero, List.set_cons_succ]
  refine takeD 13 31 (.int .i64 0) (by exact rfl) rfl (by kernel_rfl) (by kernel_rfl) (by kernel_rfl) (fun _ _ _ h => h) (Or.inl ⟨by rfl, ?_⟩) (by assumption) ?_
  · intro wq hS
    have h1 := hS.cell 0 (v := .int .i64 0) rfl
    go_simp
  try simp only [Act.put, List.setIfInBounds_toArray, List.set_cons_zero, List.set_cons_succ]
  clear hHeld
  have VQ_z1 := (show Hid _ from VQ_0.out.drew)
  have VB_z1 := (show Hid _ from VB_0.out.drew)
  have VL_z1 := (show Hid _ from VL_0.out.drew)
  have BB_z1 := (show Hid _ from BB_0.out.drew)
  clear VQ_0 VB_0 VL_0 BB_0
  generalize w.drew = wz1 at *
  refine wpAnyH_ready (rs := [14]) (by kernel_rfl) (by simp) ?_
  refine AllReadyH.cons (by exact rfl) (fun K hK => ?_) AllReadyH.nil
  go_simp
  refine (clo1 b L _ VB_z1.out VL_z1.out).mono ?_
  rintro e w1 ⟨rfl, b1⟩
  have VQ_1 := (show Hid _ from VQ_z1.out.step b1)
  have VB_1 := (show Hid _ from VB_z1.out.step b1)
  have VL_1 := (show Hid _ from VL_z1.out.step b1)
  have BB_1 := (show Hid _ from BB_z1.out.trans (b1.mono BB_z1.out.size))
  clear b1
  go_wp2_with fail
  refine hK.out _ _ (VQ_1.out) (fun hHeld => ?_)
  try simp only [Act.put, List.setIfInBounds_toArray, List.set_cons_zero, List.set_cons_succ]
  clear hK K
  clear VQ_z1 VB_z1 VL_z1 BB_z1
  refine takeD 15 33 (.bool false) (by exact rfl) rfl (by kernel_rfl) (by kernel_rfl) (by kernel_rfl) (fun _ _ _ h => h) (Or.inl ⟨by rfl, ?_⟩) (by assumption) ?_
  · intro wq hS
    go_simp
  try simp only [Act.put, List.setIfInBounds_toArray, List.set_cons_zero, List.set_cons_succ]
  refine takeD 16 34 (.bool false) (by exact rfl) rfl (by kernel_rfl) (by kernel_rfl) (by kernel_rfl) (fun _ _ _ h => h) (Or.inl ⟨by rfl, ?_⟩) (by assumption) ?_
  · intro wq hS
    go_simp
  try simp only [Act.put, List.setIfInBounds_toArray, List.set_cons_zero, List.set_cons_succ]
  clear hHeld
  refine wpAnyH_done (by kernel_rfl) ?_ _
  refine NoPanic.normal ?_
  
  go_wp2_with fail
  rw [rounds_succ]
  go_upto_region 4 with fail
  refine wp_loop_rounds 4 ?_
  rw [rounds_succ]
  go_upto_region 4 with fail
  refine wp_region_noPanic ?_
  refine wp_region_held_drew (S := fun w' => VA w' q (ci [0, 1, 2]) 3) (by kernel_rfl) VQ_1.out.drew (fun hHeld => ?_)
  refine takeD 0 18 (.int .i64 2) (by exact rfl) rfl (by kernel_rfl) (by kernel_rfl) (by kernel_rfl) (fun _ _ _ h => h) (Or.inl ⟨by rfl, ?_⟩) (by assumption) ?_
  · intro wq hS
    go_simp
  try simp only [Act.put, List.setIfInBounds_toArray, List.set_cons_zero, List.set_cons_succ]
  refine takeD 1 19 (.int .i64 0) (by exact rfl) rfl (by kernel_rfl) (by kernel_rfl) (by kernel_rfl) (fun _ _ _ h => h) (Or.inl ⟨by rfl, ?_⟩) (by assumption) ?_
  · intro wq hS
    go_simp
  try simp only [Act.put, List.setIfInBounds_toArray, List.set_cons_zero, List.set_cons_succ]
  refine takeD 2 20 (.bool true) (by exact rfl) rfl (by kernel_rfl) (by kernel_rfl) (by kernel_rfl) (fun _ _ _ h => h) (Or.inl ⟨by rfl, ?_⟩) (by assumption) ?_
  · intro wq hS
    go_simp
  try simp only [Act.put, List.setIfInBounds_toArray, List.set_cons_zero, List.set_cons_succ]
  refine takeD 3 21 (.bool true) (by exact rfl) rfl (by kernel_rfl) (by kernel_rfl) (by kernel_rfl) (fun _ _ _ h => h) (Or.inl ⟨by rfl, ?_⟩) (by assumption) ?_
  · intro wq hS
    go_simp
  try simp only [Act.put, List.setIfInBounds_toArray, List.set_cons_zero, List.set_cons_succ]
  refine takeD 4 22 (.func (.func 83) #[] #[.pointer (some ⟨b, 0, none⟩)]) (by exact rfl) rfl (by kernel_rfl) (by kernel_rfl) (by kernel_rfl) (fun _ _ _ h => h) (Or.inl ⟨by rfl, ?_⟩) (by assumption) ?_
  · intro wq hS
    go_simp
  try simp only [Act.put, List.setIfInBounds_toArray, List.set_cons_zero, List.set_cons_succ]
  refine takeD 5 23 (.slice (some ⟨q, 0, none⟩) 3 3) (by exact rfl) rfl (by kernel_rfl) (by kernel_rfl) (by kernel_rfl) (fun _ _ _ h => h) (Or.inl ⟨by rfl, ?_⟩) (by assumption) ?_
  · intro wq hS
    go_simp
  try simp only [Act.put, List.setIfInBounds_toArray, List.set_cons_zero, List.set_cons_succ]
  refine takeD 6 24 (.int .i64 2) (by exact rfl) rfl (by kernel_rfl) (by kernel_rfl) (by kernel_rfl) (fun _ _ _ h => h) (Or.inl ⟨by rfl, ?_⟩) (by assumption) ?_
  · intro wq hS
    go_simp
  try simp only [Act.put, List.setIfInBounds_toArray, List.set_cons_zero, List.set_cons_succ]
  refine takeD 7 25 (.pointer (some ⟨q, 2, none⟩)) (by exact rfl) rfl (by kernel_rfl) (by kernel_rfl) (by kernel_rfl) (fun _ _ _ h => h) (Or.inl ⟨by rfl, ?_⟩) (by assumption) ?_
  · intro wq hS
    go_simp
  try simp only [Act.put, List.setIfInBounds_toArray, List.set_cons_zero, List.set_cons_succ]
  refine takeD 8 26 (.int .i64 2) (by exact rfl) rfl (by kernel_rfl) (by kernel_rfl) (by kernel_rfl) (fun _ _ _ h => h) (Or.inl ⟨by rfl, ?_⟩) (by assumption) ?_
  · intro wq hS
    have h1 := hS.cell 2 (v := .int .i64 2) rfl
    go_simp
  try simp only [Act.put, List.setIfInBounds_toArray, List.set_cons_zero, List.set_cons_succ]
  refine takeD 9 27 (.slice (some ⟨q, 0, none⟩) 3 3) (by exact rfl) rfl (by kernel_rfl) (by kernel_rfl) (by kernel_rfl) (fun _ _ _ h => h) (Or.inl ⟨by rfl, ?_⟩) (by assumption) ?_
  · intro wq hS
    go_simp
  try simp only [Act.put, List.setIfInBounds_toArray, List.set_cons_zero, List.set_cons_succ]
  refine takeD 10 28 (.int .i64 2) (by exact rfl) rfl (by kernel_rfl) (by kernel_rfl) (by kernel_rfl) (fun _ _ _ h => h) (Or.inl ⟨by rfl, ?_⟩) (by assumption) ?_
  · intro wq hS
    go_simp
  try simp only [Act.put, List.setIfInBounds_toArray, List.set_cons_zero, List.set_cons_succ]
  refine takeD 11 29 (.int .i64 1) (by exact rfl) rfl (by kernel_rfl) (by kernel_rfl) (by kernel_rfl) (fun _ _ _ h => h) (Or.inl ⟨by rfl, ?_⟩) (by assumption) ?_
  · intro wq hS
    go_simp
    rfl
  try simp only [Act.put, List.setIfInBounds_toArray, List.set_cons_zero, List.set_cons_succ]
  refine takeD 12 30 (.pointer (some ⟨q, 1, none⟩)) (by exact rfl) rfl (by kernel_rfl) (by kernel_rfl) (by kernel_rfl) (fun _ _ _ h => h) (Or.inl ⟨by rfl, ?_⟩) (by assumption) ?_
  · intro wq hS
    go_simp
  try simp only [Act.put, List.setIfInBounds_toArray, List.set_cons_zero, List.set_cons_succ]
  refine takeD 13 31 (.int .i64 1) (by exact rfl) rfl (by kernel_rfl) (by kernel_rfl) (by kernel_rfl) (fun _ _ _ h => h) (Or.inl ⟨by rfl, ?_⟩) (by assumption) ?_
  · intro wq hS
    have h1 := hS.cell 1 (v := .int .i64 1) rfl
    go_simp
  try simp only [Act.put, List.setIfInBounds_toArray, List.set_cons_zero, List.set_cons_succ]
  clear hHeld
  have VQ_z2 := (show Hid _ from VQ_1.out.drew)
  have VB_z2 := (show Hid _ from VB_1.out.drew)
  have VL_z2 := (show Hid _ from VL_1.out.drew)
  have BB_z2 := (show Hid _ from BB_1.out.drew)
  clear VQ_1 VB_1 VL_1 BB_1
  generalize w1.drew = wz2 at *
  refine wpAnyH_ready (rs := [14]) (by kernel_rfl) (by simp) ?_
  refine AllReadyH.cons (by exact rfl) (fun K hK => ?_) AllReadyH.nil
  go_simp
  refine (clo2 b L _ VB_z2.out VL_z2.out).mono ?_
  rintro e w2 ⟨rfl, b2⟩
  have VQ_2 := (show Hid _ from VQ_z2.out.step b2)
  have VB_2 := (show Hid _ from VB_z2.out.step b2)
  have VL_2 := (show Hid _ from VL_z2.out.step b2)
  have BB_2 := (show Hid _ from BB_z2.out.trans (b2.mono BB_z2.out.size))
  clear b2
  go_wp2_with fail
  refine hK.out _ _ (VQ_2.out) (fun hHeld => ?_)
  try simp only [Act.put, List.setIfInBounds_toArray, List.set_cons_zero, List.set_cons_succ]
  clear hK K
  clear VQ_z2 VB_z2 VL_z2 BB_z2
  refine takeD 15 33 (.bool false) (by exact rfl) rfl (by kernel_rfl) (by kernel_rfl) (by kernel_rfl) (fun _ _ _ h => h) (Or.inl ⟨by rfl, ?_⟩) (by assumption) ?_
  · intro wq hS
    go_simp
  try simp only [Act.put, List.setIfInBounds_toArray, List.set_cons_zero, List.set_cons_succ]
  refine takeD 16 34 (.bool false) (by exact rfl) rfl (by kernel_rfl) (by kernel_rfl) (by kernel_rfl) (fun _ _ _ h => h) (Or.inl ⟨by rfl, ?_⟩) (by assumption) ?_
  · intro wq hS
    go_simp
  try simp only [Act.put, List.setIfInBounds_toArray, List.set_cons_zero, List.set_cons_succ]
  clear hHeld
  refine wpAnyH_done (by kernel_rfl) ?_ _
  refine NoPanic.normal ?_
  
  go_wp2_with fail
  rw [rounds_succ]
  go_wp2_with fail
  exact bodyPost_end (v := .tuple #[]) (by simp [results, Tryz.results112, go_sem]) rfl ⟨rfl, BB_2.out⟩
theorem stable3 (q b L : Nat) (w : World) (V : VA w q (ci [0, 1, 2]) 3) (VB : VA w b [.slice (some ⟨L, 0, none⟩) 3 3] 66) (VL : VA w L shl 69) : Calls Tryz.prog 99 #[.slice (some ⟨q, 0, none⟩) 3 3, .int .i64 3, .func (.func 83) #[] #[.pointer (some ⟨b, 0, none⟩)]] w fun e w' => e = .returned (.tuple #[]) ∧ Below w.heap.size w w' := by
  have HV := (show Hid _ from V)
  have HVB := (show Hid _ from VB)
  have HVL := (show Hid _ from VL)
  clear V VB VL
  go_enter Tryz.func99, Tryz.ntmps99
  go_wp2_with fail
  refine wp_loop_rounds 2 ?_
  rw [rounds_succ]
  go_wp2_with fail
  refine (ins3 q b L _ HV.out HVB.out HVL.out).mono ?_
  rintro e w1 ⟨rfl, b1⟩
  have B1 := (show Hid _ from b1)
  clear b1
  go_wp2_with fail
  refine wp_loop_rounds 2 ?_
  rw [rounds_succ]
  go_wp2_with fail
  exact bodyPost_end (v := .tuple #[]) (by simp [results, Tryz.results99, go_sem]) rfl ⟨rfl, B1.out⟩
theorem sorts3 (q b L : Nat) (w : World) (V : VA w q (ci [0, 1, 2]) 3) (VB : VA w b [.slice (some ⟨L, 0, none⟩) 3 3] 66) (VL : VA w L shl 69) : Calls Tryz.prog 82 #[.slice (some ⟨q, 0, none⟩) 3 3, .func (.func 83) #[] #[.pointer (some ⟨b, 0, none⟩)]] w fun e w' => e = .returned (.tuple #[]) ∧ Below w.heap.size w w' := by
  have HV := (show Hid _ from V)
  have HVB := (show Hid _ from VB)
  have HVL := (show Hid _ from VL)
  clear V VB VL
  go_enter Tryz.func82, Tryz.ntmps82
  go_wp2_with fail
  refine (stable3 q b L _ HV.out HVB.out HVL.out).mono ?_
  rintro e w1 ⟨rfl, b1⟩
  have B1 := (show Hid _ from b1)
  clear b1
  go_wp2_with fail
  exact bodyPost_end (v := .tuple #[]) (by simp [results, Tryz.results82, go_sem]) rfl ⟨rfl, B1.out⟩
end Go.Proofs.YteohncnjjgoemaaGreatDoor
/- money: the example of awake: Split of 100 by three equal weights, to its end. -/
namespace Go.Proofs.YteohncnjjgoemaaGreatDoor
open Go.RowKit
set_option linter.unusedVariables false

/-- make of three -/
theorem mk3 {w : World} {ops : Array Oper} {rest : List Oper} {o : Oper} {a : Act} {Q : Exit → Act → World → Prop} (hgd : o.guard = none) (T e : TypeId) (l c : Operand) (ho : o.op = Op.makeSlice T l c) (hu : Tryz.prog.underlying T = some (.slice e)) (z : Value) (sz by_ : Nat)
    (hz : (Tryz.prog.info? e).map (fun i => (i.zero, i.size, i.bytes)) = some (some z, sz, by_)) (hby : by_ ≤ 100) (cs : List Value) (hcs : madeCells z.cells (3 * sz) = cs.toArray) (hl : a.eval l = .int .i64 3) (hc : a.eval c = .int .i64 3)
    (h : ∀ w', VA w' w.heap.size cs e → Below w.heap.size w w' → wpList Tryz.prog ops Q rest (a.put o.dst (.slice (some ⟨w.heap.size, 0, none⟩) 3 3)) w') : wpList Tryz.prog ops Q (o :: rest) a w := by
  obtain ⟨i0, hi, hz'⟩ := Option.map_eq_some_iff.1 hz
  simp only [Prod.mk.injEq] at hz'
  obtain ⟨z1, z2, z3⟩ := hz'
  refine wpList_plain hgd fun K hK' => ?_
  have hrun := run_make (P := Tryz.prog) w T e i0 z hu hi z1 .i64 .i64 3 3 (by omega) (by omega) (by rw [z3]; omega) (by omega)
  unfold Oper.wp
  simp [execOp, ho, hl, hc, hrun, Result.andThen]
  refine hK' _ _ (h _ ⟨?_⟩ ((Below.refl _ _).alloc (Nat.le_refl _) _))
  rw [Go.heap_alloc_new, z2, ← hcs]
/-- all blocks but p are as they were; new ones may be there -/
structure Ex1 (p : Nat) (w w' : World) : Prop where
  os : w'.os = w.os
  tape : w'.tape = w.tape
  output : w'.output = w.output
  size : w.heap.size ≤ w'.heap.size
  block : ∀ k, k < w.heap.size → k ≠ p → w'.heap[k]? = w.heap[k]?
theorem Ex1.of_bel {p : Nat} {a c : World} (k : Below a.heap.size a c) : Ex1 p a c := ⟨k.os, k.tape, k.output, k.size, fun i hi _ => k.block i hi⟩
theorem Ex1.upd {p : Nat} {a b c : World} (h : Ex1 p a b) (k : Upd p b c) : Ex1 p a c := ⟨k.os.trans h.os, k.tape.trans h.tape, k.output.trans h.output, by rw [k.size]; exact h.size, fun i hi hne => (k.block i hne).trans (h.block i hi hne)⟩
theorem Ex1.bel {p B : Nat} {w0 a b : World} (h : Below B w0 a) (k : Ex1 p a b) (hp : B ≤ p) (hB : B ≤ a.heap.size) : Below B w0 b := ⟨k.os.trans h.os, k.tape.trans h.tape, k.output.trans h.output, Nat.le_trans h.size k.size, fun i hi => (k.block i (by omega) (by omega)).trans (h.block i hi)⟩
theorem VA.ex1 {w w' : World} {p q : Nat} {cs : List Value} {T : TypeId} (h : VA w q cs T) (k : Ex1 p w w') (hq : q ≠ p) : VA w' q cs T := ⟨by rw [k.block q h.lt hq]; exact h.blk⟩
theorem infoInt : (Tryz.prog.info? 3).map (fun i => (i.zero, i.size, i.bytes)) = some (some (.int .i64 0), 1, 8) := by kernel_rfl
theorem infoShare : (Tryz.prog.info? 69).map (fun i => (i.zero, i.size, i.bytes)) = some (some (.agg #[.int .u64 0, .int .u64 0]), 2, 16) := by kernel_rfl
theorem infoMoney : (Tryz.prog.info? 23).map (fun i => (i.zero, i.size, i.bytes)) = some (some (.agg #[.int .i64 0, .int .i64 0]), 2, 16) := by kernel_rfl
def shl2 : List Value := [.int .u64 34, .int .u64 1, .int .u64 33, .int .u64 1, .int .u64 33, .int .u64 1]
set_option maxHeartbeats 4000000 in
set_option maxRecDepth 100000 in
theorem handOut3 (L : Nat) (w : World) (VL : VA w L shl 69) : Calls Tryz.prog 59 #[.int .u64 1, .slice (some ⟨L, 0, none⟩) 3 3] w fun e w' => e = .returned (.tuple #[]) ∧ VA w' L shl2 69 ∧ Ex1 L w w' := by
  have VB_0 := (show Hid _ from va_new w [.slice (some ⟨L, 0, none⟩) 3 3] 66)
  have VL_0 := (show Hid _ from VL.alloc (.cells ([.slice (some ⟨L, 0, none⟩) 3 3] : List Value).toArray 66))
  have BB_0 := (show Hid _ from (Below.refl w.heap.size w).alloc (Nat.le_refl _) (.cells ([.slice (some ⟨L, 0, none⟩) 3 3] : List Value).toArray 66))
  have hL : L < w.heap.size := VL.lt
  clear VL
  go_enter Tryz.func59, Tryz.ntmps59
  obtain ⟨q, hq⟩ : ∃ q, q = w.heap.size + 1 := ⟨_, rfl⟩
  have eS : (w.alloc (.cells ([.slice (some ⟨L, 0, none⟩) 3 3] : List Value).toArray 66)).heap.size = q := by rw [hq]; simp
  go_upto_region 2 with (refine mk3 rfl 140 3 _ _ rfl Tryz.underlying140 (.int .i64 0) 1 8 infoInt (by decide) (ci [0, 0, 0]) (by kernel_rfl) (by rfl) (by rfl) ?_; intro w1 v1 b1; have VQ_1 := (show Hid _ from v1); have VB_1 := (show Hid _ from VB_0.out.step b1); have VL_1 := (show Hid _ from VL_0.out.step b1); have BB_1 := (show Hid _ from BB_0.out.trans (b1.mono BB_0.out.size)); clear v1 b1 VB_0 VL_0 BB_0)
  have VQ_1 : Hid (VA w1 q (ci [0, 0, 0]) 3) := by rw [← eS]; exact VQ_1
  have HQE := (show Hid _ from hq)
  rw [← hq]
  clear hq eS
  have c0 := VQ_1.out.cell 0 (v := .int .i64 0) rfl
  have c1 := VQ_1.out.cell 1 (v := .int .i64 0) rfl
  have c2 := VQ_1.out.cell 2 (v := .int .i64 0) rfl
  have f0 := VQ_1.out.free 0
  have f1 := VQ_1.out.free 1
  have f2 := VQ_1.out.free 2
  go_wp2_with fail
  refine wp_loop_rounds 4 ?_
  rw [rounds_succ]
  go_wp2_with fail
  rw [rounds_succ]
  go_wp2_with fail
  rw [rounds_succ]
  go_wp2_with fail
  rw [rounds_succ]
  go_wp2_with fail
  clear c0 c1 c2 f0 f1 f2
  have VQ_2 : Hid (VA (((w1.setCell ⟨q, 0, none⟩ (.int .i64 0)).setCell ⟨q, 1, none⟩ (.int .i64 1)).setCell ⟨q, 2, none⟩ (.int .i64 2)) q (ci [0, 1, 2]) 3) := ((VQ_1.out.set 0 (.int .i64 0)).set 1 (.int .i64 1)).set 2 (.int .i64 2)
  have VB_2 := (show Hid _ from ((VB_1.out.set_other (q := q) (by have := HQE.out; omega) 0 (.int .i64 0)).set_other (q := q) (by have := HQE.out; omega) 1 (.int .i64 1)).set_other (q := q) (by have := HQE.out; omega) 2 (.int .i64 2))
  have VL_2 := (show Hid _ from ((VL_1.out.set_other (q := q) (by have := HQE.out; omega) 0 (.int .i64 0)).set_other (q := q) (by have := HQE.out; omega) 1 (.int .i64 1)).set_other (q := q) (by have := HQE.out; omega) 2 (.int .i64 2))
  have BB_2 := (show Hid _ from ((BB_1.out.setCell (p := ⟨q, 0, none⟩) (by have := HQE.out; show _ ≤ q; omega) (.int .i64 0)).setCell (p := ⟨q, 1, none⟩) (by have := HQE.out; show _ ≤ q; omega) (.int .i64 1)).setCell (p := ⟨q, 2, none⟩) (by have := HQE.out; show _ ≤ q; omega) (.int .i64 2))
  clear VQ_1 VB_1 VL_1 BB_1
  generalize ((w1.setCell ⟨q, 0, none⟩ (.int .i64 0)).setCell ⟨q, 1, none⟩ (.int .i64 1)).setCell ⟨q, 2, none⟩ (.int .i64 2) = w2 at *
  refine (sorts3 q w.heap.size L _ VQ_2.out VB_2.out VL_2.out).mono ?_
  rintro e w3 ⟨rfl, b3⟩
  have VQ_3 := (show Hid _ from VQ_2.out.step b3)
  have VB_3 := (show Hid _ from VB_2.out.step b3)
  have VL_3 := (show Hid _ from VL_2.out.step b3)
  have BB_3 := (show Hid _ from BB_2.out.trans (b3.mono BB_2.out.size))
  clear b3 VQ_2 VB_2 VL_2 BB_2
  have q0 := VQ_3.out.cell 0 (v := .int .i64 0) rfl
  have b0 := VB_3.out.cell 0 (v := .slice (some ⟨L, 0, none⟩) 3 3) rfl
  have l0 := VL_3.out.cell 0 (v := .int .u64 33) rfl
  have g0 := VL_3.out.free 0
  go_wp2_with fail
  refine wp_loop_rounds 2 ?_
  rw [rounds_succ]
  go_wp2_with fail
  rw [rounds_succ]
  go_wp2_with fail
  refine bodyPost_end (v := .tuple #[]) (by simp [results, Tryz.results59, go_sem]) rfl ⟨rfl, VL_3.out.set 0 (.int .u64 34), (Ex1.of_bel BB_3.out).upd (upd_set _ _ _ _)⟩
end Go.Proofs.YteohncnjjgoemaaGreatDoor
/- money: the example of awake: shares, checkSplit, Split of 100 by three equal weights. -/
namespace Go.Proofs.YteohncnjjgoemaaGreatDoor
open Go.RowKit
set_option linter.unusedVariables false

theorem m100 (w : World) : Calls Tryz.prog 57 #[.int .u64 100, .int .u64 1] w fun e w' => e = .returned (.tuple #[.int .u64 0, .int .u64 100]) ∧ w' = w := mul64_any 100 1 w (by decide) (by decide)
theorem d100 (w : World) : Calls Tryz.prog 58 #[.int .u64 0, .int .u64 100, .int .u64 3] w fun e w' => e = .returned (.tuple #[.int .u64 33, .int .u64 1]) ∧ Below w.heap.size w w' := div64_small 100 3 w (by decide) (by decide) (by decide)
theorem infoSh : (Tryz.prog.info? 69).map (·.size) = some 2 := by kernel_rfl
/-- a struct of two cells is loaded out of a row -/
theorem ldM {w : World} {ops : Array Oper} {rest : List Oper} {o : Oper} {a : Act} {Q : Exit → Act → World → Prop} (hgd : o.guard = none) (t : TypeId) (x : Operand) (ho : o.op = .load t x)
    (p off : Nat) (hx : a.eval x = .pointer (some ⟨p, off, none⟩)) (u v : Value) (h0 : w.cell? ⟨p, off, none⟩ = some u) (h1 : w.cell? ⟨p, off + 1, none⟩ = some v) (d : TypeDesc) (hu : Tryz.prog.underlying t = some d) (hd : d.isRow = true) (hi : (Tryz.prog.info? t).map (·.size) = some 2)
    (k : wpList Tryz.prog ops Q rest (a.put o.dst (.agg #[u, v])) w) : wpList Tryz.prog ops Q (o :: rest) a w :=
  wpList_load_mid hgd t x ho p off hx [u, v] d (fun j y hv => by
    match j, hv with
    | 0, hv => simp at hv; subst hv; exact h0
    | 1, hv => simp at hv; subst hv; exact h1) hu hd hi k
set_option maxHeartbeats 4000000 in
set_option maxRecDepth 100000 in
theorem shares3 (p : Nat) (w : World) (V : VA w p (ci [1, 1, 1]) 2) : Calls Tryz.prog 26 #[.int .u64 100, .slice (some ⟨p, 0, none⟩) 3 3] w fun e w' => e = .returned (.slice (some ⟨w.heap.size, 0, none⟩) 3 3) ∧ VA w' w.heap.size shl2 69 ∧ Below w.heap.size w w' := by
  have VP_0 := (show Hid _ from V)
  have hp : p < w.heap.size := V.lt
  clear V
  go_enter Tryz.func26, Tryz.ntmps26
  go_wp2_with fail
  refine (total3 p _ VP_0.out).mono ?_
  rintro e wx ⟨rfl, hq⟩
  obtain rfl := hq.symm
  go_upto_region 4 with (refine mk3 rfl 66 69 _ _ rfl Tryz.underlying66 (.agg #[.int .u64 0, .int .u64 0]) 2 16 infoShare (by decide) [.int .u64 0, .int .u64 0, .int .u64 0, .int .u64 0, .int .u64 0, .int .u64 0] (by kernel_rfl) (by rfl) (by rfl) ?_; intro w1 v1 b1; have VL_1 := (show Hid _ from v1); have VP_1 := (show Hid _ from VP_0.out.step b1); have BB_1 := (show Hid _ from b1); clear v1 b1 VP_0)
  go_wp2_with fail
  refine wp_loop_rounds 4 ?_
  rw [rounds_succ]
  have p0 := VP_1.out.cell 0 (v := .int .i64 1) rfl
  go_wp2_with fail
  clear p0
  refine (m100 _).mono ?_
  rintro e wx ⟨rfl, hq⟩
  obtain rfl := hq.symm
  go_wp2_with fail
  refine (d100 _).mono ?_
  rintro e w2 ⟨rfl, b2⟩
  have VL_2 := (show Hid _ from VL_1.out.step b2)
  have VP_2 := (show Hid _ from VP_1.out.step b2)
  have BB_2 := (show Hid _ from BB_1.out.trans (b2.mono BB_1.out.size))
  clear b2 VL_1 VP_1 BB_1
  have l0 := VL_2.out.cell 0 (v := .int .u64 0) rfl
  have l1 := VL_2.out.cell 1 (v := .int .u64 0) rfl
  have f0 := VL_2.out.free 0
  have f1 := VL_2.out.free 1
  go_wp2_with fail
  clear l0 l1 f0 f1
  have VL_3 : Hid (VA ((w2.setCell ⟨w.heap.size, 0, none⟩ (.int .u64 33)).setCell ⟨w.heap.size, 1, none⟩ (.int .u64 1)) w.heap.size [.int .u64 33, .int .u64 1, .int .u64 0, .int .u64 0, .int .u64 0, .int .u64 0] 69) := (VL_2.out.set 0 (.int .u64 33)).set 1 (.int .u64 1)
  have VP_3 := (show Hid _ from (VP_2.out.set_other (q := w.heap.size) (by omega) 0 (.int .u64 33)).set_other (q := w.heap.size) (by omega) 1 (.int .u64 1))
  have BB_3 := (show Hid _ from (BB_2.out.setCell (p := ⟨w.heap.size, 0, none⟩) (Nat.le_refl _) (.int .u64 33)).setCell (p := ⟨w.heap.size, 1, none⟩) (Nat.le_refl _) (.int .u64 1))
  clear VL_2 VP_2 BB_2
  generalize ((w2.setCell ⟨w.heap.size, 0, none⟩ (.int .u64 33)).setCell ⟨w.heap.size, 1, none⟩ (.int .u64 1)) = w3 at *
  
  rw [rounds_succ]
  have p0 := VP_3.out.cell 1 (v := .int .i64 1) rfl
  go_wp2_with fail
  clear p0
  refine (m100 _).mono ?_
  rintro e wx ⟨rfl, hq⟩
  obtain rfl := hq.symm
  go_wp2_with fail
  refine (d100 _).mono ?_
  rintro e w4 ⟨rfl, b4⟩
  have VL_4 := (show Hid _ from VL_3.out.step b4)
  have VP_4 := (show Hid _ from VP_3.out.step b4)
  have BB_4 := (show Hid _ from BB_3.out.trans (b4.mono BB_3.out.size))
  clear b4 VL_3 VP_3 BB_3
  have l0 := VL_4.out.cell 2 (v := .int .u64 0) rfl
  have l1 := VL_4.out.cell 3 (v := .int .u64 0) rfl
  have f0 := VL_4.out.free 2
  have f1 := VL_4.out.free 3
  go_wp2_with fail
  clear l0 l1 f0 f1
  have VL_5 : Hid (VA ((w4.setCell ⟨w.heap.size, 2, none⟩ (.int .u64 33)).setCell ⟨w.heap.size, 3, none⟩ (.int .u64 1)) w.heap.size [.int .u64 33, .int .u64 1, .int .u64 33, .int .u64 1, .int .u64 0, .int .u64 0] 69) := (VL_4.out.set 2 (.int .u64 33)).set 3 (.int .u64 1)
  have VP_5 := (show Hid _ from (VP_4.out.set_other (q := w.heap.size) (by omega) 2 (.int .u64 33)).set_other (q := w.heap.size) (by omega) 3 (.int .u64 1))
  have BB_5 := (show Hid _ from (BB_4.out.setCell (p := ⟨w.heap.size, 2, none⟩) (Nat.le_refl _) (.int .u64 33)).setCell (p := ⟨w.heap.size, 3, none⟩) (Nat.le_refl _) (.int .u64 1))
  clear VL_4 VP_4 BB_4
  generalize ((w4.setCell ⟨w.heap.size, 2, none⟩ (.int .u64 33)).setCell ⟨w.heap.size, 3, none⟩ (.int .u64 1)) = w5 at *
  
  rw [rounds_succ]
  have p0 := VP_5.out.cell 2 (v := .int .i64 1) rfl
  go_wp2_with fail
  clear p0
  refine (m100 _).mono ?_
  rintro e wx ⟨rfl, hq⟩
  obtain rfl := hq.symm
  go_wp2_with fail
  refine (d100 _).mono ?_
  rintro e w6 ⟨rfl, b6⟩
  have VL_6 := (show Hid _ from VL_5.out.step b6)
  have VP_6 := (show Hid _ from VP_5.out.step b6)
  have BB_6 := (show Hid _ from BB_5.out.trans (b6.mono BB_5.out.size))
  clear b6 VL_5 VP_5 BB_5
  have l0 := VL_6.out.cell 4 (v := .int .u64 0) rfl
  have l1 := VL_6.out.cell 5 (v := .int .u64 0) rfl
  have f0 := VL_6.out.free 4
  have f1 := VL_6.out.free 5
  go_wp2_with fail
  clear l0 l1 f0 f1
  have VL_7 : Hid (VA ((w6.setCell ⟨w.heap.size, 4, none⟩ (.int .u64 33)).setCell ⟨w.heap.size, 5, none⟩ (.int .u64 1)) w.heap.size [.int .u64 33, .int .u64 1, .int .u64 33, .int .u64 1, .int .u64 33, .int .u64 1] 69) := (VL_6.out.set 4 (.int .u64 33)).set 5 (.int .u64 1)
  have VP_7 := (show Hid _ from (VP_6.out.set_other (q := w.heap.size) (by omega) 4 (.int .u64 33)).set_other (q := w.heap.size) (by omega) 5 (.int .u64 1))
  have BB_7 := (show Hid _ from (BB_6.out.setCell (p := ⟨w.heap.size, 4, none⟩) (Nat.le_refl _) (.int .u64 33)).setCell (p := ⟨w.heap.size, 5, none⟩) (Nat.le_refl _) (.int .u64 1))
  clear VL_6 VP_6 BB_6
  generalize ((w6.setCell ⟨w.heap.size, 4, none⟩ (.int .u64 33)).setCell ⟨w.heap.size, 5, none⟩ (.int .u64 1)) = w7 at *
  
  rw [rounds_succ]
  go_wp2_with fail
  refine (handOut3 w.heap.size _ VL_7.out).mono ?_
  rintro e w8 ⟨rfl, v8, x8⟩
  have VL_8 := (show Hid _ from v8)
  have BB_8 := (show Hid _ from Ex1.bel BB_7.out x8 (Nat.le_refl _) BB_7.out.size)
  clear v8 x8 VL_7 VP_7 BB_7
  go_wp2_with fail
  exact bodyPost_ret (v := .slice (some ⟨w.heap.size, 0, none⟩) 3 3) (by simp [results, Tryz.results26, go_sem]) rfl ⟨rfl, VL_8.out, BB_8.out⟩
set_option maxHeartbeats 4000000 in
theorem check3 (p : Nat) (w : World) (V : VA w p (ci [1, 1, 1]) 2) : Calls Tryz.prog 24 #[.agg (mcl 0 100).toArray, .slice (some ⟨p, 0, none⟩) 3 3] w fun e w' => e = .returned (.int .i64 0) ∧ Below w.heap.size w w' := by
  have VP_0 := (show Hid _ from V.alloc (.cells (mcl 0 100).toArray 23))
  have VM_0 := (show Hid _ from va_new w (mcl 0 100) 23)
  have BB_0 := (show Hid _ from (Below.refl w.heap.size w).alloc (Nat.le_refl _) (.cells (mcl 0 100).toArray 23))
  have hp : p < w.heap.size := V.lt
  clear V
  go_enter Tryz.func24, Tryz.ntmps24
  have p0 := VP_0.out.cell 0 (v := .int .i64 1) rfl
  have p1 := VP_0.out.cell 1 (v := .int .i64 1) rfl
  have p2 := VP_0.out.cell 2 (v := .int .i64 1) rfl
  go_upto_region 1 with fail
  change Code.wp _ _ _ _ (w.alloc (.cells (mcl 0 100).toArray 23))
  generalize w.alloc (.cells (mcl 0 100).toArray 23) = wa at *
  go_wp2_with fail
  refine wp_loop_rounds 4 ?_
  rw [rounds_succ]
  go_wp2_with fail
  rw [rounds_succ]
  go_wp2_with fail
  rw [rounds_succ]
  go_wp2_with fail
  rw [rounds_succ]
  clear p0 p1 p2
  go_wp2_with (refine ldA rfl 23 _ rfl w.heap.size (by rfl) (mcl 0 100) _ VM_0.out _ Tryz.underlying23 rfl infoM ?_)
  refine (chk_yes 0 100 _ (by decide)).mono ?_
  rintro e w1 ⟨rfl, b1⟩
  have VP_1 := (show Hid _ from VP_0.out.step b1)
  have BB_1 := (show Hid _ from BB_0.out.trans (b1.mono BB_0.out.size))
  clear b1 VP_0 VM_0 BB_0
  go_wp2_with fail
  refine (total3 p _ VP_1.out).mono ?_
  rintro e wx ⟨rfl, hq⟩
  obtain rfl := hq.symm
  go_wp2_with fail
  exact bodyPost_ret (v := .int .i64 0) (by simp [results, Tryz.results24, go_sem]) rfl ⟨rfl, BB_1.out⟩
set_option maxHeartbeats 4000000 in
set_option maxRecDepth 100000 in
theorem split3 (p : Nat) (w : World) (V : VA w p (ci [1, 1, 1]) 2) : Calls Tryz.prog 10 #[.agg (mcl 0 100).toArray, .slice (some ⟨p, 0, none⟩) 3 3] w fun e w' => (∃ M, e = .returned (.tuple #[.slice (some ⟨M, 0, none⟩) 3 3, .int .i64 0]) ∧ VA w' M [.int .i64 0, .int .i64 34, .int .i64 0, .int .i64 33, .int .i64 0, .int .i64 33] 23) ∧ Below w.heap.size w w' := by
  have VP_0 := (show Hid _ from V.alloc (.cells (mcl 0 100).toArray 23))
  have VM_0 := (show Hid _ from va_new w (mcl 0 100) 23)
  have BB_0 := (show Hid _ from (Below.refl w.heap.size w).alloc (Nat.le_refl _) (.cells (mcl 0 100).toArray 23))
  have hp : p < w.heap.size := V.lt
  clear V
  go_enter Tryz.func10, Tryz.ntmps10
  go_wp2_with (refine ldA rfl 23 _ rfl w.heap.size (by rfl) (mcl 0 100) _ VM_0.out _ Tryz.underlying23 rfl infoM ?_)
  refine (check3 p _ VP_0.out).mono ?_
  rintro e w1 ⟨rfl, b1⟩
  have VP_1 := (show Hid _ from VP_0.out.step b1)
  have VM_1 := (show Hid _ from VM_0.out.step b1)
  have BB_1 := (show Hid _ from BB_0.out.trans (b1.mono BB_0.out.size))
  clear b1 VP_0 VM_0 BB_0
  have m1 := VM_1.out.cell 1 (v := .int .i64 100) rfl
  go_wp2_with fail
  refine (cmp64_ok 100 0 _).mono ?_
  rintro e wx ⟨rfl, hq⟩
  obtain rfl := hq.symm
  rw [show ord 100 0 = 1 from rfl]
  clear m1
  go_upto_region 6 with (refine mk3 rfl 35 23 _ _ rfl Tryz.underlying35 (.agg #[.int .i64 0, .int .i64 0]) 2 16 infoMoney (by decide) [.int .i64 0, .int .i64 0, .int .i64 0, .int .i64 0, .int .i64 0, .int .i64 0] (by kernel_rfl) (by rfl) (by rfl) ?_; intro w2 v2 b2; have VO_2 := (show Hid _ from v2); have VP_2 := (show Hid _ from VP_1.out.step b2); have VM_2 := (show Hid _ from VM_1.out.step b2); have BB_2 := (show Hid _ from BB_1.out.trans (b2.mono BB_1.out.size)); have HM : Hid (w.heap.size < w1.heap.size) := VM_1.out.lt; clear v2 b2 VP_1 VM_1 BB_1)
  generalize w1.heap.size = M at *
  have m1 := VM_2.out.cell 1 (v := .int .i64 100) rfl
  go_wp2_with fail
  clear m1
  refine (shares3 p _ VP_2.out).mono ?_
  rintro e w3 ⟨rfl, v3, b3⟩
  have VS_3 := (show Hid _ from v3)
  have VO_3 := (show Hid _ from VO_2.out.step b3)
  have VM_3 := (show Hid _ from VM_2.out.step b3)
  have BB_3 := (show Hid _ from BB_2.out.trans (b3.mono BB_2.out.size))
  have HNE : Hid (w.heap.size < M ∧ M < w2.heap.size) := ⟨HM.out, VO_2.out.lt⟩
  clear v3 b3 VO_2 VP_2 VM_2 BB_2
  generalize w2.heap.size = S at *
  go_wp2_with fail
  refine wp_loop_rounds 4 ?_
  rw [rounds_succ]
  have s0 := VS_3.out.cell 0 (v := .int .u64 34) rfl
  have s1 := VS_3.out.cell 1 (v := .int .u64 1) rfl
  have sl := VS_3.out.lt
  have m0 := VM_3.out.cell 0 (v := .int .i64 0) rfl
  have ml := VM_3.out.lt
  have o0 := VO_3.out.cell 0 (v := .int .i64 0) rfl
  have o1 := VO_3.out.cell 1 (v := .int .i64 0) rfl
  have g0 := VO_3.out.free 0
  have g1 := VO_3.out.free 1
  have ol := VO_3.out.lt
  go_wp2_with (refine ldM rfl 69 _ rfl S 0 (by rfl) (.int .u64 34) (.int .u64 1) s0 s1 _ Tryz.underlying69 rfl infoSh ?_)
  clear s0 s1 m0 o0 o1 g0 g1
  have VO_4 : Hid (VA (((w3.setCell ⟨M, 0, none⟩ (.int .i64 0)).setCell ⟨M, 1, none⟩ (.int .i64 34)).alloc (.cells #[.int .u64 34, .int .u64 1] 69)) M [.int .i64 0, .int .i64 34, .int .i64 0, .int .i64 0, .int .i64 0, .int .i64 0] 23) := ((VO_3.out.set 0 (.int .i64 0)).set 1 (.int .i64 34)).alloc (.cells #[.int .u64 34, .int .u64 1] 69)
  have VS_4 := (show Hid _ from ((VS_3.out.set_other (q := M) (by have := HNE.out; omega) 0 (.int .i64 0)).set_other (q := M) (by have := HNE.out; omega) 1 (.int .i64 34)).alloc (.cells #[.int .u64 34, .int .u64 1] 69))
  have VM_4 := (show Hid _ from ((VM_3.out.set_other (q := M) (by have := HNE.out; omega) 0 (.int .i64 0)).set_other (q := M) (by have := HNE.out; omega) 1 (.int .i64 34)).alloc (.cells #[.int .u64 34, .int .u64 1] 69))
  have BB_4 := (show Hid _ from ((BB_3.out.setCell (p := ⟨M, 0, none⟩) (by have := HNE.out; show _ ≤ M; omega) (.int .i64 0)).setCell (p := ⟨M, 1, none⟩) (by have := HNE.out; show _ ≤ M; omega) (.int .i64 34)).alloc (by simp; exact BB_3.out.size) (.cells #[.int .u64 34, .int .u64 1] 69))
  clear VO_3 VS_3 VM_3 BB_3 sl ml ol
  generalize (((w3.setCell ⟨M, 0, none⟩ (.int .i64 0)).setCell ⟨M, 1, none⟩ (.int .i64 34)).alloc (.cells #[.int .u64 34, .int .u64 1] 69)) = w4 at *
  generalize w3.heap.size = bx0 at *
  
  rw [rounds_succ]
  have s0 := VS_4.out.cell 2 (v := .int .u64 33) rfl
  have s1 := VS_4.out.cell 3 (v := .int .u64 1) rfl
  have sl := VS_4.out.lt
  have m0 := VM_4.out.cell 0 (v := .int .i64 0) rfl
  have ml := VM_4.out.lt
  have o0 := VO_4.out.cell 2 (v := .int .i64 0) rfl
  have o1 := VO_4.out.cell 3 (v := .int .i64 0) rfl
  have g0 := VO_4.out.free 2
  have g1 := VO_4.out.free 3
  have ol := VO_4.out.lt
  go_wp2_with (refine ldM rfl 69 _ rfl S 2 (by rfl) (.int .u64 33) (.int .u64 1) s0 s1 _ Tryz.underlying69 rfl infoSh ?_)
  clear s0 s1 m0 o0 o1 g0 g1
  have VO_5 : Hid (VA (((w4.setCell ⟨M, 2, none⟩ (.int .i64 0)).setCell ⟨M, 3, none⟩ (.int .i64 33)).alloc (.cells #[.int .u64 33, .int .u64 1] 69)) M [.int .i64 0, .int .i64 34, .int .i64 0, .int .i64 33, .int .i64 0, .int .i64 0] 23) := ((VO_4.out.set 2 (.int .i64 0)).set 3 (.int .i64 33)).alloc (.cells #[.int .u64 33, .int .u64 1] 69)
  have VS_5 := (show Hid _ from ((VS_4.out.set_other (q := M) (by have := HNE.out; omega) 2 (.int .i64 0)).set_other (q := M) (by have := HNE.out; omega) 3 (.int .i64 33)).alloc (.cells #[.int .u64 33, .int .u64 1] 69))
  have VM_5 := (show Hid _ from ((VM_4.out.set_other (q := M) (by have := HNE.out; omega) 2 (.int .i64 0)).set_other (q := M) (by have := HNE.out; omega) 3 (.int .i64 33)).alloc (.cells #[.int .u64 33, .int .u64 1] 69))
  have BB_5 := (show Hid _ from ((BB_4.out.setCell (p := ⟨M, 2, none⟩) (by have := HNE.out; show _ ≤ M; omega) (.int .i64 0)).setCell (p := ⟨M, 3, none⟩) (by have := HNE.out; show _ ≤ M; omega) (.int .i64 33)).alloc (by simp; exact BB_4.out.size) (.cells #[.int .u64 33, .int .u64 1] 69))
  clear VO_4 VS_4 VM_4 BB_4 sl ml ol
  generalize (((w4.setCell ⟨M, 2, none⟩ (.int .i64 0)).setCell ⟨M, 3, none⟩ (.int .i64 33)).alloc (.cells #[.int .u64 33, .int .u64 1] 69)) = w5 at *
  generalize w4.heap.size = bx1 at *
  
  rw [rounds_succ]
  have s0 := VS_5.out.cell 4 (v := .int .u64 33) rfl
  have s1 := VS_5.out.cell 5 (v := .int .u64 1) rfl
  have sl := VS_5.out.lt
  have m0 := VM_5.out.cell 0 (v := .int .i64 0) rfl
  have ml := VM_5.out.lt
  have o0 := VO_5.out.cell 4 (v := .int .i64 0) rfl
  have o1 := VO_5.out.cell 5 (v := .int .i64 0) rfl
  have g0 := VO_5.out.free 4
  have g1 := VO_5.out.free 5
  have ol := VO_5.out.lt
  go_wp2_with (refine ldM rfl 69 _ rfl S 4 (by rfl) (.int .u64 33) (.int .u64 1) s0 s1 _ Tryz.underlying69 rfl infoSh ?_)
  clear s0 s1 m0 o0 o1 g0 g1
  have VO_6 : Hid (VA (((w5.setCell ⟨M, 4, none⟩ (.int .i64 0)).setCell ⟨M, 5, none⟩ (.int .i64 33)).alloc (.cells #[.int .u64 33, .int .u64 1] 69)) M [.int .i64 0, .int .i64 34, .int .i64 0, .int .i64 33, .int .i64 0, .int .i64 33] 23) := ((VO_5.out.set 4 (.int .i64 0)).set 5 (.int .i64 33)).alloc (.cells #[.int .u64 33, .int .u64 1] 69)
  have VS_6 := (show Hid _ from ((VS_5.out.set_other (q := M) (by have := HNE.out; omega) 4 (.int .i64 0)).set_other (q := M) (by have := HNE.out; omega) 5 (.int .i64 33)).alloc (.cells #[.int .u64 33, .int .u64 1] 69))
  have VM_6 := (show Hid _ from ((VM_5.out.set_other (q := M) (by have := HNE.out; omega) 4 (.int .i64 0)).set_other (q := M) (by have := HNE.out; omega) 5 (.int .i64 33)).alloc (.cells #[.int .u64 33, .int .u64 1] 69))
  have BB_6 := (show Hid _ from ((BB_5.out.setCell (p := ⟨M, 4, none⟩) (by have := HNE.out; show _ ≤ M; omega) (.int .i64 0)).setCell (p := ⟨M, 5, none⟩) (by have := HNE.out; show _ ≤ M; omega) (.int .i64 33)).alloc (by simp; exact BB_5.out.size) (.cells #[.int .u64 33, .int .u64 1] 69))
  clear VO_5 VS_5 VM_5 BB_5 sl ml ol
  generalize (((w5.setCell ⟨M, 4, none⟩ (.int .i64 0)).setCell ⟨M, 5, none⟩ (.int .i64 33)).alloc (.cells #[.int .u64 33, .int .u64 1] 69)) = w6 at *
  generalize w5.heap.size = bx2 at *
  
  rw [rounds_succ]
  go_wp2_with fail
  exact bodyPost_ret (v := .tuple #[.slice (some ⟨M, 0, none⟩) 3 3, .int .i64 0]) (by simp [results, Tryz.results10, go_sem]) rfl ⟨⟨M, rfl, VO_6.out⟩, BB_6.out⟩
end Go.Proofs.YteohncnjjgoemaaGreatDoor
