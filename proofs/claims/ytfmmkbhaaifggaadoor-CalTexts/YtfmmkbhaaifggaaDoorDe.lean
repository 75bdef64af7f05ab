/- Texts of days: the document's DocParse, of a text in form. -/
import Derived.Test.YtfmmkbhaaifggaaDoorDd
namespace Go.Proofs.YtfmmkbhaaifggaaDoor
open Go.RowKit
set_option linter.unusedVariables false
set_option linter.unusedSimpArgs false

set_option maxHeartbeats 4000000 in
theorem docparse_yes (s : ByteArray) (a Y M D : Int) (w : World) (h : s.size = 10) (F : Form s) (hY : dv s 0 4 = Y) (hM : dv s 5 2 = M) (hD : dv s 8 2 = D)
    (hN : ∀ w, Calls Tryd.prog 13 #[.int .i64 Y, .int .i64 M, .int .i64 D] w fun r w' => r = .returned (.tuple #[.int .i64 a, .int .i64 0]) ∧ w' = w) :
    Calls Tryd.prog 5 #[.string s] w fun e w' => e = .returned (.tuple #[.int .i64 a, .int .i64 0]) ∧ Below w.heap.size w w' := by
  have HY := (show Hid _ from hY)
  have HM := (show Hid _ from hM)
  have HD := (show Hid _ from hD)
  clear hY hM hD
  have hI : (s.size : Int) = 10 := by omega
  have c0 : chr s 0 = (s[0].toNat : Int) := chr_at (by omega)
  have c1 : chr s 1 = (s[1].toNat : Int) := chr_at (by omega)
  have c2 : chr s 2 = (s[2].toNat : Int) := chr_at (by omega)
  have c3 : chr s 3 = (s[3].toNat : Int) := chr_at (by omega)
  have c4 : chr s 4 = (s[4].toNat : Int) := chr_at (by omega)
  have c5 : chr s 5 = (s[5].toNat : Int) := chr_at (by omega)
  have c6 : chr s 6 = (s[6].toNat : Int) := chr_at (by omega)
  have c7 : chr s 7 = (s[7].toNat : Int) := chr_at (by omega)
  have c8 : chr s 8 = (s[8].toNat : Int) := chr_at (by omega)
  have c9 : chr s 9 = (s[9].toNat : Int) := chr_at (by omega)
  obtain ⟨F0, F1, F2, F3, F4, F5, F6, F7, F8, F9⟩ := F
  unfold Dig at F0 F1 F2 F3 F5 F6 F8 F9
  have g0 : 48 ≤ (s[0].toNat : Int) ∧ (s[0].toNat : Int) ≤ 57 := by omega
  have g1 : 48 ≤ (s[1].toNat : Int) ∧ (s[1].toNat : Int) ≤ 57 := by omega
  have g2 : 48 ≤ (s[2].toNat : Int) ∧ (s[2].toNat : Int) ≤ 57 := by omega
  have g3 : 48 ≤ (s[3].toNat : Int) ∧ (s[3].toNat : Int) ≤ 57 := by omega
  have g4 : (s[4].toNat : Int) = 45 := by omega
  have g5 : 48 ≤ (s[5].toNat : Int) ∧ (s[5].toNat : Int) ≤ 57 := by omega
  have g6 : 48 ≤ (s[6].toNat : Int) ∧ (s[6].toNat : Int) ≤ 57 := by omega
  have g7 : (s[7].toNat : Int) = 45 := by omega
  have g8 : 48 ≤ (s[8].toNat : Int) ∧ (s[8].toNat : Int) ≤ 57 := by omega
  have g9 : 48 ≤ (s[9].toNat : Int) ∧ (s[9].toNat : Int) ≤ 57 := by omega
  clear F0 F1 F2 F3 F4 F5 F6 F7 F8 F9
  have G0 := (show Hid _ from g0)
  clear g0
  have G1 := (show Hid _ from g1)
  clear g1
  have G2 := (show Hid _ from g2)
  clear g2
  have G3 := (show Hid _ from g3)
  clear g3
  have G4 := (show Hid _ from g4)
  clear g4
  have G5 := (show Hid _ from g5)
  clear g5
  have G6 := (show Hid _ from g6)
  clear g6
  have G7 := (show Hid _ from g7)
  clear g7
  have G8 := (show Hid _ from g8)
  clear g8
  have G9 := (show Hid _ from g9)
  clear g9
  have HC := (show Hid _ from And.intro c0 (And.intro c1 (And.intro c2 (And.intro c3 (And.intro c4 (And.intro c5 (And.intro c6 (And.intro c7 (And.intro c8 c9)))))))))
  clear c0 c1 c2 c3 c4 c5 c6 c7 c8 c9
  go_enter Tryd.func5, Tryd.ntmps5
  go_upto_region 4 with fail
  have V := va_new w [.int .i64 0, .int .i64 0, .int .i64 0] 36
  have BB := (Below.refl w.heap.size w).alloc (Nat.le_refl _) (.cells #[.int .i64 0, .int .i64 0, .int .i64 0] 36)
  obtain ⟨p, hp⟩ : ∃ p, p = w.heap.size := ⟨_, rfl⟩
  have HP : Hid (w.heap.size ≤ p) := (by omega : w.heap.size ≤ p)
  change VA (w.alloc (.cells #[.int .i64 0, .int .i64 0, .int .i64 0] 36)) w.heap.size _ _ at V
  generalize w.alloc (.cells #[.int .i64 0, .int .i64 0, .int .i64 0] 36) = w0 at *
  rw [← hp] at V
  simp only [← hp]
  clear hp
  have V0 := (show Hid _ from V)
  have HB0 := (show Hid _ from BB)
  clear V BB
  go_wp2_with fail
  refine wp_loop_rounds 11 ?_
  rw [rounds_succ]
  have g0 := G0.out
  obtain ⟨ga, gb⟩ := id g0
  go_upto_region 8 with fail
  refine wp_region_noPanic ?_
  refine wp_region_held_drew (S := fun w' => Below w.heap.size w w') (by kernel_rfl) HB0.out.drew (fun hHeld => ?_)
  have Vz := V0.out.drew
  clear V0 HB0
  generalize w0.drew = wz at *
  have hc := Vz.cell 0 (v := .int .i64 0) rfl
  have hf := Vz.free 0
  refine takeD 0 17 (.int .i64 0) (by exact rfl) rfl (by kernel_rfl) (by kernel_rfl) (by kernel_rfl) (fun _ _ _ h => h) (Or.inl ⟨by rfl, ?_⟩) (by assumption) ?_
  · intro wq hS
    go_simp
  try simp only [Act.put, List.setIfInBounds_toArray, List.set_cons_zero, List.set_cons_succ]
  refine takeD 1 18 (.int .i64 0) (by exact rfl) rfl (by kernel_rfl) (by kernel_rfl) (by kernel_rfl) (fun _ _ _ h => h) (Or.inl ⟨by rfl, ?_⟩) (by assumption) ?_
  · intro wq hS
    go_simp
  try simp only [Act.put, List.setIfInBounds_toArray, List.set_cons_zero, List.set_cons_succ]
  refine takeD 2 19 (.pointer (some ⟨p, 0, none⟩)) (by exact rfl) rfl (by kernel_rfl) (by kernel_rfl) (by kernel_rfl) (fun _ _ _ h => h) (Or.inl ⟨by rfl, ?_⟩) (by assumption) ?_
  · intro wq hS
    go_simp
  try simp only [Act.put, List.setIfInBounds_toArray, List.set_cons_zero, List.set_cons_succ]
  refine takeD 5 22 (.string s) (by exact rfl) rfl (by kernel_rfl) (by kernel_rfl) (by kernel_rfl) (fun _ _ _ h => h) (Or.inl ⟨by rfl, ?_⟩) (by assumption) ?_
  · intro wq hS
    go_simp
  try simp only [Act.put, List.setIfInBounds_toArray, List.set_cons_zero, List.set_cons_succ]
  refine takeD 6 23 (.int .i64 0) (by exact rfl) rfl (by kernel_rfl) (by kernel_rfl) (by kernel_rfl) (fun _ _ _ h => h) (Or.inl ⟨by rfl, ?_⟩) (by assumption) ?_
  · intro wq hS
    go_simp
  try simp only [Act.put, List.setIfInBounds_toArray, List.set_cons_zero, List.set_cons_succ]
  refine takeD 7 24 (.int .u8 (s[0].toNat : Int)) (by exact rfl) rfl (by kernel_rfl) (by kernel_rfl) (by kernel_rfl) (fun _ _ _ h => h) (Or.inl ⟨by rfl, ?_⟩) (by assumption) ?_
  · intro wq hS
    go_simp
  try simp only [Act.put, List.setIfInBounds_toArray, List.set_cons_zero, List.set_cons_succ]
  refine takeD 8 25 (.int .u8 ((s[0].toNat : Int) - 48)) (by exact rfl) rfl (by kernel_rfl) (by kernel_rfl) (by kernel_rfl) (fun _ _ _ h => h) (Or.inl ⟨by rfl, ?_⟩) (by assumption) ?_
  · intro wq hS
    go_simp
    first | rfl | exact wU8 (by omega) (by omega) | exact wI64 (by omega) (by omega)
  try simp only [Act.put, List.setIfInBounds_toArray, List.set_cons_zero, List.set_cons_succ]
  refine takeD 9 26 (.int .i64 ((s[0].toNat : Int) - 48)) (by exact rfl) rfl (by kernel_rfl) (by kernel_rfl) (by kernel_rfl) (fun _ _ _ h => h) (Or.inl ⟨by rfl, ?_⟩) (by assumption) ?_
  · intro wq hS
    go_simp
    first | rfl | exact wU8 (by omega) (by omega) | exact wI64 (by omega) (by omega)
  try simp only [Act.put, List.setIfInBounds_toArray, List.set_cons_zero, List.set_cons_succ]
  refine wpAnyH_ready (rs := [3]) (by kernel_rfl) (by simp) ?_
  refine AllReadyH.cons (by exact rfl) (fun K hK => ?_) AllReadyH.nil
  go_simp
  refine hK.out _ _ hHeld (fun hHeld => ?_)
  try simp only [Act.put, List.setIfInBounds_toArray, List.set_cons_zero, List.set_cons_succ]
  clear hK K
  refine takeD 4 21 (.int .i64 (0)) (by exact rfl) rfl (by kernel_rfl) (by kernel_rfl) (by kernel_rfl) (fun _ _ _ h => h) (Or.inl ⟨by rfl, ?_⟩) (by assumption) ?_
  · intro wq hS
    go_simp
    first | rfl | exact wU8 (by omega) (by omega) | exact wI64 (by omega) (by omega)
  try simp only [Act.put, List.setIfInBounds_toArray, List.set_cons_zero, List.set_cons_succ]
  refine takeD 10 27 (.int .i64 ((s[0].toNat : Int) - 48)) (by exact rfl) rfl (by kernel_rfl) (by kernel_rfl) (by kernel_rfl) (fun _ _ _ h => h) (Or.inl ⟨by rfl, ?_⟩) (by assumption) ?_
  · intro wq hS
    go_simp
    first | rfl | exact wU8 (by omega) (by omega) | exact wI64 (by omega) (by omega)
  try simp only [Act.put, List.setIfInBounds_toArray, List.set_cons_zero, List.set_cons_succ]
  refine takeD 11 28 (.pointer (some ⟨p, 0, none⟩)) (by exact rfl) rfl (by kernel_rfl) (by kernel_rfl) (by kernel_rfl) (fun _ _ _ h => h) (Or.inl ⟨by rfl, ?_⟩) (by assumption) ?_
  · intro wq hS
    go_simp
  try simp only [Act.put, List.setIfInBounds_toArray, List.set_cons_zero, List.set_cons_succ]
  refine wpAnyH_ready (rs := [12]) (by kernel_rfl) (by simp) ?_
  refine AllReadyH.cons (by exact rfl) (fun K hK => ?_) AllReadyH.nil
  go_simp
  have V := Vz.set 0 (.int .i64 ((s[0].toNat : Int) - 48))
  have HB1 : Hid (Below w.heap.size w (wz.setCell ⟨p, 0, none⟩ (.int .i64 ((s[0].toNat : Int) - 48)))) := Below.setCell hHeld HP.out _
  refine hK.out _ _ HB1.out (fun hHeld => ?_)
  try simp only [Act.put, List.setIfInBounds_toArray, List.set_cons_zero, List.set_cons_succ]
  clear hK K hHeld Vz hc hf
  refine wpAnyH_done (by kernel_rfl) ?_ _
  refine NoPanic.normal ?_
  simp only [List.set_cons_zero, List.set_cons_succ] at V
  generalize wz.setCell ⟨p, 0, none⟩ (.int .i64 ((s[0].toNat : Int) - 48)) = w1 at *
  obtain ⟨u0, e0⟩ : ∃ x : Int, x = (s[0].toNat : Int) - 48 := ⟨_, rfl⟩
  rw [← e0] at V
  try simp only [← e0]
  have V1 := (show Hid _ from V)
  have bl0 : 0 ≤ u0 := by omega
  have bu0 : u0 ≤ 9 := by omega
  have E0 := (show Hid _ from e0)
  have G0 := (show Hid _ from g0)
  clear V e0 g0 ga gb
  go_wp2_with fail
  rw [rounds_succ]
  have g1 := G1.out
  obtain ⟨ga, gb⟩ := id g1
  go_upto_region 8 with fail
  refine wp_region_noPanic ?_
  refine wp_region_held_drew (S := fun w' => Below w.heap.size w w') (by kernel_rfl) HB1.out.drew (fun hHeld => ?_)
  have Vz := V1.out.drew
  clear V1 HB1
  generalize w1.drew = wz at *
  have hc := Vz.cell 0 (v := .int .i64 u0) rfl
  have hf := Vz.free 0
  refine takeD 0 17 (.int .i64 0) (by exact rfl) rfl (by kernel_rfl) (by kernel_rfl) (by kernel_rfl) (fun _ _ _ h => h) (Or.inl ⟨by rfl, ?_⟩) (by assumption) ?_
  · intro wq hS
    go_simp
  try simp only [Act.put, List.setIfInBounds_toArray, List.set_cons_zero, List.set_cons_succ]
  refine takeD 1 18 (.int .i64 0) (by exact rfl) rfl (by kernel_rfl) (by kernel_rfl) (by kernel_rfl) (fun _ _ _ h => h) (Or.inl ⟨by rfl, ?_⟩) (by assumption) ?_
  · intro wq hS
    go_simp
  try simp only [Act.put, List.setIfInBounds_toArray, List.set_cons_zero, List.set_cons_succ]
  refine takeD 2 19 (.pointer (some ⟨p, 0, none⟩)) (by exact rfl) rfl (by kernel_rfl) (by kernel_rfl) (by kernel_rfl) (fun _ _ _ h => h) (Or.inl ⟨by rfl, ?_⟩) (by assumption) ?_
  · intro wq hS
    go_simp
  try simp only [Act.put, List.setIfInBounds_toArray, List.set_cons_zero, List.set_cons_succ]
  refine takeD 5 22 (.string s) (by exact rfl) rfl (by kernel_rfl) (by kernel_rfl) (by kernel_rfl) (fun _ _ _ h => h) (Or.inl ⟨by rfl, ?_⟩) (by assumption) ?_
  · intro wq hS
    go_simp
  try simp only [Act.put, List.setIfInBounds_toArray, List.set_cons_zero, List.set_cons_succ]
  refine takeD 6 23 (.int .i64 1) (by exact rfl) rfl (by kernel_rfl) (by kernel_rfl) (by kernel_rfl) (fun _ _ _ h => h) (Or.inl ⟨by rfl, ?_⟩) (by assumption) ?_
  · intro wq hS
    go_simp
  try simp only [Act.put, List.setIfInBounds_toArray, List.set_cons_zero, List.set_cons_succ]
  refine takeD 7 24 (.int .u8 (s[1].toNat : Int)) (by exact rfl) rfl (by kernel_rfl) (by kernel_rfl) (by kernel_rfl) (fun _ _ _ h => h) (Or.inl ⟨by rfl, ?_⟩) (by assumption) ?_
  · intro wq hS
    go_simp
  try simp only [Act.put, List.setIfInBounds_toArray, List.set_cons_zero, List.set_cons_succ]
  refine takeD 8 25 (.int .u8 ((s[1].toNat : Int) - 48)) (by exact rfl) rfl (by kernel_rfl) (by kernel_rfl) (by kernel_rfl) (fun _ _ _ h => h) (Or.inl ⟨by rfl, ?_⟩) (by assumption) ?_
  · intro wq hS
    go_simp
    first | rfl | exact wU8 (by omega) (by omega) | exact wI64 (by omega) (by omega)
  try simp only [Act.put, List.setIfInBounds_toArray, List.set_cons_zero, List.set_cons_succ]
  refine takeD 9 26 (.int .i64 ((s[1].toNat : Int) - 48)) (by exact rfl) rfl (by kernel_rfl) (by kernel_rfl) (by kernel_rfl) (fun _ _ _ h => h) (Or.inl ⟨by rfl, ?_⟩) (by assumption) ?_
  · intro wq hS
    go_simp
    first | rfl | exact wU8 (by omega) (by omega) | exact wI64 (by omega) (by omega)
  try simp only [Act.put, List.setIfInBounds_toArray, List.set_cons_zero, List.set_cons_succ]
  refine wpAnyH_ready (rs := [3]) (by kernel_rfl) (by simp) ?_
  refine AllReadyH.cons (by exact rfl) (fun K hK => ?_) AllReadyH.nil
  go_simp
  refine hK.out _ _ hHeld (fun hHeld => ?_)
  try simp only [Act.put, List.setIfInBounds_toArray, List.set_cons_zero, List.set_cons_succ]
  clear hK K
  refine takeD 4 21 (.int .i64 (10 * u0)) (by exact rfl) rfl (by kernel_rfl) (by kernel_rfl) (by kernel_rfl) (fun _ _ _ h => h) (Or.inl ⟨by rfl, ?_⟩) (by assumption) ?_
  · intro wq hS
    go_simp
    first | rfl | exact wU8 (by omega) (by omega) | exact wI64 (by omega) (by omega)
  try simp only [Act.put, List.setIfInBounds_toArray, List.set_cons_zero, List.set_cons_succ]
  refine takeD 10 27 (.int .i64 (10 * u0 + ((s[1].toNat : Int) - 48))) (by exact rfl) rfl (by kernel_rfl) (by kernel_rfl) (by kernel_rfl) (fun _ _ _ h => h) (Or.inl ⟨by rfl, ?_⟩) (by assumption) ?_
  · intro wq hS
    go_simp
    first | rfl | exact wU8 (by omega) (by omega) | exact wI64 (by omega) (by omega)
  try simp only [Act.put, List.setIfInBounds_toArray, List.set_cons_zero, List.set_cons_succ]
  refine takeD 11 28 (.pointer (some ⟨p, 0, none⟩)) (by exact rfl) rfl (by kernel_rfl) (by kernel_rfl) (by kernel_rfl) (fun _ _ _ h => h) (Or.inl ⟨by rfl, ?_⟩) (by assumption) ?_
  · intro wq hS
    go_simp
  try simp only [Act.put, List.setIfInBounds_toArray, List.set_cons_zero, List.set_cons_succ]
  refine wpAnyH_ready (rs := [12]) (by kernel_rfl) (by simp) ?_
  refine AllReadyH.cons (by exact rfl) (fun K hK => ?_) AllReadyH.nil
  go_simp
  have V := Vz.set 0 (.int .i64 (10 * u0 + ((s[1].toNat : Int) - 48)))
  have HB2 : Hid (Below w.heap.size w (wz.setCell ⟨p, 0, none⟩ (.int .i64 (10 * u0 + ((s[1].toNat : Int) - 48))))) := Below.setCell hHeld HP.out _
  refine hK.out _ _ HB2.out (fun hHeld => ?_)
  try simp only [Act.put, List.setIfInBounds_toArray, List.set_cons_zero, List.set_cons_succ]
  clear hK K hHeld Vz hc hf
  refine wpAnyH_done (by kernel_rfl) ?_ _
  refine NoPanic.normal ?_
  simp only [List.set_cons_zero, List.set_cons_succ] at V
  generalize wz.setCell ⟨p, 0, none⟩ (.int .i64 (10 * u0 + ((s[1].toNat : Int) - 48))) = w2 at *
  obtain ⟨u1, e1⟩ : ∃ x : Int, x = 10 * u0 + ((s[1].toNat : Int) - 48) := ⟨_, rfl⟩
  rw [← e1] at V
  try simp only [← e1]
  have V2 := (show Hid _ from V)
  have bl1 : 0 ≤ u1 := by omega
  have bu1 : u1 ≤ 99 := by omega
  have E1 := (show Hid _ from e1)
  have G1 := (show Hid _ from g1)
  clear V e1 g1 ga gb
  go_wp2_with fail
  rw [rounds_succ]
  have g2 := G2.out
  obtain ⟨ga, gb⟩ := id g2
  go_upto_region 8 with fail
  refine wp_region_noPanic ?_
  refine wp_region_held_drew (S := fun w' => Below w.heap.size w w') (by kernel_rfl) HB2.out.drew (fun hHeld => ?_)
  have Vz := V2.out.drew
  clear V2 HB2
  generalize w2.drew = wz at *
  have hc := Vz.cell 0 (v := .int .i64 u1) rfl
  have hf := Vz.free 0
  refine takeD 0 17 (.int .i64 0) (by exact rfl) rfl (by kernel_rfl) (by kernel_rfl) (by kernel_rfl) (fun _ _ _ h => h) (Or.inl ⟨by rfl, ?_⟩) (by assumption) ?_
  · intro wq hS
    go_simp
  try simp only [Act.put, List.setIfInBounds_toArray, List.set_cons_zero, List.set_cons_succ]
  refine takeD 1 18 (.int .i64 0) (by exact rfl) rfl (by kernel_rfl) (by kernel_rfl) (by kernel_rfl) (fun _ _ _ h => h) (Or.inl ⟨by rfl, ?_⟩) (by assumption) ?_
  · intro wq hS
    go_simp
  try simp only [Act.put, List.setIfInBounds_toArray, List.set_cons_zero, List.set_cons_succ]
  refine takeD 2 19 (.pointer (some ⟨p, 0, none⟩)) (by exact rfl) rfl (by kernel_rfl) (by kernel_rfl) (by kernel_rfl) (fun _ _ _ h => h) (Or.inl ⟨by rfl, ?_⟩) (by assumption) ?_
  · intro wq hS
    go_simp
  try simp only [Act.put, List.setIfInBounds_toArray, List.set_cons_zero, List.set_cons_succ]
  refine takeD 5 22 (.string s) (by exact rfl) rfl (by kernel_rfl) (by kernel_rfl) (by kernel_rfl) (fun _ _ _ h => h) (Or.inl ⟨by rfl, ?_⟩) (by assumption) ?_
  · intro wq hS
    go_simp
  try simp only [Act.put, List.setIfInBounds_toArray, List.set_cons_zero, List.set_cons_succ]
  refine takeD 6 23 (.int .i64 2) (by exact rfl) rfl (by kernel_rfl) (by kernel_rfl) (by kernel_rfl) (fun _ _ _ h => h) (Or.inl ⟨by rfl, ?_⟩) (by assumption) ?_
  · intro wq hS
    go_simp
  try simp only [Act.put, List.setIfInBounds_toArray, List.set_cons_zero, List.set_cons_succ]
  refine takeD 7 24 (.int .u8 (s[2].toNat : Int)) (by exact rfl) rfl (by kernel_rfl) (by kernel_rfl) (by kernel_rfl) (fun _ _ _ h => h) (Or.inl ⟨by rfl, ?_⟩) (by assumption) ?_
  · intro wq hS
    go_simp
  try simp only [Act.put, List.setIfInBounds_toArray, List.set_cons_zero, List.set_cons_succ]
  refine takeD 8 25 (.int .u8 ((s[2].toNat : Int) - 48)) (by exact rfl) rfl (by kernel_rfl) (by kernel_rfl) (by kernel_rfl) (fun _ _ _ h => h) (Or.inl ⟨by rfl, ?_⟩) (by assumption) ?_
  · intro wq hS
    go_simp
    first | rfl | exact wU8 (by omega) (by omega) | exact wI64 (by omega) (by omega)
  try simp only [Act.put, List.setIfInBounds_toArray, List.set_cons_zero, List.set_cons_succ]
  refine takeD 9 26 (.int .i64 ((s[2].toNat : Int) - 48)) (by exact rfl) rfl (by kernel_rfl) (by kernel_rfl) (by kernel_rfl) (fun _ _ _ h => h) (Or.inl ⟨by rfl, ?_⟩) (by assumption) ?_
  · intro wq hS
    go_simp
    first | rfl | exact wU8 (by omega) (by omega) | exact wI64 (by omega) (by omega)
  try simp only [Act.put, List.setIfInBounds_toArray, List.set_cons_zero, List.set_cons_succ]
  refine wpAnyH_ready (rs := [3]) (by kernel_rfl) (by simp) ?_
  refine AllReadyH.cons (by exact rfl) (fun K hK => ?_) AllReadyH.nil
  go_simp
  refine hK.out _ _ hHeld (fun hHeld => ?_)
  try simp only [Act.put, List.setIfInBounds_toArray, List.set_cons_zero, List.set_cons_succ]
  clear hK K
  refine takeD 4 21 (.int .i64 (10 * u1)) (by exact rfl) rfl (by kernel_rfl) (by kernel_rfl) (by kernel_rfl) (fun _ _ _ h => h) (Or.inl ⟨by rfl, ?_⟩) (by assumption) ?_
  · intro wq hS
    go_simp
    first | rfl | exact wU8 (by omega) (by omega) | exact wI64 (by omega) (by omega)
  try simp only [Act.put, List.setIfInBounds_toArray, List.set_cons_zero, List.set_cons_succ]
  refine takeD 10 27 (.int .i64 (10 * u1 + ((s[2].toNat : Int) - 48))) (by exact rfl) rfl (by kernel_rfl) (by kernel_rfl) (by kernel_rfl) (fun _ _ _ h => h) (Or.inl ⟨by rfl, ?_⟩) (by assumption) ?_
  · intro wq hS
    go_simp
    first | rfl | exact wU8 (by omega) (by omega) | exact wI64 (by omega) (by omega)
  try simp only [Act.put, List.setIfInBounds_toArray, List.set_cons_zero, List.set_cons_succ]
  refine takeD 11 28 (.pointer (some ⟨p, 0, none⟩)) (by exact rfl) rfl (by kernel_rfl) (by kernel_rfl) (by kernel_rfl) (fun _ _ _ h => h) (Or.inl ⟨by rfl, ?_⟩) (by assumption) ?_
  · intro wq hS
    go_simp
  try simp only [Act.put, List.setIfInBounds_toArray, List.set_cons_zero, List.set_cons_succ]
  refine wpAnyH_ready (rs := [12]) (by kernel_rfl) (by simp) ?_
  refine AllReadyH.cons (by exact rfl) (fun K hK => ?_) AllReadyH.nil
  go_simp
  have V := Vz.set 0 (.int .i64 (10 * u1 + ((s[2].toNat : Int) - 48)))
  have HB3 : Hid (Below w.heap.size w (wz.setCell ⟨p, 0, none⟩ (.int .i64 (10 * u1 + ((s[2].toNat : Int) - 48))))) := Below.setCell hHeld HP.out _
  refine hK.out _ _ HB3.out (fun hHeld => ?_)
  try simp only [Act.put, List.setIfInBounds_toArray, List.set_cons_zero, List.set_cons_succ]
  clear hK K hHeld Vz hc hf
  refine wpAnyH_done (by kernel_rfl) ?_ _
  refine NoPanic.normal ?_
  simp only [List.set_cons_zero, List.set_cons_succ] at V
  generalize wz.setCell ⟨p, 0, none⟩ (.int .i64 (10 * u1 + ((s[2].toNat : Int) - 48))) = w3 at *
  obtain ⟨u2, e2⟩ : ∃ x : Int, x = 10 * u1 + ((s[2].toNat : Int) - 48) := ⟨_, rfl⟩
  rw [← e2] at V
  try simp only [← e2]
  have V3 := (show Hid _ from V)
  have bl2 : 0 ≤ u2 := by omega
  have bu2 : u2 ≤ 999 := by omega
  have E2 := (show Hid _ from e2)
  have G2 := (show Hid _ from g2)
  clear V e2 g2 ga gb
  go_wp2_with fail
  rw [rounds_succ]
  have g3 := G3.out
  obtain ⟨ga, gb⟩ := id g3
  go_upto_region 8 with fail
  refine wp_region_noPanic ?_
  refine wp_region_held_drew (S := fun w' => Below w.heap.size w w') (by kernel_rfl) HB3.out.drew (fun hHeld => ?_)
  have Vz := V3.out.drew
  clear V3 HB3
  generalize w3.drew = wz at *
  have hc := Vz.cell 0 (v := .int .i64 u2) rfl
  have hf := Vz.free 0
  refine takeD 0 17 (.int .i64 0) (by exact rfl) rfl (by kernel_rfl) (by kernel_rfl) (by kernel_rfl) (fun _ _ _ h => h) (Or.inl ⟨by rfl, ?_⟩) (by assumption) ?_
  · intro wq hS
    go_simp
  try simp only [Act.put, List.setIfInBounds_toArray, List.set_cons_zero, List.set_cons_succ]
  refine takeD 1 18 (.int .i64 0) (by exact rfl) rfl (by kernel_rfl) (by kernel_rfl) (by kernel_rfl) (fun _ _ _ h => h) (Or.inl ⟨by rfl, ?_⟩) (by assumption) ?_
  · intro wq hS
    go_simp
  try simp only [Act.put, List.setIfInBounds_toArray, List.set_cons_zero, List.set_cons_succ]
  refine takeD 2 19 (.pointer (some ⟨p, 0, none⟩)) (by exact rfl) rfl (by kernel_rfl) (by kernel_rfl) (by kernel_rfl) (fun _ _ _ h => h) (Or.inl ⟨by rfl, ?_⟩) (by assumption) ?_
  · intro wq hS
    go_simp
  try simp only [Act.put, List.setIfInBounds_toArray, List.set_cons_zero, List.set_cons_succ]
  refine takeD 5 22 (.string s) (by exact rfl) rfl (by kernel_rfl) (by kernel_rfl) (by kernel_rfl) (fun _ _ _ h => h) (Or.inl ⟨by rfl, ?_⟩) (by assumption) ?_
  · intro wq hS
    go_simp
  try simp only [Act.put, List.setIfInBounds_toArray, List.set_cons_zero, List.set_cons_succ]
  refine takeD 6 23 (.int .i64 3) (by exact rfl) rfl (by kernel_rfl) (by kernel_rfl) (by kernel_rfl) (fun _ _ _ h => h) (Or.inl ⟨by rfl, ?_⟩) (by assumption) ?_
  · intro wq hS
    go_simp
  try simp only [Act.put, List.setIfInBounds_toArray, List.set_cons_zero, List.set_cons_succ]
  refine takeD 7 24 (.int .u8 (s[3].toNat : Int)) (by exact rfl) rfl (by kernel_rfl) (by kernel_rfl) (by kernel_rfl) (fun _ _ _ h => h) (Or.inl ⟨by rfl, ?_⟩) (by assumption) ?_
  · intro wq hS
    go_simp
  try simp only [Act.put, List.setIfInBounds_toArray, List.set_cons_zero, List.set_cons_succ]
  refine takeD 8 25 (.int .u8 ((s[3].toNat : Int) - 48)) (by exact rfl) rfl (by kernel_rfl) (by kernel_rfl) (by kernel_rfl) (fun _ _ _ h => h) (Or.inl ⟨by rfl, ?_⟩) (by assumption) ?_
  · intro wq hS
    go_simp
    first | rfl | exact wU8 (by omega) (by omega) | exact wI64 (by omega) (by omega)
  try simp only [Act.put, List.setIfInBounds_toArray, List.set_cons_zero, List.set_cons_succ]
  refine takeD 9 26 (.int .i64 ((s[3].toNat : Int) - 48)) (by exact rfl) rfl (by kernel_rfl) (by kernel_rfl) (by kernel_rfl) (fun _ _ _ h => h) (Or.inl ⟨by rfl, ?_⟩) (by assumption) ?_
  · intro wq hS
    go_simp
    first | rfl | exact wU8 (by omega) (by omega) | exact wI64 (by omega) (by omega)
  try simp only [Act.put, List.setIfInBounds_toArray, List.set_cons_zero, List.set_cons_succ]
  refine wpAnyH_ready (rs := [3]) (by kernel_rfl) (by simp) ?_
  refine AllReadyH.cons (by exact rfl) (fun K hK => ?_) AllReadyH.nil
  go_simp
  refine hK.out _ _ hHeld (fun hHeld => ?_)
  try simp only [Act.put, List.setIfInBounds_toArray, List.set_cons_zero, List.set_cons_succ]
  clear hK K
  refine takeD 4 21 (.int .i64 (10 * u2)) (by exact rfl) rfl (by kernel_rfl) (by kernel_rfl) (by kernel_rfl) (fun _ _ _ h => h) (Or.inl ⟨by rfl, ?_⟩) (by assumption) ?_
  · intro wq hS
    go_simp
    first | rfl | exact wU8 (by omega) (by omega) | exact wI64 (by omega) (by omega)
  try simp only [Act.put, List.setIfInBounds_toArray, List.set_cons_zero, List.set_cons_succ]
  refine takeD 10 27 (.int .i64 (10 * u2 + ((s[3].toNat : Int) - 48))) (by exact rfl) rfl (by kernel_rfl) (by kernel_rfl) (by kernel_rfl) (fun _ _ _ h => h) (Or.inl ⟨by rfl, ?_⟩) (by assumption) ?_
  · intro wq hS
    go_simp
    first | rfl | exact wU8 (by omega) (by omega) | exact wI64 (by omega) (by omega)
  try simp only [Act.put, List.setIfInBounds_toArray, List.set_cons_zero, List.set_cons_succ]
  refine takeD 11 28 (.pointer (some ⟨p, 0, none⟩)) (by exact rfl) rfl (by kernel_rfl) (by kernel_rfl) (by kernel_rfl) (fun _ _ _ h => h) (Or.inl ⟨by rfl, ?_⟩) (by assumption) ?_
  · intro wq hS
    go_simp
  try simp only [Act.put, List.setIfInBounds_toArray, List.set_cons_zero, List.set_cons_succ]
  refine wpAnyH_ready (rs := [12]) (by kernel_rfl) (by simp) ?_
  refine AllReadyH.cons (by exact rfl) (fun K hK => ?_) AllReadyH.nil
  go_simp
  have V := Vz.set 0 (.int .i64 (10 * u2 + ((s[3].toNat : Int) - 48)))
  have HB4 : Hid (Below w.heap.size w (wz.setCell ⟨p, 0, none⟩ (.int .i64 (10 * u2 + ((s[3].toNat : Int) - 48))))) := Below.setCell hHeld HP.out _
  refine hK.out _ _ HB4.out (fun hHeld => ?_)
  try simp only [Act.put, List.setIfInBounds_toArray, List.set_cons_zero, List.set_cons_succ]
  clear hK K hHeld Vz hc hf
  refine wpAnyH_done (by kernel_rfl) ?_ _
  refine NoPanic.normal ?_
  simp only [List.set_cons_zero, List.set_cons_succ] at V
  generalize wz.setCell ⟨p, 0, none⟩ (.int .i64 (10 * u2 + ((s[3].toNat : Int) - 48))) = w4 at *
  obtain ⟨u3, e3⟩ : ∃ x : Int, x = 10 * u2 + ((s[3].toNat : Int) - 48) := ⟨_, rfl⟩
  rw [← e3] at V
  try simp only [← e3]
  have V4 := (show Hid _ from V)
  have bl3 : 0 ≤ u3 := by omega
  have bu3 : u3 ≤ 9999 := by omega
  have E3 := (show Hid _ from e3)
  have G3 := (show Hid _ from g3)
  clear V e3 g3 ga gb
  go_wp2_with fail
  rw [rounds_succ]
  have g4 := G4.out
  go_wp2_with fail
  have G4 := (show Hid _ from g4)
  clear g4
  rw [rounds_succ]
  have g5 := G5.out
  obtain ⟨ga, gb⟩ := id g5
  go_upto_region 8 with fail
  refine wp_region_noPanic ?_
  refine wp_region_held_drew (S := fun w' => Below w.heap.size w w') (by kernel_rfl) HB4.out.drew (fun hHeld => ?_)
  have Vz := V4.out.drew
  clear V4 HB4
  generalize w4.drew = wz at *
  have hc := Vz.cell 1 (v := .int .i64 0) rfl
  have hf := Vz.free 1
  refine takeD 0 17 (.int .i64 1) (by exact rfl) rfl (by kernel_rfl) (by kernel_rfl) (by kernel_rfl) (fun _ _ _ h => h) (Or.inl ⟨by rfl, ?_⟩) (by assumption) ?_
  · intro wq hS
    go_simp
  try simp only [Act.put, List.setIfInBounds_toArray, List.set_cons_zero, List.set_cons_succ]
  refine takeD 1 18 (.int .i64 1) (by exact rfl) rfl (by kernel_rfl) (by kernel_rfl) (by kernel_rfl) (fun _ _ _ h => h) (Or.inl ⟨by rfl, ?_⟩) (by assumption) ?_
  · intro wq hS
    go_simp
  try simp only [Act.put, List.setIfInBounds_toArray, List.set_cons_zero, List.set_cons_succ]
  refine takeD 2 19 (.pointer (some ⟨p, 1, none⟩)) (by exact rfl) rfl (by kernel_rfl) (by kernel_rfl) (by kernel_rfl) (fun _ _ _ h => h) (Or.inl ⟨by rfl, ?_⟩) (by assumption) ?_
  · intro wq hS
    go_simp
  try simp only [Act.put, List.setIfInBounds_toArray, List.set_cons_zero, List.set_cons_succ]
  refine takeD 5 22 (.string s) (by exact rfl) rfl (by kernel_rfl) (by kernel_rfl) (by kernel_rfl) (fun _ _ _ h => h) (Or.inl ⟨by rfl, ?_⟩) (by assumption) ?_
  · intro wq hS
    go_simp
  try simp only [Act.put, List.setIfInBounds_toArray, List.set_cons_zero, List.set_cons_succ]
  refine takeD 6 23 (.int .i64 5) (by exact rfl) rfl (by kernel_rfl) (by kernel_rfl) (by kernel_rfl) (fun _ _ _ h => h) (Or.inl ⟨by rfl, ?_⟩) (by assumption) ?_
  · intro wq hS
    go_simp
  try simp only [Act.put, List.setIfInBounds_toArray, List.set_cons_zero, List.set_cons_succ]
  refine takeD 7 24 (.int .u8 (s[5].toNat : Int)) (by exact rfl) rfl (by kernel_rfl) (by kernel_rfl) (by kernel_rfl) (fun _ _ _ h => h) (Or.inl ⟨by rfl, ?_⟩) (by assumption) ?_
  · intro wq hS
    go_simp
  try simp only [Act.put, List.setIfInBounds_toArray, List.set_cons_zero, List.set_cons_succ]
  refine takeD 8 25 (.int .u8 ((s[5].toNat : Int) - 48)) (by exact rfl) rfl (by kernel_rfl) (by kernel_rfl) (by kernel_rfl) (fun _ _ _ h => h) (Or.inl ⟨by rfl, ?_⟩) (by assumption) ?_
  · intro wq hS
    go_simp
    first | rfl | exact wU8 (by omega) (by omega) | exact wI64 (by omega) (by omega)
  try simp only [Act.put, List.setIfInBounds_toArray, List.set_cons_zero, List.set_cons_succ]
  refine takeD 9 26 (.int .i64 ((s[5].toNat : Int) - 48)) (by exact rfl) rfl (by kernel_rfl) (by kernel_rfl) (by kernel_rfl) (fun _ _ _ h => h) (Or.inl ⟨by rfl, ?_⟩) (by assumption) ?_
  · intro wq hS
    go_simp
    first | rfl | exact wU8 (by omega) (by omega) | exact wI64 (by omega) (by omega)
  try simp only [Act.put, List.setIfInBounds_toArray, List.set_cons_zero, List.set_cons_succ]
  refine wpAnyH_ready (rs := [3]) (by kernel_rfl) (by simp) ?_
  refine AllReadyH.cons (by exact rfl) (fun K hK => ?_) AllReadyH.nil
  go_simp
  refine hK.out _ _ hHeld (fun hHeld => ?_)
  try simp only [Act.put, List.setIfInBounds_toArray, List.set_cons_zero, List.set_cons_succ]
  clear hK K
  refine takeD 4 21 (.int .i64 (0)) (by exact rfl) rfl (by kernel_rfl) (by kernel_rfl) (by kernel_rfl) (fun _ _ _ h => h) (Or.inl ⟨by rfl, ?_⟩) (by assumption) ?_
  · intro wq hS
    go_simp
    first | rfl | exact wU8 (by omega) (by omega) | exact wI64 (by omega) (by omega)
  try simp only [Act.put, List.setIfInBounds_toArray, List.set_cons_zero, List.set_cons_succ]
  refine takeD 10 27 (.int .i64 ((s[5].toNat : Int) - 48)) (by exact rfl) rfl (by kernel_rfl) (by kernel_rfl) (by kernel_rfl) (fun _ _ _ h => h) (Or.inl ⟨by rfl, ?_⟩) (by assumption) ?_
  · intro wq hS
    go_simp
    first | rfl | exact wU8 (by omega) (by omega) | exact wI64 (by omega) (by omega)
  try simp only [Act.put, List.setIfInBounds_toArray, List.set_cons_zero, List.set_cons_succ]
  refine takeD 11 28 (.pointer (some ⟨p, 1, none⟩)) (by exact rfl) rfl (by kernel_rfl) (by kernel_rfl) (by kernel_rfl) (fun _ _ _ h => h) (Or.inl ⟨by rfl, ?_⟩) (by assumption) ?_
  · intro wq hS
    go_simp
  try simp only [Act.put, List.setIfInBounds_toArray, List.set_cons_zero, List.set_cons_succ]
  refine wpAnyH_ready (rs := [12]) (by kernel_rfl) (by simp) ?_
  refine AllReadyH.cons (by exact rfl) (fun K hK => ?_) AllReadyH.nil
  go_simp
  have V := Vz.set 1 (.int .i64 ((s[5].toNat : Int) - 48))
  have HB5 : Hid (Below w.heap.size w (wz.setCell ⟨p, 1, none⟩ (.int .i64 ((s[5].toNat : Int) - 48)))) := Below.setCell hHeld HP.out _
  refine hK.out _ _ HB5.out (fun hHeld => ?_)
  try simp only [Act.put, List.setIfInBounds_toArray, List.set_cons_zero, List.set_cons_succ]
  clear hK K hHeld Vz hc hf
  refine wpAnyH_done (by kernel_rfl) ?_ _
  refine NoPanic.normal ?_
  simp only [List.set_cons_zero, List.set_cons_succ] at V
  generalize wz.setCell ⟨p, 1, none⟩ (.int .i64 ((s[5].toNat : Int) - 48)) = w5 at *
  obtain ⟨u5, e5⟩ : ∃ x : Int, x = (s[5].toNat : Int) - 48 := ⟨_, rfl⟩
  rw [← e5] at V
  try simp only [← e5]
  have V5 := (show Hid _ from V)
  have bl5 : 0 ≤ u5 := by omega
  have bu5 : u5 ≤ 9 := by omega
  have E5 := (show Hid _ from e5)
  have G5 := (show Hid _ from g5)
  clear V e5 g5 ga gb
  go_wp2_with fail
  rw [rounds_succ]
  have g6 := G6.out
  obtain ⟨ga, gb⟩ := id g6
  go_upto_region 8 with fail
  refine wp_region_noPanic ?_
  refine wp_region_held_drew (S := fun w' => Below w.heap.size w w') (by kernel_rfl) HB5.out.drew (fun hHeld => ?_)
  have Vz := V5.out.drew
  clear V5 HB5
  generalize w5.drew = wz at *
  have hc := Vz.cell 1 (v := .int .i64 u5) rfl
  have hf := Vz.free 1
  refine takeD 0 17 (.int .i64 1) (by exact rfl) rfl (by kernel_rfl) (by kernel_rfl) (by kernel_rfl) (fun _ _ _ h => h) (Or.inl ⟨by rfl, ?_⟩) (by assumption) ?_
  · intro wq hS
    go_simp
  try simp only [Act.put, List.setIfInBounds_toArray, List.set_cons_zero, List.set_cons_succ]
  refine takeD 1 18 (.int .i64 1) (by exact rfl) rfl (by kernel_rfl) (by kernel_rfl) (by kernel_rfl) (fun _ _ _ h => h) (Or.inl ⟨by rfl, ?_⟩) (by assumption) ?_
  · intro wq hS
    go_simp
  try simp only [Act.put, List.setIfInBounds_toArray, List.set_cons_zero, List.set_cons_succ]
  refine takeD 2 19 (.pointer (some ⟨p, 1, none⟩)) (by exact rfl) rfl (by kernel_rfl) (by kernel_rfl) (by kernel_rfl) (fun _ _ _ h => h) (Or.inl ⟨by rfl, ?_⟩) (by assumption) ?_
  · intro wq hS
    go_simp
  try simp only [Act.put, List.setIfInBounds_toArray, List.set_cons_zero, List.set_cons_succ]
  refine takeD 5 22 (.string s) (by exact rfl) rfl (by kernel_rfl) (by kernel_rfl) (by kernel_rfl) (fun _ _ _ h => h) (Or.inl ⟨by rfl, ?_⟩) (by assumption) ?_
  · intro wq hS
    go_simp
  try simp only [Act.put, List.setIfInBounds_toArray, List.set_cons_zero, List.set_cons_succ]
  refine takeD 6 23 (.int .i64 6) (by exact rfl) rfl (by kernel_rfl) (by kernel_rfl) (by kernel_rfl) (fun _ _ _ h => h) (Or.inl ⟨by rfl, ?_⟩) (by assumption) ?_
  · intro wq hS
    go_simp
  try simp only [Act.put, List.setIfInBounds_toArray, List.set_cons_zero, List.set_cons_succ]
  refine takeD 7 24 (.int .u8 (s[6].toNat : Int)) (by exact rfl) rfl (by kernel_rfl) (by kernel_rfl) (by kernel_rfl) (fun _ _ _ h => h) (Or.inl ⟨by rfl, ?_⟩) (by assumption) ?_
  · intro wq hS
    go_simp
  try simp only [Act.put, List.setIfInBounds_toArray, List.set_cons_zero, List.set_cons_succ]
  refine takeD 8 25 (.int .u8 ((s[6].toNat : Int) - 48)) (by exact rfl) rfl (by kernel_rfl) (by kernel_rfl) (by kernel_rfl) (fun _ _ _ h => h) (Or.inl ⟨by rfl, ?_⟩) (by assumption) ?_
  · intro wq hS
    go_simp
    first | rfl | exact wU8 (by omega) (by omega) | exact wI64 (by omega) (by omega)
  try simp only [Act.put, List.setIfInBounds_toArray, List.set_cons_zero, List.set_cons_succ]
  refine takeD 9 26 (.int .i64 ((s[6].toNat : Int) - 48)) (by exact rfl) rfl (by kernel_rfl) (by kernel_rfl) (by kernel_rfl) (fun _ _ _ h => h) (Or.inl ⟨by rfl, ?_⟩) (by assumption) ?_
  · intro wq hS
    go_simp
    first | rfl | exact wU8 (by omega) (by omega) | exact wI64 (by omega) (by omega)
  try simp only [Act.put, List.setIfInBounds_toArray, List.set_cons_zero, List.set_cons_succ]
  refine wpAnyH_ready (rs := [3]) (by kernel_rfl) (by simp) ?_
  refine AllReadyH.cons (by exact rfl) (fun K hK => ?_) AllReadyH.nil
  go_simp
  refine hK.out _ _ hHeld (fun hHeld => ?_)
  try simp only [Act.put, List.setIfInBounds_toArray, List.set_cons_zero, List.set_cons_succ]
  clear hK K
  refine takeD 4 21 (.int .i64 (10 * u5)) (by exact rfl) rfl (by kernel_rfl) (by kernel_rfl) (by kernel_rfl) (fun _ _ _ h => h) (Or.inl ⟨by rfl, ?_⟩) (by assumption) ?_
  · intro wq hS
    go_simp
    first | rfl | exact wU8 (by omega) (by omega) | exact wI64 (by omega) (by omega)
  try simp only [Act.put, List.setIfInBounds_toArray, List.set_cons_zero, List.set_cons_succ]
  refine takeD 10 27 (.int .i64 (10 * u5 + ((s[6].toNat : Int) - 48))) (by exact rfl) rfl (by kernel_rfl) (by kernel_rfl) (by kernel_rfl) (fun _ _ _ h => h) (Or.inl ⟨by rfl, ?_⟩) (by assumption) ?_
  · intro wq hS
    go_simp
    first | rfl | exact wU8 (by omega) (by omega) | exact wI64 (by omega) (by omega)
  try simp only [Act.put, List.setIfInBounds_toArray, List.set_cons_zero, List.set_cons_succ]
  refine takeD 11 28 (.pointer (some ⟨p, 1, none⟩)) (by exact rfl) rfl (by kernel_rfl) (by kernel_rfl) (by kernel_rfl) (fun _ _ _ h => h) (Or.inl ⟨by rfl, ?_⟩) (by assumption) ?_
  · intro wq hS
    go_simp
  try simp only [Act.put, List.setIfInBounds_toArray, List.set_cons_zero, List.set_cons_succ]
  refine wpAnyH_ready (rs := [12]) (by kernel_rfl) (by simp) ?_
  refine AllReadyH.cons (by exact rfl) (fun K hK => ?_) AllReadyH.nil
  go_simp
  have V := Vz.set 1 (.int .i64 (10 * u5 + ((s[6].toNat : Int) - 48)))
  have HB6 : Hid (Below w.heap.size w (wz.setCell ⟨p, 1, none⟩ (.int .i64 (10 * u5 + ((s[6].toNat : Int) - 48))))) := Below.setCell hHeld HP.out _
  refine hK.out _ _ HB6.out (fun hHeld => ?_)
  try simp only [Act.put, List.setIfInBounds_toArray, List.set_cons_zero, List.set_cons_succ]
  clear hK K hHeld Vz hc hf
  refine wpAnyH_done (by kernel_rfl) ?_ _
  refine NoPanic.normal ?_
  simp only [List.set_cons_zero, List.set_cons_succ] at V
  generalize wz.setCell ⟨p, 1, none⟩ (.int .i64 (10 * u5 + ((s[6].toNat : Int) - 48))) = w6 at *
  obtain ⟨u6, e6⟩ : ∃ x : Int, x = 10 * u5 + ((s[6].toNat : Int) - 48) := ⟨_, rfl⟩
  rw [← e6] at V
  try simp only [← e6]
  have V6 := (show Hid _ from V)
  have bl6 : 0 ≤ u6 := by omega
  have bu6 : u6 ≤ 99 := by omega
  have E6 := (show Hid _ from e6)
  have G6 := (show Hid _ from g6)
  clear V e6 g6 ga gb
  go_wp2_with fail
  rw [rounds_succ]
  have g7 := G7.out
  go_wp2_with fail
  have G7 := (show Hid _ from g7)
  clear g7
  rw [rounds_succ]
  have g8 := G8.out
  obtain ⟨ga, gb⟩ := id g8
  go_upto_region 8 with fail
  refine wp_region_noPanic ?_
  refine wp_region_held_drew (S := fun w' => Below w.heap.size w w') (by kernel_rfl) HB6.out.drew (fun hHeld => ?_)
  have Vz := V6.out.drew
  clear V6 HB6
  generalize w6.drew = wz at *
  have hc := Vz.cell 2 (v := .int .i64 0) rfl
  have hf := Vz.free 2
  refine takeD 0 17 (.int .i64 2) (by exact rfl) rfl (by kernel_rfl) (by kernel_rfl) (by kernel_rfl) (fun _ _ _ h => h) (Or.inl ⟨by rfl, ?_⟩) (by assumption) ?_
  · intro wq hS
    go_simp
  try simp only [Act.put, List.setIfInBounds_toArray, List.set_cons_zero, List.set_cons_succ]
  refine takeD 1 18 (.int .i64 2) (by exact rfl) rfl (by kernel_rfl) (by kernel_rfl) (by kernel_rfl) (fun _ _ _ h => h) (Or.inl ⟨by rfl, ?_⟩) (by assumption) ?_
  · intro wq hS
    go_simp
  try simp only [Act.put, List.setIfInBounds_toArray, List.set_cons_zero, List.set_cons_succ]
  refine takeD 2 19 (.pointer (some ⟨p, 2, none⟩)) (by exact rfl) rfl (by kernel_rfl) (by kernel_rfl) (by kernel_rfl) (fun _ _ _ h => h) (Or.inl ⟨by rfl, ?_⟩) (by assumption) ?_
  · intro wq hS
    go_simp
  try simp only [Act.put, List.setIfInBounds_toArray, List.set_cons_zero, List.set_cons_succ]
  refine takeD 5 22 (.string s) (by exact rfl) rfl (by kernel_rfl) (by kernel_rfl) (by kernel_rfl) (fun _ _ _ h => h) (Or.inl ⟨by rfl, ?_⟩) (by assumption) ?_
  · intro wq hS
    go_simp
  try simp only [Act.put, List.setIfInBounds_toArray, List.set_cons_zero, List.set_cons_succ]
  refine takeD 6 23 (.int .i64 8) (by exact rfl) rfl (by kernel_rfl) (by kernel_rfl) (by kernel_rfl) (fun _ _ _ h => h) (Or.inl ⟨by rfl, ?_⟩) (by assumption) ?_
  · intro wq hS
    go_simp
  try simp only [Act.put, List.setIfInBounds_toArray, List.set_cons_zero, List.set_cons_succ]
  refine takeD 7 24 (.int .u8 (s[8].toNat : Int)) (by exact rfl) rfl (by kernel_rfl) (by kernel_rfl) (by kernel_rfl) (fun _ _ _ h => h) (Or.inl ⟨by rfl, ?_⟩) (by assumption) ?_
  · intro wq hS
    go_simp
  try simp only [Act.put, List.setIfInBounds_toArray, List.set_cons_zero, List.set_cons_succ]
  refine takeD 8 25 (.int .u8 ((s[8].toNat : Int) - 48)) (by exact rfl) rfl (by kernel_rfl) (by kernel_rfl) (by kernel_rfl) (fun _ _ _ h => h) (Or.inl ⟨by rfl, ?_⟩) (by assumption) ?_
  · intro wq hS
    go_simp
    first | rfl | exact wU8 (by omega) (by omega) | exact wI64 (by omega) (by omega)
  try simp only [Act.put, List.setIfInBounds_toArray, List.set_cons_zero, List.set_cons_succ]
  refine takeD 9 26 (.int .i64 ((s[8].toNat : Int) - 48)) (by exact rfl) rfl (by kernel_rfl) (by kernel_rfl) (by kernel_rfl) (fun _ _ _ h => h) (Or.inl ⟨by rfl, ?_⟩) (by assumption) ?_
  · intro wq hS
    go_simp
    first | rfl | exact wU8 (by omega) (by omega) | exact wI64 (by omega) (by omega)
  try simp only [Act.put, List.setIfInBounds_toArray, List.set_cons_zero, List.set_cons_succ]
  refine wpAnyH_ready (rs := [3]) (by kernel_rfl) (by simp) ?_
  refine AllReadyH.cons (by exact rfl) (fun K hK => ?_) AllReadyH.nil
  go_simp
  refine hK.out _ _ hHeld (fun hHeld => ?_)
  try simp only [Act.put, List.setIfInBounds_toArray, List.set_cons_zero, List.set_cons_succ]
  clear hK K
  refine takeD 4 21 (.int .i64 (0)) (by exact rfl) rfl (by kernel_rfl) (by kernel_rfl) (by kernel_rfl) (fun _ _ _ h => h) (Or.inl ⟨by rfl, ?_⟩) (by assumption) ?_
  · intro wq hS
    go_simp
    first | rfl | exact wU8 (by omega) (by omega) | exact wI64 (by omega) (by omega)
  try simp only [Act.put, List.setIfInBounds_toArray, List.set_cons_zero, List.set_cons_succ]
  refine takeD 10 27 (.int .i64 ((s[8].toNat : Int) - 48)) (by exact rfl) rfl (by kernel_rfl) (by kernel_rfl) (by kernel_rfl) (fun _ _ _ h => h) (Or.inl ⟨by rfl, ?_⟩) (by assumption) ?_
  · intro wq hS
    go_simp
    first | rfl | exact wU8 (by omega) (by omega) | exact wI64 (by omega) (by omega)
  try simp only [Act.put, List.setIfInBounds_toArray, List.set_cons_zero, List.set_cons_succ]
  refine takeD 11 28 (.pointer (some ⟨p, 2, none⟩)) (by exact rfl) rfl (by kernel_rfl) (by kernel_rfl) (by kernel_rfl) (fun _ _ _ h => h) (Or.inl ⟨by rfl, ?_⟩) (by assumption) ?_
  · intro wq hS
    go_simp
  try simp only [Act.put, List.setIfInBounds_toArray, List.set_cons_zero, List.set_cons_succ]
  refine wpAnyH_ready (rs := [12]) (by kernel_rfl) (by simp) ?_
  refine AllReadyH.cons (by exact rfl) (fun K hK => ?_) AllReadyH.nil
  go_simp
  have V := Vz.set 2 (.int .i64 ((s[8].toNat : Int) - 48))
  have HB7 : Hid (Below w.heap.size w (wz.setCell ⟨p, 2, none⟩ (.int .i64 ((s[8].toNat : Int) - 48)))) := Below.setCell hHeld HP.out _
  refine hK.out _ _ HB7.out (fun hHeld => ?_)
  try simp only [Act.put, List.setIfInBounds_toArray, List.set_cons_zero, List.set_cons_succ]
  clear hK K hHeld Vz hc hf
  refine wpAnyH_done (by kernel_rfl) ?_ _
  refine NoPanic.normal ?_
  simp only [List.set_cons_zero, List.set_cons_succ] at V
  generalize wz.setCell ⟨p, 2, none⟩ (.int .i64 ((s[8].toNat : Int) - 48)) = w7 at *
  obtain ⟨u8, e8⟩ : ∃ x : Int, x = (s[8].toNat : Int) - 48 := ⟨_, rfl⟩
  rw [← e8] at V
  try simp only [← e8]
  have V7 := (show Hid _ from V)
  have bl8 : 0 ≤ u8 := by omega
  have bu8 : u8 ≤ 9 := by omega
  have E8 := (show Hid _ from e8)
  have G8 := (show Hid _ from g8)
  clear V e8 g8 ga gb
  go_wp2_with fail
  rw [rounds_succ]
  have g9 := G9.out
  obtain ⟨ga, gb⟩ := id g9
  go_upto_region 8 with fail
  refine wp_region_noPanic ?_
  refine wp_region_held_drew (S := fun w' => Below w.heap.size w w') (by kernel_rfl) HB7.out.drew (fun hHeld => ?_)
  have Vz := V7.out.drew
  clear V7 HB7
  generalize w7.drew = wz at *
  have hc := Vz.cell 2 (v := .int .i64 u8) rfl
  have hf := Vz.free 2
  refine takeD 0 17 (.int .i64 2) (by exact rfl) rfl (by kernel_rfl) (by kernel_rfl) (by kernel_rfl) (fun _ _ _ h => h) (Or.inl ⟨by rfl, ?_⟩) (by assumption) ?_
  · intro wq hS
    go_simp
  try simp only [Act.put, List.setIfInBounds_toArray, List.set_cons_zero, List.set_cons_succ]
  refine takeD 1 18 (.int .i64 2) (by exact rfl) rfl (by kernel_rfl) (by kernel_rfl) (by kernel_rfl) (fun _ _ _ h => h) (Or.inl ⟨by rfl, ?_⟩) (by assumption) ?_
  · intro wq hS
    go_simp
  try simp only [Act.put, List.setIfInBounds_toArray, List.set_cons_zero, List.set_cons_succ]
  refine takeD 2 19 (.pointer (some ⟨p, 2, none⟩)) (by exact rfl) rfl (by kernel_rfl) (by kernel_rfl) (by kernel_rfl) (fun _ _ _ h => h) (Or.inl ⟨by rfl, ?_⟩) (by assumption) ?_
  · intro wq hS
    go_simp
  try simp only [Act.put, List.setIfInBounds_toArray, List.set_cons_zero, List.set_cons_succ]
  refine takeD 5 22 (.string s) (by exact rfl) rfl (by kernel_rfl) (by kernel_rfl) (by kernel_rfl) (fun _ _ _ h => h) (Or.inl ⟨by rfl, ?_⟩) (by assumption) ?_
  · intro wq hS
    go_simp
  try simp only [Act.put, List.setIfInBounds_toArray, List.set_cons_zero, List.set_cons_succ]
  refine takeD 6 23 (.int .i64 9) (by exact rfl) rfl (by kernel_rfl) (by kernel_rfl) (by kernel_rfl) (fun _ _ _ h => h) (Or.inl ⟨by rfl, ?_⟩) (by assumption) ?_
  · intro wq hS
    go_simp
  try simp only [Act.put, List.setIfInBounds_toArray, List.set_cons_zero, List.set_cons_succ]
  refine takeD 7 24 (.int .u8 (s[9].toNat : Int)) (by exact rfl) rfl (by kernel_rfl) (by kernel_rfl) (by kernel_rfl) (fun _ _ _ h => h) (Or.inl ⟨by rfl, ?_⟩) (by assumption) ?_
  · intro wq hS
    go_simp
  try simp only [Act.put, List.setIfInBounds_toArray, List.set_cons_zero, List.set_cons_succ]
  refine takeD 8 25 (.int .u8 ((s[9].toNat : Int) - 48)) (by exact rfl) rfl (by kernel_rfl) (by kernel_rfl) (by kernel_rfl) (fun _ _ _ h => h) (Or.inl ⟨by rfl, ?_⟩) (by assumption) ?_
  · intro wq hS
    go_simp
    first | rfl | exact wU8 (by omega) (by omega) | exact wI64 (by omega) (by omega)
  try simp only [Act.put, List.setIfInBounds_toArray, List.set_cons_zero, List.set_cons_succ]
  refine takeD 9 26 (.int .i64 ((s[9].toNat : Int) - 48)) (by exact rfl) rfl (by kernel_rfl) (by kernel_rfl) (by kernel_rfl) (fun _ _ _ h => h) (Or.inl ⟨by rfl, ?_⟩) (by assumption) ?_
  · intro wq hS
    go_simp
    first | rfl | exact wU8 (by omega) (by omega) | exact wI64 (by omega) (by omega)
  try simp only [Act.put, List.setIfInBounds_toArray, List.set_cons_zero, List.set_cons_succ]
  refine wpAnyH_ready (rs := [3]) (by kernel_rfl) (by simp) ?_
  refine AllReadyH.cons (by exact rfl) (fun K hK => ?_) AllReadyH.nil
  go_simp
  refine hK.out _ _ hHeld (fun hHeld => ?_)
  try simp only [Act.put, List.setIfInBounds_toArray, List.set_cons_zero, List.set_cons_succ]
  clear hK K
  refine takeD 4 21 (.int .i64 (10 * u8)) (by exact rfl) rfl (by kernel_rfl) (by kernel_rfl) (by kernel_rfl) (fun _ _ _ h => h) (Or.inl ⟨by rfl, ?_⟩) (by assumption) ?_
  · intro wq hS
    go_simp
    first | rfl | exact wU8 (by omega) (by omega) | exact wI64 (by omega) (by omega)
  try simp only [Act.put, List.setIfInBounds_toArray, List.set_cons_zero, List.set_cons_succ]
  refine takeD 10 27 (.int .i64 (10 * u8 + ((s[9].toNat : Int) - 48))) (by exact rfl) rfl (by kernel_rfl) (by kernel_rfl) (by kernel_rfl) (fun _ _ _ h => h) (Or.inl ⟨by rfl, ?_⟩) (by assumption) ?_
  · intro wq hS
    go_simp
    first | rfl | exact wU8 (by omega) (by omega) | exact wI64 (by omega) (by omega)
  try simp only [Act.put, List.setIfInBounds_toArray, List.set_cons_zero, List.set_cons_succ]
  refine takeD 11 28 (.pointer (some ⟨p, 2, none⟩)) (by exact rfl) rfl (by kernel_rfl) (by kernel_rfl) (by kernel_rfl) (fun _ _ _ h => h) (Or.inl ⟨by rfl, ?_⟩) (by assumption) ?_
  · intro wq hS
    go_simp
  try simp only [Act.put, List.setIfInBounds_toArray, List.set_cons_zero, List.set_cons_succ]
  refine wpAnyH_ready (rs := [12]) (by kernel_rfl) (by simp) ?_
  refine AllReadyH.cons (by exact rfl) (fun K hK => ?_) AllReadyH.nil
  go_simp
  have V := Vz.set 2 (.int .i64 (10 * u8 + ((s[9].toNat : Int) - 48)))
  have HB8 : Hid (Below w.heap.size w (wz.setCell ⟨p, 2, none⟩ (.int .i64 (10 * u8 + ((s[9].toNat : Int) - 48))))) := Below.setCell hHeld HP.out _
  refine hK.out _ _ HB8.out (fun hHeld => ?_)
  try simp only [Act.put, List.setIfInBounds_toArray, List.set_cons_zero, List.set_cons_succ]
  clear hK K hHeld Vz hc hf
  refine wpAnyH_done (by kernel_rfl) ?_ _
  refine NoPanic.normal ?_
  simp only [List.set_cons_zero, List.set_cons_succ] at V
  generalize wz.setCell ⟨p, 2, none⟩ (.int .i64 (10 * u8 + ((s[9].toNat : Int) - 48))) = w8 at *
  obtain ⟨u9, e9⟩ : ∃ x : Int, x = 10 * u8 + ((s[9].toNat : Int) - 48) := ⟨_, rfl⟩
  rw [← e9] at V
  try simp only [← e9]
  have V8 := (show Hid _ from V)
  have bl9 : 0 ≤ u9 := by omega
  have bu9 : u9 ≤ 99 := by omega
  have E9 := (show Hid _ from e9)
  have G9 := (show Hid _ from g9)
  clear V e9 g9 ga gb
  go_wp2_with fail
  rw [rounds_succ]
  have V := V8.out
  have ca := V.cell 0 (v := .int .i64 u3) rfl
  have cb := V.cell 1 (v := .int .i64 u6) rfl
  have cc := V.cell 2 (v := .int .i64 u9) rfl
  have eY : u3 = Y := by
    have c := HC.out
    have e0 := E0.out
    have e1 := E1.out
    have e2 := E2.out
    have e3 := E3.out
    have g0 := G0.out
    have g1 := G1.out
    have g2 := G2.out
    have g3 := G3.out
    have hy := HY.out
    simp only [dv, Nat.add_zero, Nat.zero_add] at hy
    omega
  have eM : u6 = M := by
    have c := HC.out
    have e0 := E5.out
    have e1 := E6.out
    have g0 := G5.out
    have g1 := G6.out
    have hy := HM.out
    simp only [dv, Nat.add_zero, Nat.reduceAdd] at hy
    omega
  have eD : u9 = D := by
    have c := HC.out
    have e0 := E8.out
    have e1 := E9.out
    have g0 := G8.out
    have g1 := G9.out
    have hy := HD.out
    simp only [dv, Nat.add_zero, Nat.reduceAdd] at hy
    omega
  go_wp2_with fail
  refine (hN _).mono ?_
  rintro e wn ⟨rfl, hq⟩
  obtain rfl := hq.symm
  go_wp2_with fail
  exact bodyPost_ret (v := .tuple #[.int .i64 a, .int .i64 0]) (by simp [results, Tryd.results5, go_sem]) rfl ⟨rfl, HB8.out⟩
set_option maxHeartbeats 4000000 in
theorem docparse_date (s : ByteArray) (a e Y M D : Int) (w : World) (h : s.size = 10) (F : Form s) (he : ¬ e = 0) (hY : dv s 0 4 = Y) (hM : dv s 5 2 = M) (hD : dv s 8 2 = D)
    (hN : ∀ w, Calls Tryd.prog 13 #[.int .i64 Y, .int .i64 M, .int .i64 D] w fun r w' => r = .returned (.tuple #[.int .i64 a, .int .i64 e]) ∧ w' = w) :
    Calls Tryd.prog 5 #[.string s] w fun e w' => e = .returned (.tuple #[.int .i64 0, .int .i64 9]) ∧ Below w.heap.size w w' := by
  have HY := (show Hid _ from hY)
  have HM := (show Hid _ from hM)
  have HD := (show Hid _ from hD)
  clear hY hM hD
  have hI : (s.size : Int) = 10 := by omega
  have c0 : chr s 0 = (s[0].toNat : Int) := chr_at (by omega)
  have c1 : chr s 1 = (s[1].toNat : Int) := chr_at (by omega)
  have c2 : chr s 2 = (s[2].toNat : Int) := chr_at (by omega)
  have c3 : chr s 3 = (s[3].toNat : Int) := chr_at (by omega)
  have c4 : chr s 4 = (s[4].toNat : Int) := chr_at (by omega)
  have c5 : chr s 5 = (s[5].toNat : Int) := chr_at (by omega)
  have c6 : chr s 6 = (s[6].toNat : Int) := chr_at (by omega)
  have c7 : chr s 7 = (s[7].toNat : Int) := chr_at (by omega)
  have c8 : chr s 8 = (s[8].toNat : Int) := chr_at (by omega)
  have c9 : chr s 9 = (s[9].toNat : Int) := chr_at (by omega)
  obtain ⟨F0, F1, F2, F3, F4, F5, F6, F7, F8, F9⟩ := F
  unfold Dig at F0 F1 F2 F3 F5 F6 F8 F9
  have g0 : 48 ≤ (s[0].toNat : Int) ∧ (s[0].toNat : Int) ≤ 57 := by omega
  have g1 : 48 ≤ (s[1].toNat : Int) ∧ (s[1].toNat : Int) ≤ 57 := by omega
  have g2 : 48 ≤ (s[2].toNat : Int) ∧ (s[2].toNat : Int) ≤ 57 := by omega
  have g3 : 48 ≤ (s[3].toNat : Int) ∧ (s[3].toNat : Int) ≤ 57 := by omega
  have g4 : (s[4].toNat : Int) = 45 := by omega
  have g5 : 48 ≤ (s[5].toNat : Int) ∧ (s[5].toNat : Int) ≤ 57 := by omega
  have g6 : 48 ≤ (s[6].toNat : Int) ∧ (s[6].toNat : Int) ≤ 57 := by omega
  have g7 : (s[7].toNat : Int) = 45 := by omega
  have g8 : 48 ≤ (s[8].toNat : Int) ∧ (s[8].toNat : Int) ≤ 57 := by omega
  have g9 : 48 ≤ (s[9].toNat : Int) ∧ (s[9].toNat : Int) ≤ 57 := by omega
  clear F0 F1 F2 F3 F4 F5 F6 F7 F8 F9
  have G0 := (show Hid _ from g0)
  clear g0
  have G1 := (show Hid _ from g1)
  clear g1
  have G2 := (show Hid _ from g2)
  clear g2
  have G3 := (show Hid _ from g3)
  clear g3
  have G4 := (show Hid _ from g4)
  clear g4
  have G5 := (show Hid _ from g5)
  clear g5
  have G6 := (show Hid _ from g6)
  clear g6
  have G7 := (show Hid _ from g7)
  clear g7
  have G8 := (show Hid _ from g8)
  clear g8
  have G9 := (show Hid _ from g9)
  clear g9
  have HC := (show Hid _ from And.intro c0 (And.intro c1 (And.intro c2 (And.intro c3 (And.intro c4 (And.intro c5 (And.intro c6 (And.intro c7 (And.intro c8 c9)))))))))
  clear c0 c1 c2 c3 c4 c5 c6 c7 c8 c9
  go_enter Tryd.func5, Tryd.ntmps5
  go_upto_region 4 with fail
  have V := va_new w [.int .i64 0, .int .i64 0, .int .i64 0] 36
  have BB := (Below.refl w.heap.size w).alloc (Nat.le_refl _) (.cells #[.int .i64 0, .int .i64 0, .int .i64 0] 36)
  obtain ⟨p, hp⟩ : ∃ p, p = w.heap.size := ⟨_, rfl⟩
  have HP : Hid (w.heap.size ≤ p) := (by omega : w.heap.size ≤ p)
  change VA (w.alloc (.cells #[.int .i64 0, .int .i64 0, .int .i64 0] 36)) w.heap.size _ _ at V
  generalize w.alloc (.cells #[.int .i64 0, .int .i64 0, .int .i64 0] 36) = w0 at *
  rw [← hp] at V
  simp only [← hp]
  clear hp
  have V0 := (show Hid _ from V)
  have HB0 := (show Hid _ from BB)
  clear V BB
  go_wp2_with fail
  refine wp_loop_rounds 11 ?_
  rw [rounds_succ]
  have g0 := G0.out
  obtain ⟨ga, gb⟩ := id g0
  go_upto_region 8 with fail
  refine wp_region_noPanic ?_
  refine wp_region_held_drew (S := fun w' => Below w.heap.size w w') (by kernel_rfl) HB0.out.drew (fun hHeld => ?_)
  have Vz := V0.out.drew
  clear V0 HB0
  generalize w0.drew = wz at *
  have hc := Vz.cell 0 (v := .int .i64 0) rfl
  have hf := Vz.free 0
  refine takeD 0 17 (.int .i64 0) (by exact rfl) rfl (by kernel_rfl) (by kernel_rfl) (by kernel_rfl) (fun _ _ _ h => h) (Or.inl ⟨by rfl, ?_⟩) (by assumption) ?_
  · intro wq hS
    go_simp
  try simp only [Act.put, List.setIfInBounds_toArray, List.set_cons_zero, List.set_cons_succ]
  refine takeD 1 18 (.int .i64 0) (by exact rfl) rfl (by kernel_rfl) (by kernel_rfl) (by kernel_rfl) (fun _ _ _ h => h) (Or.inl ⟨by rfl, ?_⟩) (by assumption) ?_
  · intro wq hS
    go_simp
  try simp only [Act.put, List.setIfInBounds_toArray, List.set_cons_zero, List.set_cons_succ]
  refine takeD 2 19 (.pointer (some ⟨p, 0, none⟩)) (by exact rfl) rfl (by kernel_rfl) (by kernel_rfl) (by kernel_rfl) (fun _ _ _ h => h) (Or.inl ⟨by rfl, ?_⟩) (by assumption) ?_
  · intro wq hS
    go_simp
  try simp only [Act.put, List.setIfInBounds_toArray, List.set_cons_zero, List.set_cons_succ]
  refine takeD 5 22 (.string s) (by exact rfl) rfl (by kernel_rfl) (by kernel_rfl) (by kernel_rfl) (fun _ _ _ h => h) (Or.inl ⟨by rfl, ?_⟩) (by assumption) ?_
  · intro wq hS
    go_simp
  try simp only [Act.put, List.setIfInBounds_toArray, List.set_cons_zero, List.set_cons_succ]
  refine takeD 6 23 (.int .i64 0) (by exact rfl) rfl (by kernel_rfl) (by kernel_rfl) (by kernel_rfl) (fun _ _ _ h => h) (Or.inl ⟨by rfl, ?_⟩) (by assumption) ?_
  · intro wq hS
    go_simp
  try simp only [Act.put, List.setIfInBounds_toArray, List.set_cons_zero, List.set_cons_succ]
  refine takeD 7 24 (.int .u8 (s[0].toNat : Int)) (by exact rfl) rfl (by kernel_rfl) (by kernel_rfl) (by kernel_rfl) (fun _ _ _ h => h) (Or.inl ⟨by rfl, ?_⟩) (by assumption) ?_
  · intro wq hS
    go_simp
  try simp only [Act.put, List.setIfInBounds_toArray, List.set_cons_zero, List.set_cons_succ]
  refine takeD 8 25 (.int .u8 ((s[0].toNat : Int) - 48)) (by exact rfl) rfl (by kernel_rfl) (by kernel_rfl) (by kernel_rfl) (fun _ _ _ h => h) (Or.inl ⟨by rfl, ?_⟩) (by assumption) ?_
  · intro wq hS
    go_simp
    first | rfl | exact wU8 (by omega) (by omega) | exact wI64 (by omega) (by omega)
  try simp only [Act.put, List.setIfInBounds_toArray, List.set_cons_zero, List.set_cons_succ]
  refine takeD 9 26 (.int .i64 ((s[0].toNat : Int) - 48)) (by exact rfl) rfl (by kernel_rfl) (by kernel_rfl) (by kernel_rfl) (fun _ _ _ h => h) (Or.inl ⟨by rfl, ?_⟩) (by assumption) ?_
  · intro wq hS
    go_simp
    first | rfl | exact wU8 (by omega) (by omega) | exact wI64 (by omega) (by omega)
  try simp only [Act.put, List.setIfInBounds_toArray, List.set_cons_zero, List.set_cons_succ]
  refine wpAnyH_ready (rs := [3]) (by kernel_rfl) (by simp) ?_
  refine AllReadyH.cons (by exact rfl) (fun K hK => ?_) AllReadyH.nil
  go_simp
  refine hK.out _ _ hHeld (fun hHeld => ?_)
  try simp only [Act.put, List.setIfInBounds_toArray, List.set_cons_zero, List.set_cons_succ]
  clear hK K
  refine takeD 4 21 (.int .i64 (0)) (by exact rfl) rfl (by kernel_rfl) (by kernel_rfl) (by kernel_rfl) (fun _ _ _ h => h) (Or.inl ⟨by rfl, ?_⟩) (by assumption) ?_
  · intro wq hS
    go_simp
    first | rfl | exact wU8 (by omega) (by omega) | exact wI64 (by omega) (by omega)
  try simp only [Act.put, List.setIfInBounds_toArray, List.set_cons_zero, List.set_cons_succ]
  refine takeD 10 27 (.int .i64 ((s[0].toNat : Int) - 48)) (by exact rfl) rfl (by kernel_rfl) (by kernel_rfl) (by kernel_rfl) (fun _ _ _ h => h) (Or.inl ⟨by rfl, ?_⟩) (by assumption) ?_
  · intro wq hS
    go_simp
    first | rfl | exact wU8 (by omega) (by omega) | exact wI64 (by omega) (by omega)
  try simp only [Act.put, List.setIfInBounds_toArray, List.set_cons_zero, List.set_cons_succ]
  refine takeD 11 28 (.pointer (some ⟨p, 0, none⟩)) (by exact rfl) rfl (by kernel_rfl) (by kernel_rfl) (by kernel_rfl) (fun _ _ _ h => h) (Or.inl ⟨by rfl, ?_⟩) (by assumption) ?_
  · intro wq hS
    go_simp
  try simp only [Act.put, List.setIfInBounds_toArray, List.set_cons_zero, List.set_cons_succ]
  refine wpAnyH_ready (rs := [12]) (by kernel_rfl) (by simp) ?_
  refine AllReadyH.cons (by exact rfl) (fun K hK => ?_) AllReadyH.nil
  go_simp
  have V := Vz.set 0 (.int .i64 ((s[0].toNat : Int) - 48))
  have HB1 : Hid (Below w.heap.size w (wz.setCell ⟨p, 0, none⟩ (.int .i64 ((s[0].toNat : Int) - 48)))) := Below.setCell hHeld HP.out _
  refine hK.out _ _ HB1.out (fun hHeld => ?_)
  try simp only [Act.put, List.setIfInBounds_toArray, List.set_cons_zero, List.set_cons_succ]
  clear hK K hHeld Vz hc hf
  refine wpAnyH_done (by kernel_rfl) ?_ _
  refine NoPanic.normal ?_
  simp only [List.set_cons_zero, List.set_cons_succ] at V
  generalize wz.setCell ⟨p, 0, none⟩ (.int .i64 ((s[0].toNat : Int) - 48)) = w1 at *
  obtain ⟨u0, e0⟩ : ∃ x : Int, x = (s[0].toNat : Int) - 48 := ⟨_, rfl⟩
  rw [← e0] at V
  try simp only [← e0]
  have V1 := (show Hid _ from V)
  have bl0 : 0 ≤ u0 := by omega
  have bu0 : u0 ≤ 9 := by omega
  have E0 := (show Hid _ from e0)
  have G0 := (show Hid _ from g0)
  clear V e0 g0 ga gb
  go_wp2_with fail
  rw [rounds_succ]
  have g1 := G1.out
  obtain ⟨ga, gb⟩ := id g1
  go_upto_region 8 with fail
  refine wp_region_noPanic ?_
  refine wp_region_held_drew (S := fun w' => Below w.heap.size w w') (by kernel_rfl) HB1.out.drew (fun hHeld => ?_)
  have Vz := V1.out.drew
  clear V1 HB1
  generalize w1.drew = wz at *
  have hc := Vz.cell 0 (v := .int .i64 u0) rfl
  have hf := Vz.free 0
  refine takeD 0 17 (.int .i64 0) (by exact rfl) rfl (by kernel_rfl) (by kernel_rfl) (by kernel_rfl) (fun _ _ _ h => h) (Or.inl ⟨by rfl, ?_⟩) (by assumption) ?_
  · intro wq hS
    go_simp
  try simp only [Act.put, List.setIfInBounds_toArray, List.set_cons_zero, List.set_cons_succ]
  refine takeD 1 18 (.int .i64 0) (by exact rfl) rfl (by kernel_rfl) (by kernel_rfl) (by kernel_rfl) (fun _ _ _ h => h) (Or.inl ⟨by rfl, ?_⟩) (by assumption) ?_
  · intro wq hS
    go_simp
  try simp only [Act.put, List.setIfInBounds_toArray, List.set_cons_zero, List.set_cons_succ]
  refine takeD 2 19 (.pointer (some ⟨p, 0, none⟩)) (by exact rfl) rfl (by kernel_rfl) (by kernel_rfl) (by kernel_rfl) (fun _ _ _ h => h) (Or.inl ⟨by rfl, ?_⟩) (by assumption) ?_
  · intro wq hS
    go_simp
  try simp only [Act.put, List.setIfInBounds_toArray, List.set_cons_zero, List.set_cons_succ]
  refine takeD 5 22 (.string s) (by exact rfl) rfl (by kernel_rfl) (by kernel_rfl) (by kernel_rfl) (fun _ _ _ h => h) (Or.inl ⟨by rfl, ?_⟩) (by assumption) ?_
  · intro wq hS
    go_simp
  try simp only [Act.put, List.setIfInBounds_toArray, List.set_cons_zero, List.set_cons_succ]
  refine takeD 6 23 (.int .i64 1) (by exact rfl) rfl (by kernel_rfl) (by kernel_rfl) (by kernel_rfl) (fun _ _ _ h => h) (Or.inl ⟨by rfl, ?_⟩) (by assumption) ?_
  · intro wq hS
    go_simp
  try simp only [Act.put, List.setIfInBounds_toArray, List.set_cons_zero, List.set_cons_succ]
  refine takeD 7 24 (.int .u8 (s[1].toNat : Int)) (by exact rfl) rfl (by kernel_rfl) (by kernel_rfl) (by kernel_rfl) (fun _ _ _ h => h) (Or.inl ⟨by rfl, ?_⟩) (by assumption) ?_
  · intro wq hS
    go_simp
  try simp only [Act.put, List.setIfInBounds_toArray, List.set_cons_zero, List.set_cons_succ]
  refine takeD 8 25 (.int .u8 ((s[1].toNat : Int) - 48)) (by exact rfl) rfl (by kernel_rfl) (by kernel_rfl) (by kernel_rfl) (fun _ _ _ h => h) (Or.inl ⟨by rfl, ?_⟩) (by assumption) ?_
  · intro wq hS
    go_simp
    first | rfl | exact wU8 (by omega) (by omega) | exact wI64 (by omega) (by omega)
  try simp only [Act.put, List.setIfInBounds_toArray, List.set_cons_zero, List.set_cons_succ]
  refine takeD 9 26 (.int .i64 ((s[1].toNat : Int) - 48)) (by exact rfl) rfl (by kernel_rfl) (by kernel_rfl) (by kernel_rfl) (fun _ _ _ h => h) (Or.inl ⟨by rfl, ?_⟩) (by assumption) ?_
  · intro wq hS
    go_simp
    first | rfl | exact wU8 (by omega) (by omega) | exact wI64 (by omega) (by omega)
  try simp only [Act.put, List.setIfInBounds_toArray, List.set_cons_zero, List.set_cons_succ]
  refine wpAnyH_ready (rs := [3]) (by kernel_rfl) (by simp) ?_
  refine AllReadyH.cons (by exact rfl) (fun K hK => ?_) AllReadyH.nil
  go_simp
  refine hK.out _ _ hHeld (fun hHeld => ?_)
  try simp only [Act.put, List.setIfInBounds_toArray, List.set_cons_zero, List.set_cons_succ]
  clear hK K
  refine takeD 4 21 (.int .i64 (10 * u0)) (by exact rfl) rfl (by kernel_rfl) (by kernel_rfl) (by kernel_rfl) (fun _ _ _ h => h) (Or.inl ⟨by rfl, ?_⟩) (by assumption) ?_
  · intro wq hS
    go_simp
    first | rfl | exact wU8 (by omega) (by omega) | exact wI64 (by omega) (by omega)
  try simp only [Act.put, List.setIfInBounds_toArray, List.set_cons_zero, List.set_cons_succ]
  refine takeD 10 27 (.int .i64 (10 * u0 + ((s[1].toNat : Int) - 48))) (by exact rfl) rfl (by kernel_rfl) (by kernel_rfl) (by kernel_rfl) (fun _ _ _ h => h) (Or.inl ⟨by rfl, ?_⟩) (by assumption) ?_
  · intro wq hS
    go_simp
    first | rfl | exact wU8 (by omega) (by omega) | exact wI64 (by omega) (by omega)
  try simp only [Act.put, List.setIfInBounds_toArray, List.set_cons_zero, List.set_cons_succ]
  refine takeD 11 28 (.pointer (some ⟨p, 0, none⟩)) (by exact rfl) rfl (by kernel_rfl) (by kernel_rfl) (by kernel_rfl) (fun _ _ _ h => h) (Or.inl ⟨by rfl, ?_⟩) (by assumption) ?_
  · intro wq hS
    go_simp
  try simp only [Act.put, List.setIfInBounds_toArray, List.set_cons_zero, List.set_cons_succ]
  refine wpAnyH_ready (rs := [12]) (by kernel_rfl) (by simp) ?_
  refine AllReadyH.cons (by exact rfl) (fun K hK => ?_) AllReadyH.nil
  go_simp
  have V := Vz.set 0 (.int .i64 (10 * u0 + ((s[1].toNat : Int) - 48)))
  have HB2 : Hid (Below w.heap.size w (wz.setCell ⟨p, 0, none⟩ (.int .i64 (10 * u0 + ((s[1].toNat : Int) - 48))))) := Below.setCell hHeld HP.out _
  refine hK.out _ _ HB2.out (fun hHeld => ?_)
  try simp only [Act.put, List.setIfInBounds_toArray, List.set_cons_zero, List.set_cons_succ]
  clear hK K hHeld Vz hc hf
  refine wpAnyH_done (by kernel_rfl) ?_ _
  refine NoPanic.normal ?_
  simp only [List.set_cons_zero, List.set_cons_succ] at V
  generalize wz.setCell ⟨p, 0, none⟩ (.int .i64 (10 * u0 + ((s[1].toNat : Int) - 48))) = w2 at *
  obtain ⟨u1, e1⟩ : ∃ x : Int, x = 10 * u0 + ((s[1].toNat : Int) - 48) := ⟨_, rfl⟩
  rw [← e1] at V
  try simp only [← e1]
  have V2 := (show Hid _ from V)
  have bl1 : 0 ≤ u1 := by omega
  have bu1 : u1 ≤ 99 := by omega
  have E1 := (show Hid _ from e1)
  have G1 := (show Hid _ from g1)
  clear V e1 g1 ga gb
  go_wp2_with fail
  rw [rounds_succ]
  have g2 := G2.out
  obtain ⟨ga, gb⟩ := id g2
  go_upto_region 8 with fail
  refine wp_region_noPanic ?_
  refine wp_region_held_drew (S := fun w' => Below w.heap.size w w') (by kernel_rfl) HB2.out.drew (fun hHeld => ?_)
  have Vz := V2.out.drew
  clear V2 HB2
  generalize w2.drew = wz at *
  have hc := Vz.cell 0 (v := .int .i64 u1) rfl
  have hf := Vz.free 0
  refine takeD 0 17 (.int .i64 0) (by exact rfl) rfl (by kernel_rfl) (by kernel_rfl) (by kernel_rfl) (fun _ _ _ h => h) (Or.inl ⟨by rfl, ?_⟩) (by assumption) ?_
  · intro wq hS
    go_simp
  try simp only [Act.put, List.setIfInBounds_toArray, List.set_cons_zero, List.set_cons_succ]
  refine takeD 1 18 (.int .i64 0) (by exact rfl) rfl (by kernel_rfl) (by kernel_rfl) (by kernel_rfl) (fun _ _ _ h => h) (Or.inl ⟨by rfl, ?_⟩) (by assumption) ?_
  · intro wq hS
    go_simp
  try simp only [Act.put, List.setIfInBounds_toArray, List.set_cons_zero, List.set_cons_succ]
  refine takeD 2 19 (.pointer (some ⟨p, 0, none⟩)) (by exact rfl) rfl (by kernel_rfl) (by kernel_rfl) (by kernel_rfl) (fun _ _ _ h => h) (Or.inl ⟨by rfl, ?_⟩) (by assumption) ?_
  · intro wq hS
    go_simp
  try simp only [Act.put, List.setIfInBounds_toArray, List.set_cons_zero, List.set_cons_succ]
  refine takeD 5 22 (.string s) (by exact rfl) rfl (by kernel_rfl) (by kernel_rfl) (by kernel_rfl) (fun _ _ _ h => h) (Or.inl ⟨by rfl, ?_⟩) (by assumption) ?_
  · intro wq hS
    go_simp
  try simp only [Act.put, List.setIfInBounds_toArray, List.set_cons_zero, List.set_cons_succ]
  refine takeD 6 23 (.int .i64 2) (by exact rfl) rfl (by kernel_rfl) (by kernel_rfl) (by kernel_rfl) (fun _ _ _ h => h) (Or.inl ⟨by rfl, ?_⟩) (by assumption) ?_
  · intro wq hS
    go_simp
  try simp only [Act.put, List.setIfInBounds_toArray, List.set_cons_zero, List.set_cons_succ]
  refine takeD 7 24 (.int .u8 (s[2].toNat : Int)) (by exact rfl) rfl (by kernel_rfl) (by kernel_rfl) (by kernel_rfl) (fun _ _ _ h => h) (Or.inl ⟨by rfl, ?_⟩) (by assumption) ?_
  · intro wq hS
    go_simp
  try simp only [Act.put, List.setIfInBounds_toArray, List.set_cons_zero, List.set_cons_succ]
  refine takeD 8 25 (.int .u8 ((s[2].toNat : Int) - 48)) (by exact rfl) rfl (by kernel_rfl) (by kernel_rfl) (by kernel_rfl) (fun _ _ _ h => h) (Or.inl ⟨by rfl, ?_⟩) (by assumption) ?_
  · intro wq hS
    go_simp
    first | rfl | exact wU8 (by omega) (by omega) | exact wI64 (by omega) (by omega)
  try simp only [Act.put, List.setIfInBounds_toArray, List.set_cons_zero, List.set_cons_succ]
  refine takeD 9 26 (.int .i64 ((s[2].toNat : Int) - 48)) (by exact rfl) rfl (by kernel_rfl) (by kernel_rfl) (by kernel_rfl) (fun _ _ _ h => h) (Or.inl ⟨by rfl, ?_⟩) (by assumption) ?_
  · intro wq hS
    go_simp
    first | rfl | exact wU8 (by omega) (by omega) | exact wI64 (by omega) (by omega)
  try simp only [Act.put, List.setIfInBounds_toArray, List.set_cons_zero, List.set_cons_succ]
  refine wpAnyH_ready (rs := [3]) (by kernel_rfl) (by simp) ?_
  refine AllReadyH.cons (by exact rfl) (fun K hK => ?_) AllReadyH.nil
  go_simp
  refine hK.out _ _ hHeld (fun hHeld => ?_)
  try simp only [Act.put, List.setIfInBounds_toArray, List.set_cons_zero, List.set_cons_succ]
  clear hK K
  refine takeD 4 21 (.int .i64 (10 * u1)) (by exact rfl) rfl (by kernel_rfl) (by kernel_rfl) (by kernel_rfl) (fun _ _ _ h => h) (Or.inl ⟨by rfl, ?_⟩) (by assumption) ?_
  · intro wq hS
    go_simp
    first | rfl | exact wU8 (by omega) (by omega) | exact wI64 (by omega) (by omega)
  try simp only [Act.put, List.setIfInBounds_toArray, List.set_cons_zero, List.set_cons_succ]
  refine takeD 10 27 (.int .i64 (10 * u1 + ((s[2].toNat : Int) - 48))) (by exact rfl) rfl (by kernel_rfl) (by kernel_rfl) (by kernel_rfl) (fun _ _ _ h => h) (Or.inl ⟨by rfl, ?_⟩) (by assumption) ?_
  · intro wq hS
    go_simp
    first | rfl | exact wU8 (by omega) (by omega) | exact wI64 (by omega) (by omega)
  try simp only [Act.put, List.setIfInBounds_toArray, List.set_cons_zero, List.set_cons_succ]
  refine takeD 11 28 (.pointer (some ⟨p, 0, none⟩)) (by exact rfl) rfl (by kernel_rfl) (by kernel_rfl) (by kernel_rfl) (fun _ _ _ h => h) (Or.inl ⟨by rfl, ?_⟩) (by assumption) ?_
  · intro wq hS
    go_simp
  try simp only [Act.put, List.setIfInBounds_toArray, List.set_cons_zero, List.set_cons_succ]
  refine wpAnyH_ready (rs := [12]) (by kernel_rfl) (by simp) ?_
  refine AllReadyH.cons (by exact rfl) (fun K hK => ?_) AllReadyH.nil
  go_simp
  have V := Vz.set 0 (.int .i64 (10 * u1 + ((s[2].toNat : Int) - 48)))
  have HB3 : Hid (Below w.heap.size w (wz.setCell ⟨p, 0, none⟩ (.int .i64 (10 * u1 + ((s[2].toNat : Int) - 48))))) := Below.setCell hHeld HP.out _
  refine hK.out _ _ HB3.out (fun hHeld => ?_)
  try simp only [Act.put, List.setIfInBounds_toArray, List.set_cons_zero, List.set_cons_succ]
  clear hK K hHeld Vz hc hf
  refine wpAnyH_done (by kernel_rfl) ?_ _
  refine NoPanic.normal ?_
  simp only [List.set_cons_zero, List.set_cons_succ] at V
  generalize wz.setCell ⟨p, 0, none⟩ (.int .i64 (10 * u1 + ((s[2].toNat : Int) - 48))) = w3 at *
  obtain ⟨u2, e2⟩ : ∃ x : Int, x = 10 * u1 + ((s[2].toNat : Int) - 48) := ⟨_, rfl⟩
  rw [← e2] at V
  try simp only [← e2]
  have V3 := (show Hid _ from V)
  have bl2 : 0 ≤ u2 := by omega
  have bu2 : u2 ≤ 999 := by omega
  have E2 := (show Hid _ from e2)
  have G2 := (show Hid _ from g2)
  clear V e2 g2 ga gb
  go_wp2_with fail
  rw [rounds_succ]
  have g3 := G3.out
  obtain ⟨ga, gb⟩ := id g3
  go_upto_region 8 with fail
  refine wp_region_noPanic ?_
  refine wp_region_held_drew (S := fun w' => Below w.heap.size w w') (by kernel_rfl) HB3.out.drew (fun hHeld => ?_)
  have Vz := V3.out.drew
  clear V3 HB3
  generalize w3.drew = wz at *
  have hc := Vz.cell 0 (v := .int .i64 u2) rfl
  have hf := Vz.free 0
  refine takeD 0 17 (.int .i64 0) (by exact rfl) rfl (by kernel_rfl) (by kernel_rfl) (by kernel_rfl) (fun _ _ _ h => h) (Or.inl ⟨by rfl, ?_⟩) (by assumption) ?_
  · intro wq hS
    go_simp
  try simp only [Act.put, List.setIfInBounds_toArray, List.set_cons_zero, List.set_cons_succ]
  refine takeD 1 18 (.int .i64 0) (by exact rfl) rfl (by kernel_rfl) (by kernel_rfl) (by kernel_rfl) (fun _ _ _ h => h) (Or.inl ⟨by rfl, ?_⟩) (by assumption) ?_
  · intro wq hS
    go_simp
  try simp only [Act.put, List.setIfInBounds_toArray, List.set_cons_zero, List.set_cons_succ]
  refine takeD 2 19 (.pointer (some ⟨p, 0, none⟩)) (by exact rfl) rfl (by kernel_rfl) (by kernel_rfl) (by kernel_rfl) (fun _ _ _ h => h) (Or.inl ⟨by rfl, ?_⟩) (by assumption) ?_
  · intro wq hS
    go_simp
  try simp only [Act.put, List.setIfInBounds_toArray, List.set_cons_zero, List.set_cons_succ]
  refine takeD 5 22 (.string s) (by exact rfl) rfl (by kernel_rfl) (by kernel_rfl) (by kernel_rfl) (fun _ _ _ h => h) (Or.inl ⟨by rfl, ?_⟩) (by assumption) ?_
  · intro wq hS
    go_simp
  try simp only [Act.put, List.setIfInBounds_toArray, List.set_cons_zero, List.set_cons_succ]
  refine takeD 6 23 (.int .i64 3) (by exact rfl) rfl (by kernel_rfl) (by kernel_rfl) (by kernel_rfl) (fun _ _ _ h => h) (Or.inl ⟨by rfl, ?_⟩) (by assumption) ?_
  · intro wq hS
    go_simp
  try simp only [Act.put, List.setIfInBounds_toArray, List.set_cons_zero, List.set_cons_succ]
  refine takeD 7 24 (.int .u8 (s[3].toNat : Int)) (by exact rfl) rfl (by kernel_rfl) (by kernel_rfl) (by kernel_rfl) (fun _ _ _ h => h) (Or.inl ⟨by rfl, ?_⟩) (by assumption) ?_
  · intro wq hS
    go_simp
  try simp only [Act.put, List.setIfInBounds_toArray, List.set_cons_zero, List.set_cons_succ]
  refine takeD 8 25 (.int .u8 ((s[3].toNat : Int) - 48)) (by exact rfl) rfl (by kernel_rfl) (by kernel_rfl) (by kernel_rfl) (fun _ _ _ h => h) (Or.inl ⟨by rfl, ?_⟩) (by assumption) ?_
  · intro wq hS
    go_simp
    first | rfl | exact wU8 (by omega) (by omega) | exact wI64 (by omega) (by omega)
  try simp only [Act.put, List.setIfInBounds_toArray, List.set_cons_zero, List.set_cons_succ]
  refine takeD 9 26 (.int .i64 ((s[3].toNat : Int) - 48)) (by exact rfl) rfl (by kernel_rfl) (by kernel_rfl) (by kernel_rfl) (fun _ _ _ h => h) (Or.inl ⟨by rfl, ?_⟩) (by assumption) ?_
  · intro wq hS
    go_simp
    first | rfl | exact wU8 (by omega) (by omega) | exact wI64 (by omega) (by omega)
  try simp only [Act.put, List.setIfInBounds_toArray, List.set_cons_zero, List.set_cons_succ]
  refine wpAnyH_ready (rs := [3]) (by kernel_rfl) (by simp) ?_
  refine AllReadyH.cons (by exact rfl) (fun K hK => ?_) AllReadyH.nil
  go_simp
  refine hK.out _ _ hHeld (fun hHeld => ?_)
  try simp only [Act.put, List.setIfInBounds_toArray, List.set_cons_zero, List.set_cons_succ]
  clear hK K
  refine takeD 4 21 (.int .i64 (10 * u2)) (by exact rfl) rfl (by kernel_rfl) (by kernel_rfl) (by kernel_rfl) (fun _ _ _ h => h) (Or.inl ⟨by rfl, ?_⟩) (by assumption) ?_
  · intro wq hS
    go_simp
    first | rfl | exact wU8 (by omega) (by omega) | exact wI64 (by omega) (by omega)
  try simp only [Act.put, List.setIfInBounds_toArray, List.set_cons_zero, List.set_cons_succ]
  refine takeD 10 27 (.int .i64 (10 * u2 + ((s[3].toNat : Int) - 48))) (by exact rfl) rfl (by kernel_rfl) (by kernel_rfl) (by kernel_rfl) (fun _ _ _ h => h) (Or.inl ⟨by rfl, ?_⟩) (by assumption) ?_
  · intro wq hS
    go_simp
    first | rfl | exact wU8 (by omega) (by omega) | exact wI64 (by omega) (by omega)
  try simp only [Act.put, List.setIfInBounds_toArray, List.set_cons_zero, List.set_cons_succ]
  refine takeD 11 28 (.pointer (some ⟨p, 0, none⟩)) (by exact rfl) rfl (by kernel_rfl) (by kernel_rfl) (by kernel_rfl) (fun _ _ _ h => h) (Or.inl ⟨by rfl, ?_⟩) (by assumption) ?_
  · intro wq hS
    go_simp
  try simp only [Act.put, List.setIfInBounds_toArray, List.set_cons_zero, List.set_cons_succ]
  refine wpAnyH_ready (rs := [12]) (by kernel_rfl) (by simp) ?_
  refine AllReadyH.cons (by exact rfl) (fun K hK => ?_) AllReadyH.nil
  go_simp
  have V := Vz.set 0 (.int .i64 (10 * u2 + ((s[3].toNat : Int) - 48)))
  have HB4 : Hid (Below w.heap.size w (wz.setCell ⟨p, 0, none⟩ (.int .i64 (10 * u2 + ((s[3].toNat : Int) - 48))))) := Below.setCell hHeld HP.out _
  refine hK.out _ _ HB4.out (fun hHeld => ?_)
  try simp only [Act.put, List.setIfInBounds_toArray, List.set_cons_zero, List.set_cons_succ]
  clear hK K hHeld Vz hc hf
  refine wpAnyH_done (by kernel_rfl) ?_ _
  refine NoPanic.normal ?_
  simp only [List.set_cons_zero, List.set_cons_succ] at V
  generalize wz.setCell ⟨p, 0, none⟩ (.int .i64 (10 * u2 + ((s[3].toNat : Int) - 48))) = w4 at *
  obtain ⟨u3, e3⟩ : ∃ x : Int, x = 10 * u2 + ((s[3].toNat : Int) - 48) := ⟨_, rfl⟩
  rw [← e3] at V
  try simp only [← e3]
  have V4 := (show Hid _ from V)
  have bl3 : 0 ≤ u3 := by omega
  have bu3 : u3 ≤ 9999 := by omega
  have E3 := (show Hid _ from e3)
  have G3 := (show Hid _ from g3)
  clear V e3 g3 ga gb
  go_wp2_with fail
  rw [rounds_succ]
  have g4 := G4.out
  go_wp2_with fail
  have G4 := (show Hid _ from g4)
  clear g4
  rw [rounds_succ]
  have g5 := G5.out
  obtain ⟨ga, gb⟩ := id g5
  go_upto_region 8 with fail
  refine wp_region_noPanic ?_
  refine wp_region_held_drew (S := fun w' => Below w.heap.size w w') (by kernel_rfl) HB4.out.drew (fun hHeld => ?_)
  have Vz := V4.out.drew
  clear V4 HB4
  generalize w4.drew = wz at *
  have hc := Vz.cell 1 (v := .int .i64 0) rfl
  have hf := Vz.free 1
  refine takeD 0 17 (.int .i64 1) (by exact rfl) rfl (by kernel_rfl) (by kernel_rfl) (by kernel_rfl) (fun _ _ _ h => h) (Or.inl ⟨by rfl, ?_⟩) (by assumption) ?_
  · intro wq hS
    go_simp
  try simp only [Act.put, List.setIfInBounds_toArray, List.set_cons_zero, List.set_cons_succ]
  refine takeD 1 18 (.int .i64 1) (by exact rfl) rfl (by kernel_rfl) (by kernel_rfl) (by kernel_rfl) (fun _ _ _ h => h) (Or.inl ⟨by rfl, ?_⟩) (by assumption) ?_
  · intro wq hS
    go_simp
  try simp only [Act.put, List.setIfInBounds_toArray, List.set_cons_zero, List.set_cons_succ]
  refine takeD 2 19 (.pointer (some ⟨p, 1, none⟩)) (by exact rfl) rfl (by kernel_rfl) (by kernel_rfl) (by kernel_rfl) (fun _ _ _ h => h) (Or.inl ⟨by rfl, ?_⟩) (by assumption) ?_
  · intro wq hS
    go_simp
  try simp only [Act.put, List.setIfInBounds_toArray, List.set_cons_zero, List.set_cons_succ]
  refine takeD 5 22 (.string s) (by exact rfl) rfl (by kernel_rfl) (by kernel_rfl) (by kernel_rfl) (fun _ _ _ h => h) (Or.inl ⟨by rfl, ?_⟩) (by assumption) ?_
  · intro wq hS
    go_simp
  try simp only [Act.put, List.setIfInBounds_toArray, List.set_cons_zero, List.set_cons_succ]
  refine takeD 6 23 (.int .i64 5) (by exact rfl) rfl (by kernel_rfl) (by kernel_rfl) (by kernel_rfl) (fun _ _ _ h => h) (Or.inl ⟨by rfl, ?_⟩) (by assumption) ?_
  · intro wq hS
    go_simp
  try simp only [Act.put, List.setIfInBounds_toArray, List.set_cons_zero, List.set_cons_succ]
  refine takeD 7 24 (.int .u8 (s[5].toNat : Int)) (by exact rfl) rfl (by kernel_rfl) (by kernel_rfl) (by kernel_rfl) (fun _ _ _ h => h) (Or.inl ⟨by rfl, ?_⟩) (by assumption) ?_
  · intro wq hS
    go_simp
  try simp only [Act.put, List.setIfInBounds_toArray, List.set_cons_zero, List.set_cons_succ]
  refine takeD 8 25 (.int .u8 ((s[5].toNat : Int) - 48)) (by exact rfl) rfl (by kernel_rfl) (by kernel_rfl) (by kernel_rfl) (fun _ _ _ h => h) (Or.inl ⟨by rfl, ?_⟩) (by assumption) ?_
  · intro wq hS
    go_simp
    first | rfl | exact wU8 (by omega) (by omega) | exact wI64 (by omega) (by omega)
  try simp only [Act.put, List.setIfInBounds_toArray, List.set_cons_zero, List.set_cons_succ]
  refine takeD 9 26 (.int .i64 ((s[5].toNat : Int) - 48)) (by exact rfl) rfl (by kernel_rfl) (by kernel_rfl) (by kernel_rfl) (fun _ _ _ h => h) (Or.inl ⟨by rfl, ?_⟩) (by assumption) ?_
  · intro wq hS
    go_simp
    first | rfl | exact wU8 (by omega) (by omega) | exact wI64 (by omega) (by omega)
  try simp only [Act.put, List.setIfInBounds_toArray, List.set_cons_zero, List.set_cons_succ]
  refine wpAnyH_ready (rs := [3]) (by kernel_rfl) (by simp) ?_
  refine AllReadyH.cons (by exact rfl) (fun K hK => ?_) AllReadyH.nil
  go_simp
  refine hK.out _ _ hHeld (fun hHeld => ?_)
  try simp only [Act.put, List.setIfInBounds_toArray, List.set_cons_zero, List.set_cons_succ]
  clear hK K
  refine takeD 4 21 (.int .i64 (0)) (by exact rfl) rfl (by kernel_rfl) (by kernel_rfl) (by kernel_rfl) (fun _ _ _ h => h) (Or.inl ⟨by rfl, ?_⟩) (by assumption) ?_
  · intro wq hS
    go_simp
    first | rfl | exact wU8 (by omega) (by omega) | exact wI64 (by omega) (by omega)
  try simp only [Act.put, List.setIfInBounds_toArray, List.set_cons_zero, List.set_cons_succ]
  refine takeD 10 27 (.int .i64 ((s[5].toNat : Int) - 48)) (by exact rfl) rfl (by kernel_rfl) (by kernel_rfl) (by kernel_rfl) (fun _ _ _ h => h) (Or.inl ⟨by rfl, ?_⟩) (by assumption) ?_
  · intro wq hS
    go_simp
    first | rfl | exact wU8 (by omega) (by omega) | exact wI64 (by omega) (by omega)
  try simp only [Act.put, List.setIfInBounds_toArray, List.set_cons_zero, List.set_cons_succ]
  refine takeD 11 28 (.pointer (some ⟨p, 1, none⟩)) (by exact rfl) rfl (by kernel_rfl) (by kernel_rfl) (by kernel_rfl) (fun _ _ _ h => h) (Or.inl ⟨by rfl, ?_⟩) (by assumption) ?_
  · intro wq hS
    go_simp
  try simp only [Act.put, List.setIfInBounds_toArray, List.set_cons_zero, List.set_cons_succ]
  refine wpAnyH_ready (rs := [12]) (by kernel_rfl) (by simp) ?_
  refine AllReadyH.cons (by exact rfl) (fun K hK => ?_) AllReadyH.nil
  go_simp
  have V := Vz.set 1 (.int .i64 ((s[5].toNat : Int) - 48))
  have HB5 : Hid (Below w.heap.size w (wz.setCell ⟨p, 1, none⟩ (.int .i64 ((s[5].toNat : Int) - 48)))) := Below.setCell hHeld HP.out _
  refine hK.out _ _ HB5.out (fun hHeld => ?_)
  try simp only [Act.put, List.setIfInBounds_toArray, List.set_cons_zero, List.set_cons_succ]
  clear hK K hHeld Vz hc hf
  refine wpAnyH_done (by kernel_rfl) ?_ _
  refine NoPanic.normal ?_
  simp only [List.set_cons_zero, List.set_cons_succ] at V
  generalize wz.setCell ⟨p, 1, none⟩ (.int .i64 ((s[5].toNat : Int) - 48)) = w5 at *
  obtain ⟨u5, e5⟩ : ∃ x : Int, x = (s[5].toNat : Int) - 48 := ⟨_, rfl⟩
  rw [← e5] at V
  try simp only [← e5]
  have V5 := (show Hid _ from V)
  have bl5 : 0 ≤ u5 := by omega
  have bu5 : u5 ≤ 9 := by omega
  have E5 := (show Hid _ from e5)
  have G5 := (show Hid _ from g5)
  clear V e5 g5 ga gb
  go_wp2_with fail
  rw [rounds_succ]
  have g6 := G6.out
  obtain ⟨ga, gb⟩ := id g6
  go_upto_region 8 with fail
  refine wp_region_noPanic ?_
  refine wp_region_held_drew (S := fun w' => Below w.heap.size w w') (by kernel_rfl) HB5.out.drew (fun hHeld => ?_)
  have Vz := V5.out.drew
  clear V5 HB5
  generalize w5.drew = wz at *
  have hc := Vz.cell 1 (v := .int .i64 u5) rfl
  have hf := Vz.free 1
  refine takeD 0 17 (.int .i64 1) (by exact rfl) rfl (by kernel_rfl) (by kernel_rfl) (by kernel_rfl) (fun _ _ _ h => h) (Or.inl ⟨by rfl, ?_⟩) (by assumption) ?_
  · intro wq hS
    go_simp
  try simp only [Act.put, List.setIfInBounds_toArray, List.set_cons_zero, List.set_cons_succ]
  refine takeD 1 18 (.int .i64 1) (by exact rfl) rfl (by kernel_rfl) (by kernel_rfl) (by kernel_rfl) (fun _ _ _ h => h) (Or.inl ⟨by rfl, ?_⟩) (by assumption) ?_
  · intro wq hS
    go_simp
  try simp only [Act.put, List.setIfInBounds_toArray, List.set_cons_zero, List.set_cons_succ]
  refine takeD 2 19 (.pointer (some ⟨p, 1, none⟩)) (by exact rfl) rfl (by kernel_rfl) (by kernel_rfl) (by kernel_rfl) (fun _ _ _ h => h) (Or.inl ⟨by rfl, ?_⟩) (by assumption) ?_
  · intro wq hS
    go_simp
  try simp only [Act.put, List.setIfInBounds_toArray, List.set_cons_zero, List.set_cons_succ]
  refine takeD 5 22 (.string s) (by exact rfl) rfl (by kernel_rfl) (by kernel_rfl) (by kernel_rfl) (fun _ _ _ h => h) (Or.inl ⟨by rfl, ?_⟩) (by assumption) ?_
  · intro wq hS
    go_simp
  try simp only [Act.put, List.setIfInBounds_toArray, List.set_cons_zero, List.set_cons_succ]
  refine takeD 6 23 (.int .i64 6) (by exact rfl) rfl (by kernel_rfl) (by kernel_rfl) (by kernel_rfl) (fun _ _ _ h => h) (Or.inl ⟨by rfl, ?_⟩) (by assumption) ?_
  · intro wq hS
    go_simp
  try simp only [Act.put, List.setIfInBounds_toArray, List.set_cons_zero, List.set_cons_succ]
  refine takeD 7 24 (.int .u8 (s[6].toNat : Int)) (by exact rfl) rfl (by kernel_rfl) (by kernel_rfl) (by kernel_rfl) (fun _ _ _ h => h) (Or.inl ⟨by rfl, ?_⟩) (by assumption) ?_
  · intro wq hS
    go_simp
  try simp only [Act.put, List.setIfInBounds_toArray, List.set_cons_zero, List.set_cons_succ]
  refine takeD 8 25 (.int .u8 ((s[6].toNat : Int) - 48)) (by exact rfl) rfl (by kernel_rfl) (by kernel_rfl) (by kernel_rfl) (fun _ _ _ h => h) (Or.inl ⟨by rfl, ?_⟩) (by assumption) ?_
  · intro wq hS
    go_simp
    first | rfl | exact wU8 (by omega) (by omega) | exact wI64 (by omega) (by omega)
  try simp only [Act.put, List.setIfInBounds_toArray, List.set_cons_zero, List.set_cons_succ]
  refine takeD 9 26 (.int .i64 ((s[6].toNat : Int) - 48)) (by exact rfl) rfl (by kernel_rfl) (by kernel_rfl) (by kernel_rfl) (fun _ _ _ h => h) (Or.inl ⟨by rfl, ?_⟩) (by assumption) ?_
  · intro wq hS
    go_simp
    first | rfl | exact wU8 (by omega) (by omega) | exact wI64 (by omega) (by omega)
  try simp only [Act.put, List.setIfInBounds_toArray, List.set_cons_zero, List.set_cons_succ]
  refine wpAnyH_ready (rs := [3]) (by kernel_rfl) (by simp) ?_
  refine AllReadyH.cons (by exact rfl) (fun K hK => ?_) AllReadyH.nil
  go_simp
  refine hK.out _ _ hHeld (fun hHeld => ?_)
  try simp only [Act.put, List.setIfInBounds_toArray, List.set_cons_zero, List.set_cons_succ]
  clear hK K
  refine takeD 4 21 (.int .i64 (10 * u5)) (by exact rfl) rfl (by kernel_rfl) (by kernel_rfl) (by kernel_rfl) (fun _ _ _ h => h) (Or.inl ⟨by rfl, ?_⟩) (by assumption) ?_
  · intro wq hS
    go_simp
    first | rfl | exact wU8 (by omega) (by omega) | exact wI64 (by omega) (by omega)
  try simp only [Act.put, List.setIfInBounds_toArray, List.set_cons_zero, List.set_cons_succ]
  refine takeD 10 27 (.int .i64 (10 * u5 + ((s[6].toNat : Int) - 48))) (by exact rfl) rfl (by kernel_rfl) (by kernel_rfl) (by kernel_rfl) (fun _ _ _ h => h) (Or.inl ⟨by rfl, ?_⟩) (by assumption) ?_
  · intro wq hS
    go_simp
    first | rfl | exact wU8 (by omega) (by omega) | exact wI64 (by omega) (by omega)
  try simp only [Act.put, List.setIfInBounds_toArray, List.set_cons_zero, List.set_cons_succ]
  refine takeD 11 28 (.pointer (some ⟨p, 1, none⟩)) (by exact rfl) rfl (by kernel_rfl) (by kernel_rfl) (by kernel_rfl) (fun _ _ _ h => h) (Or.inl ⟨by rfl, ?_⟩) (by assumption) ?_
  · intro wq hS
    go_simp
  try simp only [Act.put, List.setIfInBounds_toArray, List.set_cons_zero, List.set_cons_succ]
  refine wpAnyH_ready (rs := [12]) (by kernel_rfl) (by simp) ?_
  refine AllReadyH.cons (by exact rfl) (fun K hK => ?_) AllReadyH.nil
  go_simp
  have V := Vz.set 1 (.int .i64 (10 * u5 + ((s[6].toNat : Int) - 48)))
  have HB6 : Hid (Below w.heap.size w (wz.setCell ⟨p, 1, none⟩ (.int .i64 (10 * u5 + ((s[6].toNat : Int) - 48))))) := Below.setCell hHeld HP.out _
  refine hK.out _ _ HB6.out (fun hHeld => ?_)
  try simp only [Act.put, List.setIfInBounds_toArray, List.set_cons_zero, List.set_cons_succ]
  clear hK K hHeld Vz hc hf
  refine wpAnyH_done (by kernel_rfl) ?_ _
  refine NoPanic.normal ?_
  simp only [List.set_cons_zero, List.set_cons_succ] at V
  generalize wz.setCell ⟨p, 1, none⟩ (.int .i64 (10 * u5 + ((s[6].toNat : Int) - 48))) = w6 at *
  obtain ⟨u6, e6⟩ : ∃ x : Int, x = 10 * u5 + ((s[6].toNat : Int) - 48) := ⟨_, rfl⟩
  rw [← e6] at V
  try simp only [← e6]
  have V6 := (show Hid _ from V)
  have bl6 : 0 ≤ u6 := by omega
  have bu6 : u6 ≤ 99 := by omega
  have E6 := (show Hid _ from e6)
  have G6 := (show Hid _ from g6)
  clear V e6 g6 ga gb
  go_wp2_with fail
  rw [rounds_succ]
  have g7 := G7.out
  go_wp2_with fail
  have G7 := (show Hid _ from g7)
  clear g7
  rw [rounds_succ]
  have g8 := G8.out
  obtain ⟨ga, gb⟩ := id g8
  go_upto_region 8 with fail
  refine wp_region_noPanic ?_
  refine wp_region_held_drew (S := fun w' => Below w.heap.size w w') (by kernel_rfl) HB6.out.drew (fun hHeld => ?_)
  have Vz := V6.out.drew
  clear V6 HB6
  generalize w6.drew = wz at *
  have hc := Vz.cell 2 (v := .int .i64 0) rfl
  have hf := Vz.free 2
  refine takeD 0 17 (.int .i64 2) (by exact rfl) rfl (by kernel_rfl) (by kernel_rfl) (by kernel_rfl) (fun _ _ _ h => h) (Or.inl ⟨by rfl, ?_⟩) (by assumption) ?_
  · intro wq hS
    go_simp
  try simp only [Act.put, List.setIfInBounds_toArray, List.set_cons_zero, List.set_cons_succ]
  refine takeD 1 18 (.int .i64 2) (by exact rfl) rfl (by kernel_rfl) (by kernel_rfl) (by kernel_rfl) (fun _ _ _ h => h) (Or.inl ⟨by rfl, ?_⟩) (by assumption) ?_
  · intro wq hS
    go_simp
  try simp only [Act.put, List.setIfInBounds_toArray, List.set_cons_zero, List.set_cons_succ]
  refine takeD 2 19 (.pointer (some ⟨p, 2, none⟩)) (by exact rfl) rfl (by kernel_rfl) (by kernel_rfl) (by kernel_rfl) (fun _ _ _ h => h) (Or.inl ⟨by rfl, ?_⟩) (by assumption) ?_
  · intro wq hS
    go_simp
  try simp only [Act.put, List.setIfInBounds_toArray, List.set_cons_zero, List.set_cons_succ]
  refine takeD 5 22 (.string s) (by exact rfl) rfl (by kernel_rfl) (by kernel_rfl) (by kernel_rfl) (fun _ _ _ h => h) (Or.inl ⟨by rfl, ?_⟩) (by assumption) ?_
  · intro wq hS
    go_simp
  try simp only [Act.put, List.setIfInBounds_toArray, List.set_cons_zero, List.set_cons_succ]
  refine takeD 6 23 (.int .i64 8) (by exact rfl) rfl (by kernel_rfl) (by kernel_rfl) (by kernel_rfl) (fun _ _ _ h => h) (Or.inl ⟨by rfl, ?_⟩) (by assumption) ?_
  · intro wq hS
    go_simp
  try simp only [Act.put, List.setIfInBounds_toArray, List.set_cons_zero, List.set_cons_succ]
  refine takeD 7 24 (.int .u8 (s[8].toNat : Int)) (by exact rfl) rfl (by kernel_rfl) (by kernel_rfl) (by kernel_rfl) (fun _ _ _ h => h) (Or.inl ⟨by rfl, ?_⟩) (by assumption) ?_
  · intro wq hS
    go_simp
  try simp only [Act.put, List.setIfInBounds_toArray, List.set_cons_zero, List.set_cons_succ]
  refine takeD 8 25 (.int .u8 ((s[8].toNat : Int) - 48)) (by exact rfl) rfl (by kernel_rfl) (by kernel_rfl) (by kernel_rfl) (fun _ _ _ h => h) (Or.inl ⟨by rfl, ?_⟩) (by assumption) ?_
  · intro wq hS
    go_simp
    first | rfl | exact wU8 (by omega) (by omega) | exact wI64 (by omega) (by omega)
  try simp only [Act.put, List.setIfInBounds_toArray, List.set_cons_zero, List.set_cons_succ]
  refine takeD 9 26 (.int .i64 ((s[8].toNat : Int) - 48)) (by exact rfl) rfl (by kernel_rfl) (by kernel_rfl) (by kernel_rfl) (fun _ _ _ h => h) (Or.inl ⟨by rfl, ?_⟩) (by assumption) ?_
  · intro wq hS
    go_simp
    first | rfl | exact wU8 (by omega) (by omega) | exact wI64 (by omega) (by omega)
  try simp only [Act.put, List.setIfInBounds_toArray, List.set_cons_zero, List.set_cons_succ]
  refine wpAnyH_ready (rs := [3]) (by kernel_rfl) (by simp) ?_
  refine AllReadyH.cons (by exact rfl) (fun K hK => ?_) AllReadyH.nil
  go_simp
  refine hK.out _ _ hHeld (fun hHeld => ?_)
  try simp only [Act.put, List.setIfInBounds_toArray, List.set_cons_zero, List.set_cons_succ]
  clear hK K
  refine takeD 4 21 (.int .i64 (0)) (by exact rfl) rfl (by kernel_rfl) (by kernel_rfl) (by kernel_rfl) (fun _ _ _ h => h) (Or.inl ⟨by rfl, ?_⟩) (by assumption) ?_
  · intro wq hS
    go_simp
    first | rfl | exact wU8 (by omega) (by omega) | exact wI64 (by omega) (by omega)
  try simp only [Act.put, List.setIfInBounds_toArray, List.set_cons_zero, List.set_cons_succ]
  refine takeD 10 27 (.int .i64 ((s[8].toNat : Int) - 48)) (by exact rfl) rfl (by kernel_rfl) (by kernel_rfl) (by kernel_rfl) (fun _ _ _ h => h) (Or.inl ⟨by rfl, ?_⟩) (by assumption) ?_
  · intro wq hS
    go_simp
    first | rfl | exact wU8 (by omega) (by omega) | exact wI64 (by omega) (by omega)
  try simp only [Act.put, List.setIfInBounds_toArray, List.set_cons_zero, List.set_cons_succ]
  refine takeD 11 28 (.pointer (some ⟨p, 2, none⟩)) (by exact rfl) rfl (by kernel_rfl) (by kernel_rfl) (by kernel_rfl) (fun _ _ _ h => h) (Or.inl ⟨by rfl, ?_⟩) (by assumption) ?_
  · intro wq hS
    go_simp
  try simp only [Act.put, List.setIfInBounds_toArray, List.set_cons_zero, List.set_cons_succ]
  refine wpAnyH_ready (rs := [12]) (by kernel_rfl) (by simp) ?_
  refine AllReadyH.cons (by exact rfl) (fun K hK => ?_) AllReadyH.nil
  go_simp
  have V := Vz.set 2 (.int .i64 ((s[8].toNat : Int) - 48))
  have HB7 : Hid (Below w.heap.size w (wz.setCell ⟨p, 2, none⟩ (.int .i64 ((s[8].toNat : Int) - 48)))) := Below.setCell hHeld HP.out _
  refine hK.out _ _ HB7.out (fun hHeld => ?_)
  try simp only [Act.put, List.setIfInBounds_toArray, List.set_cons_zero, List.set_cons_succ]
  clear hK K hHeld Vz hc hf
  refine wpAnyH_done (by kernel_rfl) ?_ _
  refine NoPanic.normal ?_
  simp only [List.set_cons_zero, List.set_cons_succ] at V
  generalize wz.setCell ⟨p, 2, none⟩ (.int .i64 ((s[8].toNat : Int) - 48)) = w7 at *
  obtain ⟨u8, e8⟩ : ∃ x : Int, x = (s[8].toNat : Int) - 48 := ⟨_, rfl⟩
  rw [← e8] at V
  try simp only [← e8]
  have V7 := (show Hid _ from V)
  have bl8 : 0 ≤ u8 := by omega
  have bu8 : u8 ≤ 9 := by omega
  have E8 := (show Hid _ from e8)
  have G8 := (show Hid _ from g8)
  clear V e8 g8 ga gb
  go_wp2_with fail
  rw [rounds_succ]
  have g9 := G9.out
  obtain ⟨ga, gb⟩ := id g9
  go_upto_region 8 with fail
  refine wp_region_noPanic ?_
  refine wp_region_held_drew (S := fun w' => Below w.heap.size w w') (by kernel_rfl) HB7.out.drew (fun hHeld => ?_)
  have Vz := V7.out.drew
  clear V7 HB7
  generalize w7.drew = wz at *
  have hc := Vz.cell 2 (v := .int .i64 u8) rfl
  have hf := Vz.free 2
  refine takeD 0 17 (.int .i64 2) (by exact rfl) rfl (by kernel_rfl) (by kernel_rfl) (by kernel_rfl) (fun _ _ _ h => h) (Or.inl ⟨by rfl, ?_⟩) (by assumption) ?_
  · intro wq hS
    go_simp
  try simp only [Act.put, List.setIfInBounds_toArray, List.set_cons_zero, List.set_cons_succ]
  refine takeD 1 18 (.int .i64 2) (by exact rfl) rfl (by kernel_rfl) (by kernel_rfl) (by kernel_rfl) (fun _ _ _ h => h) (Or.inl ⟨by rfl, ?_⟩) (by assumption) ?_
  · intro wq hS
    go_simp
  try simp only [Act.put, List.setIfInBounds_toArray, List.set_cons_zero, List.set_cons_succ]
  refine takeD 2 19 (.pointer (some ⟨p, 2, none⟩)) (by exact rfl) rfl (by kernel_rfl) (by kernel_rfl) (by kernel_rfl) (fun _ _ _ h => h) (Or.inl ⟨by rfl, ?_⟩) (by assumption) ?_
  · intro wq hS
    go_simp
  try simp only [Act.put, List.setIfInBounds_toArray, List.set_cons_zero, List.set_cons_succ]
  refine takeD 5 22 (.string s) (by exact rfl) rfl (by kernel_rfl) (by kernel_rfl) (by kernel_rfl) (fun _ _ _ h => h) (Or.inl ⟨by rfl, ?_⟩) (by assumption) ?_
  · intro wq hS
    go_simp
  try simp only [Act.put, List.setIfInBounds_toArray, List.set_cons_zero, List.set_cons_succ]
  refine takeD 6 23 (.int .i64 9) (by exact rfl) rfl (by kernel_rfl) (by kernel_rfl) (by kernel_rfl) (fun _ _ _ h => h) (Or.inl ⟨by rfl, ?_⟩) (by assumption) ?_
  · intro wq hS
    go_simp
  try simp only [Act.put, List.setIfInBounds_toArray, List.set_cons_zero, List.set_cons_succ]
  refine takeD 7 24 (.int .u8 (s[9].toNat : Int)) (by exact rfl) rfl (by kernel_rfl) (by kernel_rfl) (by kernel_rfl) (fun _ _ _ h => h) (Or.inl ⟨by rfl, ?_⟩) (by assumption) ?_
  · intro wq hS
    go_simp
  try simp only [Act.put, List.setIfInBounds_toArray, List.set_cons_zero, List.set_cons_succ]
  refine takeD 8 25 (.int .u8 ((s[9].toNat : Int) - 48)) (by exact rfl) rfl (by kernel_rfl) (by kernel_rfl) (by kernel_rfl) (fun _ _ _ h => h) (Or.inl ⟨by rfl, ?_⟩) (by assumption) ?_
  · intro wq hS
    go_simp
    first | rfl | exact wU8 (by omega) (by omega) | exact wI64 (by omega) (by omega)
  try simp only [Act.put, List.setIfInBounds_toArray, List.set_cons_zero, List.set_cons_succ]
  refine takeD 9 26 (.int .i64 ((s[9].toNat : Int) - 48)) (by exact rfl) rfl (by kernel_rfl) (by kernel_rfl) (by kernel_rfl) (fun _ _ _ h => h) (Or.inl ⟨by rfl, ?_⟩) (by assumption) ?_
  · intro wq hS
    go_simp
    first | rfl | exact wU8 (by omega) (by omega) | exact wI64 (by omega) (by omega)
  try simp only [Act.put, List.setIfInBounds_toArray, List.set_cons_zero, List.set_cons_succ]
  refine wpAnyH_ready (rs := [3]) (by kernel_rfl) (by simp) ?_
  refine AllReadyH.cons (by exact rfl) (fun K hK => ?_) AllReadyH.nil
  go_simp
  refine hK.out _ _ hHeld (fun hHeld => ?_)
  try simp only [Act.put, List.setIfInBounds_toArray, List.set_cons_zero, List.set_cons_succ]
  clear hK K
  refine takeD 4 21 (.int .i64 (10 * u8)) (by exact rfl) rfl (by kernel_rfl) (by kernel_rfl) (by kernel_rfl) (fun _ _ _ h => h) (Or.inl ⟨by rfl, ?_⟩) (by assumption) ?_
  · intro wq hS
    go_simp
    first | rfl | exact wU8 (by omega) (by omega) | exact wI64 (by omega) (by omega)
  try simp only [Act.put, List.setIfInBounds_toArray, List.set_cons_zero, List.set_cons_succ]
  refine takeD 10 27 (.int .i64 (10 * u8 + ((s[9].toNat : Int) - 48))) (by exact rfl) rfl (by kernel_rfl) (by kernel_rfl) (by kernel_rfl) (fun _ _ _ h => h) (Or.inl ⟨by rfl, ?_⟩) (by assumption) ?_
  · intro wq hS
    go_simp
    first | rfl | exact wU8 (by omega) (by omega) | exact wI64 (by omega) (by omega)
  try simp only [Act.put, List.setIfInBounds_toArray, List.set_cons_zero, List.set_cons_succ]
  refine takeD 11 28 (.pointer (some ⟨p, 2, none⟩)) (by exact rfl) rfl (by kernel_rfl) (by kernel_rfl) (by kernel_rfl) (fun _ _ _ h => h) (Or.inl ⟨by rfl, ?_⟩) (by assumption) ?_
  · intro wq hS
    go_simp
  try simp only [Act.put, List.setIfInBounds_toArray, List.set_cons_zero, List.set_cons_succ]
  refine wpAnyH_ready (rs := [12]) (by kernel_rfl) (by simp) ?_
  refine AllReadyH.cons (by exact rfl) (fun K hK => ?_) AllReadyH.nil
  go_simp
  have V := Vz.set 2 (.int .i64 (10 * u8 + ((s[9].toNat : Int) - 48)))
  have HB8 : Hid (Below w.heap.size w (wz.setCell ⟨p, 2, none⟩ (.int .i64 (10 * u8 + ((s[9].toNat : Int) - 48))))) := Below.setCell hHeld HP.out _
  refine hK.out _ _ HB8.out (fun hHeld => ?_)
  try simp only [Act.put, List.setIfInBounds_toArray, List.set_cons_zero, List.set_cons_succ]
  clear hK K hHeld Vz hc hf
  refine wpAnyH_done (by kernel_rfl) ?_ _
  refine NoPanic.normal ?_
  simp only [List.set_cons_zero, List.set_cons_succ] at V
  generalize wz.setCell ⟨p, 2, none⟩ (.int .i64 (10 * u8 + ((s[9].toNat : Int) - 48))) = w8 at *
  obtain ⟨u9, e9⟩ : ∃ x : Int, x = 10 * u8 + ((s[9].toNat : Int) - 48) := ⟨_, rfl⟩
  rw [← e9] at V
  try simp only [← e9]
  have V8 := (show Hid _ from V)
  have bl9 : 0 ≤ u9 := by omega
  have bu9 : u9 ≤ 99 := by omega
  have E9 := (show Hid _ from e9)
  have G9 := (show Hid _ from g9)
  clear V e9 g9 ga gb
  go_wp2_with fail
  rw [rounds_succ]
  have V := V8.out
  have ca := V.cell 0 (v := .int .i64 u3) rfl
  have cb := V.cell 1 (v := .int .i64 u6) rfl
  have cc := V.cell 2 (v := .int .i64 u9) rfl
  have eY : u3 = Y := by
    have c := HC.out
    have e0 := E0.out
    have e1 := E1.out
    have e2 := E2.out
    have e3 := E3.out
    have g0 := G0.out
    have g1 := G1.out
    have g2 := G2.out
    have g3 := G3.out
    have hy := HY.out
    simp only [dv, Nat.add_zero, Nat.zero_add] at hy
    omega
  have eM : u6 = M := by
    have c := HC.out
    have e0 := E5.out
    have e1 := E6.out
    have g0 := G5.out
    have g1 := G6.out
    have hy := HM.out
    simp only [dv, Nat.add_zero, Nat.reduceAdd] at hy
    omega
  have eD : u9 = D := by
    have c := HC.out
    have e0 := E8.out
    have e1 := E9.out
    have g0 := G8.out
    have g1 := G9.out
    have hy := HD.out
    simp only [dv, Nat.add_zero, Nat.reduceAdd] at hy
    omega
  go_wp2_with fail
  refine (hN _).mono ?_
  rintro e wn ⟨rfl, hq⟩
  obtain rfl := hq.symm
  go_wp2_with fail
  exact bodyPost_ret (v := .tuple #[.int .i64 0, .int .i64 9]) (by simp [results, Tryd.results5, go_sem]) rfl ⟨rfl, HB8.out⟩
end Go.Proofs.YtfmmkbhaaifggaaDoor
