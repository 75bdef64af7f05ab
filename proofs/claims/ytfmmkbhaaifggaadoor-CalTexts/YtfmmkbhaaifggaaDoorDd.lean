/- Texts of days: the document's DocParse. -/
import Derived.Test.YtfmmkbhaaifggaaDoorDb
import Derived.Test.YtfmmkbhaaifggaaDoorIa
namespace Go.Proofs.YtfmmkbhaaifggaaDoor
open Go.RowKit
set_option linter.unusedVariables false
set_option linter.unusedSimpArgs false

theorem wU8 {n : Int} (h0 : 0 ≤ n) (h1 : n < 256) : IntKind.u8.wrap n = n := by
  show n % 256 = n
  omega
theorem wI64 {n : Int} (h0 : 0 ≤ n) (h1 : n < 9223372036854775808) : IntKind.i64.wrap n = n := by
  simp [IntKind.wrap, IntKind.signed, IntKind.bits]
  omega
theorem docparse_len (s : ByteArray) (w : World) (h : ¬ s.size = 10) :
    Calls Tryd.prog 5 #[.string s] w fun e w' => e = .returned (.tuple #[.int .i64 0, .int .i64 6]) ∧ Below w.heap.size w w' := by
  have h' : ¬ (s.size : Int) = 10 := by omega
  go_enter Tryd.func5, Tryd.ntmps5
  go_wp2_with fail
  exact bodyPost_ret (v := .tuple #[.int .i64 0, .int .i64 6]) (by simp [results, Tryd.results5, go_sem]) rfl ⟨rfl, Below.refl _ _⟩
set_option maxHeartbeats 4000000 in
theorem docparse_no (s : ByteArray) (w : World) (h : s.size = 10) (F : ¬ Form s) :
    Calls Tryd.prog 5 #[.string s] w fun e w' => e = .returned (.tuple #[.int .i64 0, .int .i64 6]) ∧ Below w.heap.size w w' := by
  have hI : (s.size : Int) = 10 := by omega
  have c0 : chr s 0 = (s[0].toNat : Int) := chr_at (by omega)
  have c1 : chr s 1 = (s[1].toNat : Int) := chr_at (by omega)
  have c2 : chr s 2 = (s[2].toNat : Int) := chr_at (by omega)
  have c3 : chr s 3 = (s[3].toNat : Int) := chr_at (by omega)
  have c4 : chr s 4 = (s[4].toNat : Int) := chr_at (by omega)
  have c5 : chr s 5 = (s[5].toNat : Int) := chr_at (by omega)
  have c6 : chr s 6 = (s[6].toNat : Int) := chr_at (by omega)
  have c7 : chr s 7 = (s[7].toNat : Int) := chr_at (by omega)
  have c8 : chr s 8 = (s[8].toNat : Int) := chr_at (by omega)
  have c9 : chr s 9 = (s[9].toNat : Int) := chr_at (by omega)
  have HC := (show Hid _ from And.intro c0 (And.intro c1 (And.intro c2 (And.intro c3 (And.intro c4 (And.intro c5 (And.intro c6 (And.intro c7 (And.intro c8 c9)))))))))
  clear c0 c1 c2 c3 c4 c5 c6 c7 c8 c9
  have HF : Hid (¬ Form s) := F
  clear F
  go_enter Tryd.func5, Tryd.ntmps5
  go_upto_region 4 with fail
  have V := va_new w [.int .i64 0, .int .i64 0, .int .i64 0] 36
  have BB := (Below.refl w.heap.size w).alloc (Nat.le_refl _) (.cells #[.int .i64 0, .int .i64 0, .int .i64 0] 36)
  obtain ⟨p, hp⟩ : ∃ p, p = w.heap.size := ⟨_, rfl⟩
  have HP : Hid (w.heap.size ≤ p) := (by omega : w.heap.size ≤ p)
  change VA (w.alloc (.cells #[.int .i64 0, .int .i64 0, .int .i64 0] 36)) w.heap.size _ _ at V
  generalize w.alloc (.cells #[.int .i64 0, .int .i64 0, .int .i64 0] 36) = w0 at *
  rw [← hp] at V
  simp only [← hp]
  clear hp
  have V0 := (show Hid _ from V)
  have HB0 := (show Hid _ from BB)
  clear V BB
  go_wp2_with fail
  refine wp_loop_rounds 11 ?_
  rw [rounds_succ]
  by_cases l0 : (s[0].toNat : Int) < 48
  · go_wp2_with fail
    exact bodyPost_ret (v := .tuple #[.int .i64 0, .int .i64 6]) (by simp [results, Tryd.results5, go_sem]) rfl ⟨rfl, HB0.out⟩
  by_cases u0 : 57 < (s[0].toNat : Int)
  · go_wp2_with fail
    exact bodyPost_ret (v := .tuple #[.int .i64 0, .int .i64 6]) (by simp [results, Tryd.results5, go_sem]) rfl ⟨rfl, HB0.out⟩
  have g0 : 48 ≤ (s[0].toNat : Int) ∧ (s[0].toNat : Int) ≤ 57 := by omega
  clear l0 u0
  obtain ⟨ga, gb⟩ := id g0
  go_upto_region 8 with fail
  refine wp_region_noPanic ?_
  refine wp_region_held_drew (S := fun w' => Below w.heap.size w w') (by kernel_rfl) HB0.out.drew (fun hHeld => ?_)
  have Vz := V0.out.drew
  clear V0 HB0
  generalize w0.drew = wz at *
  have hc := Vz.cell 0 (v := .int .i64 0) rfl
  have hf := Vz.free 0
  refine takeD 0 17 (.int .i64 0) (by exact rfl) rfl (by kernel_rfl) (by kernel_rfl) (by kernel_rfl) (fun _ _ _ h => h) (Or.inl ⟨by rfl, ?_⟩) (by assumption) ?_
  · intro wq hS
    go_simp
  try simp only [Act.put, List.setIfInBounds_toArray, List.set_cons_zero, List.set_cons_succ]
  refine takeD 1 18 (.int .i64 0) (by exact rfl) rfl (by kernel_rfl) (by kernel_rfl) (by kernel_rfl) (fun _ _ _ h => h) (Or.inl ⟨by rfl, ?_⟩) (by assumption) ?_
  · intro wq hS
    go_simp
  try simp only [Act.put, List.setIfInBounds_toArray, List.set_cons_zero, List.set_cons_succ]
  refine takeD 2 19 (.pointer (some ⟨p, 0, none⟩)) (by exact rfl) rfl (by kernel_rfl) (by kernel_rfl) (by kernel_rfl) (fun _ _ _ h => h) (Or.inl ⟨by rfl, ?_⟩) (by assumption) ?_
  · intro wq hS
    go_simp
  try simp only [Act.put, List.setIfInBounds_toArray, List.set_cons_zero, List.set_cons_succ]
  refine takeD 5 22 (.string s) (by exact rfl) rfl (by kernel_rfl) (by kernel_rfl) (by kernel_rfl) (fun _ _ _ h => h) (Or.inl ⟨by rfl, ?_⟩) (by assumption) ?_
  · intro wq hS
    go_simp
  try simp only [Act.put, List.setIfInBounds_toArray, List.set_cons_zero, List.set_cons_succ]
  refine takeD 6 23 (.int .i64 0) (by exact rfl) rfl (by kernel_rfl) (by kernel_rfl) (by kernel_rfl) (fun _ _ _ h => h) (Or.inl ⟨by rfl, ?_⟩) (by assumption) ?_
  · intro wq hS
    go_simp
  try simp only [Act.put, List.setIfInBounds_toArray, List.set_cons_zero, List.set_cons_succ]
  refine takeD 7 24 (.int .u8 (s[0].toNat : Int)) (by exact rfl) rfl (by kernel_rfl) (by kernel_rfl) (by kernel_rfl) (fun _ _ _ h => h) (Or.inl ⟨by rfl, ?_⟩) (by assumption) ?_
  · intro wq hS
    go_simp
  try simp only [Act.put, List.setIfInBounds_toArray, List.set_cons_zero, List.set_cons_succ]
  refine takeD 8 25 (.int .u8 ((s[0].toNat : Int) - 48)) (by exact rfl) rfl (by kernel_rfl) (by kernel_rfl) (by kernel_rfl) (fun _ _ _ h => h) (Or.inl ⟨by rfl, ?_⟩) (by assumption) ?_
  · intro wq hS
    go_simp
    first | rfl | exact wU8 (by omega) (by omega) | exact wI64 (by omega) (by omega)
  try simp only [Act.put, List.setIfInBounds_toArray, List.set_cons_zero, List.set_cons_succ]
  refine takeD 9 26 (.int .i64 ((s[0].toNat : Int) - 48)) (by exact rfl) rfl (by kernel_rfl) (by kernel_rfl) (by kernel_rfl) (fun _ _ _ h => h) (Or.inl ⟨by rfl, ?_⟩) (by assumption) ?_
  · intro wq hS
    go_simp
    first | rfl | exact wU8 (by omega) (by omega) | exact wI64 (by omega) (by omega)
  try simp only [Act.put, List.setIfInBounds_toArray, List.set_cons_zero, List.set_cons_succ]
  refine wpAnyH_ready (rs := [3]) (by kernel_rfl) (by simp) ?_
  refine AllReadyH.cons (by exact rfl) (fun K hK => ?_) AllReadyH.nil
  go_simp
  refine hK.out _ _ hHeld (fun hHeld => ?_)
  try simp only [Act.put, List.setIfInBounds_toArray, List.set_cons_zero, List.set_cons_succ]
  clear hK K
  refine takeD 4 21 (.int .i64 (0)) (by exact rfl) rfl (by kernel_rfl) (by kernel_rfl) (by kernel_rfl) (fun _ _ _ h => h) (Or.inl ⟨by rfl, ?_⟩) (by assumption) ?_
  · intro wq hS
    go_simp
    first | rfl | exact wU8 (by omega) (by omega) | exact wI64 (by omega) (by omega)
  try simp only [Act.put, List.setIfInBounds_toArray, List.set_cons_zero, List.set_cons_succ]
  refine takeD 10 27 (.int .i64 ((s[0].toNat : Int) - 48)) (by exact rfl) rfl (by kernel_rfl) (by kernel_rfl) (by kernel_rfl) (fun _ _ _ h => h) (Or.inl ⟨by rfl, ?_⟩) (by assumption) ?_
  · intro wq hS
    go_simp
    first | rfl | exact wU8 (by omega) (by omega) | exact wI64 (by omega) (by omega)
  try simp only [Act.put, List.setIfInBounds_toArray, List.set_cons_zero, List.set_cons_succ]
  refine takeD 11 28 (.pointer (some ⟨p, 0, none⟩)) (by exact rfl) rfl (by kernel_rfl) (by kernel_rfl) (by kernel_rfl) (fun _ _ _ h => h) (Or.inl ⟨by rfl, ?_⟩) (by assumption) ?_
  · intro wq hS
    go_simp
  try simp only [Act.put, List.setIfInBounds_toArray, List.set_cons_zero, List.set_cons_succ]
  refine wpAnyH_ready (rs := [12]) (by kernel_rfl) (by simp) ?_
  refine AllReadyH.cons (by exact rfl) (fun K hK => ?_) AllReadyH.nil
  go_simp
  have V := Vz.set 0 (.int .i64 ((s[0].toNat : Int) - 48))
  have HB1 : Hid (Below w.heap.size w (wz.setCell ⟨p, 0, none⟩ (.int .i64 ((s[0].toNat : Int) - 48)))) := Below.setCell hHeld HP.out _
  refine hK.out _ _ HB1.out (fun hHeld => ?_)
  try simp only [Act.put, List.setIfInBounds_toArray, List.set_cons_zero, List.set_cons_succ]
  clear hK K hHeld Vz hc hf
  refine wpAnyH_done (by kernel_rfl) ?_ _
  refine NoPanic.normal ?_
  simp only [List.set_cons_zero, List.set_cons_succ] at V
  generalize wz.setCell ⟨p, 0, none⟩ (.int .i64 ((s[0].toNat : Int) - 48)) = w1 at *
  obtain ⟨u0, e0⟩ : ∃ x : Int, x = (s[0].toNat : Int) - 48 := ⟨_, rfl⟩
  rw [← e0] at V
  try simp only [← e0]
  have V1 := (show Hid _ from V)
  have bl0 : 0 ≤ u0 := by omega
  have bu0 : u0 ≤ 9 := by omega
  have E0 := (show Hid _ from e0)
  have G0 := (show Hid _ from g0)
  clear V e0 g0 ga gb
  go_wp2_with fail
  rw [rounds_succ]
  by_cases l1 : (s[1].toNat : Int) < 48
  · go_wp2_with fail
    exact bodyPost_ret (v := .tuple #[.int .i64 0, .int .i64 6]) (by simp [results, Tryd.results5, go_sem]) rfl ⟨rfl, HB1.out⟩
  by_cases u1 : 57 < (s[1].toNat : Int)
  · go_wp2_with fail
    exact bodyPost_ret (v := .tuple #[.int .i64 0, .int .i64 6]) (by simp [results, Tryd.results5, go_sem]) rfl ⟨rfl, HB1.out⟩
  have g1 : 48 ≤ (s[1].toNat : Int) ∧ (s[1].toNat : Int) ≤ 57 := by omega
  clear l1 u1
  obtain ⟨ga, gb⟩ := id g1
  go_upto_region 8 with fail
  refine wp_region_noPanic ?_
  refine wp_region_held_drew (S := fun w' => Below w.heap.size w w') (by kernel_rfl) HB1.out.drew (fun hHeld => ?_)
  have Vz := V1.out.drew
  clear V1 HB1
  generalize w1.drew = wz at *
  have hc := Vz.cell 0 (v := .int .i64 u0) rfl
  have hf := Vz.free 0
  refine takeD 0 17 (.int .i64 0) (by exact rfl) rfl (by kernel_rfl) (by kernel_rfl) (by kernel_rfl) (fun _ _ _ h => h) (Or.inl ⟨by rfl, ?_⟩) (by assumption) ?_
  · intro wq hS
    go_simp
  try simp only [Act.put, List.setIfInBounds_toArray, List.set_cons_zero, List.set_cons_succ]
  refine takeD 1 18 (.int .i64 0) (by exact rfl) rfl (by kernel_rfl) (by kernel_rfl) (by kernel_rfl) (fun _ _ _ h => h) (Or.inl ⟨by rfl, ?_⟩) (by assumption) ?_
  · intro wq hS
    go_simp
  try simp only [Act.put, List.setIfInBounds_toArray, List.set_cons_zero, List.set_cons_succ]
  refine takeD 2 19 (.pointer (some ⟨p, 0, none⟩)) (by exact rfl) rfl (by kernel_rfl) (by kernel_rfl) (by kernel_rfl) (fun _ _ _ h => h) (Or.inl ⟨by rfl, ?_⟩) (by assumption) ?_
  · intro wq hS
    go_simp
  try simp only [Act.put, List.setIfInBounds_toArray, List.set_cons_zero, List.set_cons_succ]
  refine takeD 5 22 (.string s) (by exact rfl) rfl (by kernel_rfl) (by kernel_rfl) (by kernel_rfl) (fun _ _ _ h => h) (Or.inl ⟨by rfl, ?_⟩) (by assumption) ?_
  · intro wq hS
    go_simp
  try simp only [Act.put, List.setIfInBounds_toArray, List.set_cons_zero, List.set_cons_succ]
  refine takeD 6 23 (.int .i64 1) (by exact rfl) rfl (by kernel_rfl) (by kernel_rfl) (by kernel_rfl) (fun _ _ _ h => h) (Or.inl ⟨by rfl, ?_⟩) (by assumption) ?_
  · intro wq hS
    go_simp
  try simp only [Act.put, List.setIfInBounds_toArray, List.set_cons_zero, List.set_cons_succ]
  refine takeD 7 24 (.int .u8 (s[1].toNat : Int)) (by exact rfl) rfl (by kernel_rfl) (by kernel_rfl) (by kernel_rfl) (fun _ _ _ h => h) (Or.inl ⟨by rfl, ?_⟩) (by assumption) ?_
  · intro wq hS
    go_simp
  try simp only [Act.put, List.setIfInBounds_toArray, List.set_cons_zero, List.set_cons_succ]
  refine takeD 8 25 (.int .u8 ((s[1].toNat : Int) - 48)) (by exact rfl) rfl (by kernel_rfl) (by kernel_rfl) (by kernel_rfl) (fun _ _ _ h => h) (Or.inl ⟨by rfl, ?_⟩) (by assumption) ?_
  · intro wq hS
    go_simp
    first | rfl | exact wU8 (by omega) (by omega) | exact wI64 (by omega) (by omega)
  try simp only [Act.put, List.setIfInBounds_toArray, List.set_cons_zero, List.set_cons_succ]
  refine takeD 9 26 (.int .i64 ((s[1].toNat : Int) - 48)) (by exact rfl) rfl (by kernel_rfl) (by kernel_rfl) (by kernel_rfl) (fun _ _ _ h => h) (Or.inl ⟨by rfl, ?_⟩) (by assumption) ?_
  · intro wq hS
    go_simp
    first | rfl | exact wU8 (by omega) (by omega) | exact wI64 (by omega) (by omega)
  try simp only [Act.put, List.setIfInBounds_toArray, List.set_cons_zero, List.set_cons_succ]
  refine wpAnyH_ready (rs := [3]) (by kernel_rfl) (by simp) ?_
  refine AllReadyH.cons (by exact rfl) (fun K hK => ?_) AllReadyH.nil
  go_simp
  refine hK.out _ _ hHeld (fun hHeld => ?_)
  try simp only [Act.put, List.setIfInBounds_toArray, List.set_cons_zero, List.set_cons_succ]
  clear hK K
  refine takeD 4 21 (.int .i64 (10 * u0)) (by exact rfl) rfl (by kernel_rfl) (by kernel_rfl) (by kernel_rfl) (fun _ _ _ h => h) (Or.inl ⟨by rfl, ?_⟩) (by assumption) ?_
  · intro wq hS
    go_simp
    first | rfl | exact wU8 (by omega) (by omega) | exact wI64 (by omega) (by omega)
  try simp only [Act.put, List.setIfInBounds_toArray, List.set_cons_zero, List.set_cons_succ]
  refine takeD 10 27 (.int .i64 (10 * u0 + ((s[1].toNat : Int) - 48))) (by exact rfl) rfl (by kernel_rfl) (by kernel_rfl) (by kernel_rfl) (fun _ _ _ h => h) (Or.inl ⟨by rfl, ?_⟩) (by assumption) ?_
  · intro wq hS
    go_simp
    first | rfl | exact wU8 (by omega) (by omega) | exact wI64 (by omega) (by omega)
  try simp only [Act.put, List.setIfInBounds_toArray, List.set_cons_zero, List.set_cons_succ]
  refine takeD 11 28 (.pointer (some ⟨p, 0, none⟩)) (by exact rfl) rfl (by kernel_rfl) (by kernel_rfl) (by kernel_rfl) (fun _ _ _ h => h) (Or.inl ⟨by rfl, ?_⟩) (by assumption) ?_
  · intro wq hS
    go_simp
  try simp only [Act.put, List.setIfInBounds_toArray, List.set_cons_zero, List.set_cons_succ]
  refine wpAnyH_ready (rs := [12]) (by kernel_rfl) (by simp) ?_
  refine AllReadyH.cons (by exact rfl) (fun K hK => ?_) AllReadyH.nil
  go_simp
  have V := Vz.set 0 (.int .i64 (10 * u0 + ((s[1].toNat : Int) - 48)))
  have HB2 : Hid (Below w.heap.size w (wz.setCell ⟨p, 0, none⟩ (.int .i64 (10 * u0 + ((s[1].toNat : Int) - 48))))) := Below.setCell hHeld HP.out _
  refine hK.out _ _ HB2.out (fun hHeld => ?_)
  try simp only [Act.put, List.setIfInBounds_toArray, List.set_cons_zero, List.set_cons_succ]
  clear hK K hHeld Vz hc hf
  refine wpAnyH_done (by kernel_rfl) ?_ _
  refine NoPanic.normal ?_
  simp only [List.set_cons_zero, List.set_cons_succ] at V
  generalize wz.setCell ⟨p, 0, none⟩ (.int .i64 (10 * u0 + ((s[1].toNat : Int) - 48))) = w2 at *
  obtain ⟨u1, e1⟩ : ∃ x : Int, x = 10 * u0 + ((s[1].toNat : Int) - 48) := ⟨_, rfl⟩
  rw [← e1] at V
  try simp only [← e1]
  have V2 := (show Hid _ from V)
  have bl1 : 0 ≤ u1 := by omega
  have bu1 : u1 ≤ 99 := by omega
  have E1 := (show Hid _ from e1)
  have G1 := (show Hid _ from g1)
  clear V e1 g1 ga gb
  go_wp2_with fail
  rw [rounds_succ]
  by_cases l2 : (s[2].toNat : Int) < 48
  · go_wp2_with fail
    exact bodyPost_ret (v := .tuple #[.int .i64 0, .int .i64 6]) (by simp [results, Tryd.results5, go_sem]) rfl ⟨rfl, HB2.out⟩
  by_cases u2 : 57 < (s[2].toNat : Int)
  · go_wp2_with fail
    exact bodyPost_ret (v := .tuple #[.int .i64 0, .int .i64 6]) (by simp [results, Tryd.results5, go_sem]) rfl ⟨rfl, HB2.out⟩
  have g2 : 48 ≤ (s[2].toNat : Int) ∧ (s[2].toNat : Int) ≤ 57 := by omega
  clear l2 u2
  obtain ⟨ga, gb⟩ := id g2
  go_upto_region 8 with fail
  refine wp_region_noPanic ?_
  refine wp_region_held_drew (S := fun w' => Below w.heap.size w w') (by kernel_rfl) HB2.out.drew (fun hHeld => ?_)
  have Vz := V2.out.drew
  clear V2 HB2
  generalize w2.drew = wz at *
  have hc := Vz.cell 0 (v := .int .i64 u1) rfl
  have hf := Vz.free 0
  refine takeD 0 17 (.int .i64 0) (by exact rfl) rfl (by kernel_rfl) (by kernel_rfl) (by kernel_rfl) (fun _ _ _ h => h) (Or.inl ⟨by rfl, ?_⟩) (by assumption) ?_
  · intro wq hS
    go_simp
  try simp only [Act.put, List.setIfInBounds_toArray, List.set_cons_zero, List.set_cons_succ]
  refine takeD 1 18 (.int .i64 0) (by exact rfl) rfl (by kernel_rfl) (by kernel_rfl) (by kernel_rfl) (fun _ _ _ h => h) (Or.inl ⟨by rfl, ?_⟩) (by assumption) ?_
  · intro wq hS
    go_simp
  try simp only [Act.put, List.setIfInBounds_toArray, List.set_cons_zero, List.set_cons_succ]
  refine takeD 2 19 (.pointer (some ⟨p, 0, none⟩)) (by exact rfl) rfl (by kernel_rfl) (by kernel_rfl) (by kernel_rfl) (fun _ _ _ h => h) (Or.inl ⟨by rfl, ?_⟩) (by assumption) ?_
  · intro wq hS
    go_simp
  try simp only [Act.put, List.setIfInBounds_toArray, List.set_cons_zero, List.set_cons_succ]
  refine takeD 5 22 (.string s) (by exact rfl) rfl (by kernel_rfl) (by kernel_rfl) (by kernel_rfl) (fun _ _ _ h => h) (Or.inl ⟨by rfl, ?_⟩) (by assumption) ?_
  · intro wq hS
    go_simp
  try simp only [Act.put, List.setIfInBounds_toArray, List.set_cons_zero, List.set_cons_succ]
  refine takeD 6 23 (.int .i64 2) (by exact rfl) rfl (by kernel_rfl) (by kernel_rfl) (by kernel_rfl) (fun _ _ _ h => h) (Or.inl ⟨by rfl, ?_⟩) (by assumption) ?_
  · intro wq hS
    go_simp
  try simp only [Act.put, List.setIfInBounds_toArray, List.set_cons_zero, List.set_cons_succ]
  refine takeD 7 24 (.int .u8 (s[2].toNat : Int)) (by exact rfl) rfl (by kernel_rfl) (by kernel_rfl) (by kernel_rfl) (fun _ _ _ h => h) (Or.inl ⟨by rfl, ?_⟩) (by assumption) ?_
  · intro wq hS
    go_simp
  try simp only [Act.put, List.setIfInBounds_toArray, List.set_cons_zero, List.set_cons_succ]
  refine takeD 8 25 (.int .u8 ((s[2].toNat : Int) - 48)) (by exact rfl) rfl (by kernel_rfl) (by kernel_rfl) (by kernel_rfl) (fun _ _ _ h => h) (Or.inl ⟨by rfl, ?_⟩) (by assumption) ?_
  · intro wq hS
    go_simp
    first | rfl | exact wU8 (by omega) (by omega) | exact wI64 (by omega) (by omega)
  try simp only [Act.put, List.setIfInBounds_toArray, List.set_cons_zero, List.set_cons_succ]
  refine takeD 9 26 (.int .i64 ((s[2].toNat : Int) - 48)) (by exact rfl) rfl (by kernel_rfl) (by kernel_rfl) (by kernel_rfl) (fun _ _ _ h => h) (Or.inl ⟨by rfl, ?_⟩) (by assumption) ?_
  · intro wq hS
    go_simp
    first | rfl | exact wU8 (by omega) (by omega) | exact wI64 (by omega) (by omega)
  try simp only [Act.put, List.setIfInBounds_toArray, List.set_cons_zero, List.set_cons_succ]
  refine wpAnyH_ready (rs := [3]) (by kernel_rfl) (by simp) ?_
  refine AllReadyH.cons (by exact rfl) (fun K hK => ?_) AllReadyH.nil
  go_simp
  refine hK.out _ _ hHeld (fun hHeld => ?_)
  try simp only [Act.put, List.setIfInBounds_toArray, List.set_cons_zero, List.set_cons_succ]
  clear hK K
  refine takeD 4 21 (.int .i64 (10 * u1)) (by exact rfl) rfl (by kernel_rfl) (by kernel_rfl) (by kernel_rfl) (fun _ _ _ h => h) (Or.inl ⟨by rfl, ?_⟩) (by assumption) ?_
  · intro wq hS
    go_simp
    first | rfl | exact wU8 (by omega) (by omega) | exact wI64 (by omega) (by omega)
  try simp only [Act.put, List.setIfInBounds_toArray, List.set_cons_zero, List.set_cons_succ]
  refine takeD 10 27 (.int .i64 (10 * u1 + ((s[2].toNat : Int) - 48))) (by exact rfl) rfl (by kernel_rfl) (by kernel_rfl) (by kernel_rfl) (fun _ _ _ h => h) (Or.inl ⟨by rfl, ?_⟩) (by assumption) ?_
  · intro wq hS
    go_simp
    first | rfl | exact wU8 (by omega) (by omega) | exact wI64 (by omega) (by omega)
  try simp only [Act.put, List.setIfInBounds_toArray, List.set_cons_zero, List.set_cons_succ]
  refine takeD 11 28 (.pointer (some ⟨p, 0, none⟩)) (by exact rfl) rfl (by kernel_rfl) (by kernel_rfl) (by kernel_rfl) (fun _ _ _ h => h) (Or.inl ⟨by rfl, ?_⟩) (by assumption) ?_
  · intro wq hS
    go_simp
  try simp only [Act.put, List.setIfInBounds_toArray, List.set_cons_zero, List.set_cons_succ]
  refine wpAnyH_ready (rs := [12]) (by kernel_rfl) (by simp) ?_
  refine AllReadyH.cons (by exact rfl) (fun K hK => ?_) AllReadyH.nil
  go_simp
  have V := Vz.set 0 (.int .i64 (10 * u1 + ((s[2].toNat : Int) - 48)))
  have HB3 : Hid (Below w.heap.size w (wz.setCell ⟨p, 0, none⟩ (.int .i64 (10 * u1 + ((s[2].toNat : Int) - 48))))) := Below.setCell hHeld HP.out _
  refine hK.out _ _ HB3.out (fun hHeld => ?_)
  try simp only [Act.put, List.setIfInBounds_toArray, List.set_cons_zero, List.set_cons_succ]
  clear hK K hHeld Vz hc hf
  refine wpAnyH_done (by kernel_rfl) ?_ _
  refine NoPanic.normal ?_
  simp only [List.set_cons_zero, List.set_cons_succ] at V
  generalize wz.setCell ⟨p, 0, none⟩ (.int .i64 (10 * u1 + ((s[2].toNat : Int) - 48))) = w3 at *
  obtain ⟨u2, e2⟩ : ∃ x : Int, x = 10 * u1 + ((s[2].toNat : Int) - 48) := ⟨_, rfl⟩
  rw [← e2] at V
  try simp only [← e2]
  have V3 := (show Hid _ from V)
  have bl2 : 0 ≤ u2 := by omega
  have bu2 : u2 ≤ 999 := by omega
  have E2 := (show Hid _ from e2)
  have G2 := (show Hid _ from g2)
  clear V e2 g2 ga gb
  go_wp2_with fail
  rw [rounds_succ]
  by_cases l3 : (s[3].toNat : Int) < 48
  · go_wp2_with fail
    exact bodyPost_ret (v := .tuple #[.int .i64 0, .int .i64 6]) (by simp [results, Tryd.results5, go_sem]) rfl ⟨rfl, HB3.out⟩
  by_cases u3 : 57 < (s[3].toNat : Int)
  · go_wp2_with fail
    exact bodyPost_ret (v := .tuple #[.int .i64 0, .int .i64 6]) (by simp [results, Tryd.results5, go_sem]) rfl ⟨rfl, HB3.out⟩
  have g3 : 48 ≤ (s[3].toNat : Int) ∧ (s[3].toNat : Int) ≤ 57 := by omega
  clear l3 u3
  obtain ⟨ga, gb⟩ := id g3
  go_upto_region 8 with fail
  refine wp_region_noPanic ?_
  refine wp_region_held_drew (S := fun w' => Below w.heap.size w w') (by kernel_rfl) HB3.out.drew (fun hHeld => ?_)
  have Vz := V3.out.drew
  clear V3 HB3
  generalize w3.drew = wz at *
  have hc := Vz.cell 0 (v := .int .i64 u2) rfl
  have hf := Vz.free 0
  refine takeD 0 17 (.int .i64 0) (by exact rfl) rfl (by kernel_rfl) (by kernel_rfl) (by kernel_rfl) (fun _ _ _ h => h) (Or.inl ⟨by rfl, ?_⟩) (by assumption) ?_
  · intro wq hS
    go_simp
  try simp only [Act.put, List.setIfInBounds_toArray, List.set_cons_zero, List.set_cons_succ]
  refine takeD 1 18 (.int .i64 0) (by exact rfl) rfl (by kernel_rfl) (by kernel_rfl) (by kernel_rfl) (fun _ _ _ h => h) (Or.inl ⟨by rfl, ?_⟩) (by assumption) ?_
  · intro wq hS
    go_simp
  try simp only [Act.put, List.setIfInBounds_toArray, List.set_cons_zero, List.set_cons_succ]
  refine takeD 2 19 (.pointer (some ⟨p, 0, none⟩)) (by exact rfl) rfl (by kernel_rfl) (by kernel_rfl) (by kernel_rfl) (fun _ _ _ h => h) (Or.inl ⟨by rfl, ?_⟩) (by assumption) ?_
  · intro wq hS
    go_simp
  try simp only [Act.put, List.setIfInBounds_toArray, List.set_cons_zero, List.set_cons_succ]
  refine takeD 5 22 (.string s) (by exact rfl) rfl (by kernel_rfl) (by kernel_rfl) (by kernel_rfl) (fun _ _ _ h => h) (Or.inl ⟨by rfl, ?_⟩) (by assumption) ?_
  · intro wq hS
    go_simp
  try simp only [Act.put, List.setIfInBounds_toArray, List.set_cons_zero, List.set_cons_succ]
  refine takeD 6 23 (.int .i64 3) (by exact rfl) rfl (by kernel_rfl) (by kernel_rfl) (by kernel_rfl) (fun _ _ _ h => h) (Or.inl ⟨by rfl, ?_⟩) (by assumption) ?_
  · intro wq hS
    go_simp
  try simp only [Act.put, List.setIfInBounds_toArray, List.set_cons_zero, List.set_cons_succ]
  refine takeD 7 24 (.int .u8 (s[3].toNat : Int)) (by exact rfl) rfl (by kernel_rfl) (by kernel_rfl) (by kernel_rfl) (fun _ _ _ h => h) (Or.inl ⟨by rfl, ?_⟩) (by assumption) ?_
  · intro wq hS
    go_simp
  try simp only [Act.put, List.setIfInBounds_toArray, List.set_cons_zero, List.set_cons_succ]
  refine takeD 8 25 (.int .u8 ((s[3].toNat : Int) - 48)) (by exact rfl) rfl (by kernel_rfl) (by kernel_rfl) (by kernel_rfl) (fun _ _ _ h => h) (Or.inl ⟨by rfl, ?_⟩) (by assumption) ?_
  · intro wq hS
    go_simp
    first | rfl | exact wU8 (by omega) (by omega) | exact wI64 (by omega) (by omega)
  try simp only [Act.put, List.setIfInBounds_toArray, List.set_cons_zero, List.set_cons_succ]
  refine takeD 9 26 (.int .i64 ((s[3].toNat : Int) - 48)) (by exact rfl) rfl (by kernel_rfl) (by kernel_rfl) (by kernel_rfl) (fun _ _ _ h => h) (Or.inl ⟨by rfl, ?_⟩) (by assumption) ?_
  · intro wq hS
    go_simp
    first | rfl | exact wU8 (by omega) (by omega) | exact wI64 (by omega) (by omega)
  try simp only [Act.put, List.setIfInBounds_toArray, List.set_cons_zero, List.set_cons_succ]
  refine wpAnyH_ready (rs := [3]) (by kernel_rfl) (by simp) ?_
  refine AllReadyH.cons (by exact rfl) (fun K hK => ?_) AllReadyH.nil
  go_simp
  refine hK.out _ _ hHeld (fun hHeld => ?_)
  try simp only [Act.put, List.setIfInBounds_toArray, List.set_cons_zero, List.set_cons_succ]
  clear hK K
  refine takeD 4 21 (.int .i64 (10 * u2)) (by exact rfl) rfl (by kernel_rfl) (by kernel_rfl) (by kernel_rfl) (fun _ _ _ h => h) (Or.inl ⟨by rfl, ?_⟩) (by assumption) ?_
  · intro wq hS
    go_simp
    first | rfl | exact wU8 (by omega) (by omega) | exact wI64 (by omega) (by omega)
  try simp only [Act.put, List.setIfInBounds_toArray, List.set_cons_zero, List.set_cons_succ]
  refine takeD 10 27 (.int .i64 (10 * u2 + ((s[3].toNat : Int) - 48))) (by exact rfl) rfl (by kernel_rfl) (by kernel_rfl) (by kernel_rfl) (fun _ _ _ h => h) (Or.inl ⟨by rfl, ?_⟩) (by assumption) ?_
  · intro wq hS
    go_simp
    first | rfl | exact wU8 (by omega) (by omega) | exact wI64 (by omega) (by omega)
  try simp only [Act.put, List.setIfInBounds_toArray, List.set_cons_zero, List.set_cons_succ]
  refine takeD 11 28 (.pointer (some ⟨p, 0, none⟩)) (by exact rfl) rfl (by kernel_rfl) (by kernel_rfl) (by kernel_rfl) (fun _ _ _ h => h) (Or.inl ⟨by rfl, ?_⟩) (by assumption) ?_
  · intro wq hS
    go_simp
  try simp only [Act.put, List.setIfInBounds_toArray, List.set_cons_zero, List.set_cons_succ]
  refine wpAnyH_ready (rs := [12]) (by kernel_rfl) (by simp) ?_
  refine AllReadyH.cons (by exact rfl) (fun K hK => ?_) AllReadyH.nil
  go_simp
  have V := Vz.set 0 (.int .i64 (10 * u2 + ((s[3].toNat : Int) - 48)))
  have HB4 : Hid (Below w.heap.size w (wz.setCell ⟨p, 0, none⟩ (.int .i64 (10 * u2 + ((s[3].toNat : Int) - 48))))) := Below.setCell hHeld HP.out _
  refine hK.out _ _ HB4.out (fun hHeld => ?_)
  try simp only [Act.put, List.setIfInBounds_toArray, List.set_cons_zero, List.set_cons_succ]
  clear hK K hHeld Vz hc hf
  refine wpAnyH_done (by kernel_rfl) ?_ _
  refine NoPanic.normal ?_
  simp only [List.set_cons_zero, List.set_cons_succ] at V
  generalize wz.setCell ⟨p, 0, none⟩ (.int .i64 (10 * u2 + ((s[3].toNat : Int) - 48))) = w4 at *
  obtain ⟨u3, e3⟩ : ∃ x : Int, x = 10 * u2 + ((s[3].toNat : Int) - 48) := ⟨_, rfl⟩
  rw [← e3] at V
  try simp only [← e3]
  have V4 := (show Hid _ from V)
  have bl3 : 0 ≤ u3 := by omega
  have bu3 : u3 ≤ 9999 := by omega
  have E3 := (show Hid _ from e3)
  have G3 := (show Hid _ from g3)
  clear V e3 g3 ga gb
  go_wp2_with fail
  rw [rounds_succ]
  by_cases n4 : ¬ (s[4].toNat : Int) = 45
  · have q4 : ((s[4].toNat : Int) == 45) = false := by simp [n4]
    go_wp2_with fail
    exact bodyPost_ret (v := .tuple #[.int .i64 0, .int .i64 6]) (by simp [results, Tryd.results5, go_sem]) rfl ⟨rfl, HB4.out⟩
  have g4 : (s[4].toNat : Int) = 45 := Classical.not_not.1 n4
  clear n4
  go_wp2_with fail
  have G4 := (show Hid _ from g4)
  clear g4
  rw [rounds_succ]
  by_cases l5 : (s[5].toNat : Int) < 48
  · go_wp2_with fail
    exact bodyPost_ret (v := .tuple #[.int .i64 0, .int .i64 6]) (by simp [results, Tryd.results5, go_sem]) rfl ⟨rfl, HB4.out⟩
  by_cases u5 : 57 < (s[5].toNat : Int)
  · go_wp2_with fail
    exact bodyPost_ret (v := .tuple #[.int .i64 0, .int .i64 6]) (by simp [results, Tryd.results5, go_sem]) rfl ⟨rfl, HB4.out⟩
  have g5 : 48 ≤ (s[5].toNat : Int) ∧ (s[5].toNat : Int) ≤ 57 := by omega
  clear l5 u5
  obtain ⟨ga, gb⟩ := id g5
  go_upto_region 8 with fail
  refine wp_region_noPanic ?_
  refine wp_region_held_drew (S := fun w' => Below w.heap.size w w') (by kernel_rfl) HB4.out.drew (fun hHeld => ?_)
  have Vz := V4.out.drew
  clear V4 HB4
  generalize w4.drew = wz at *
  have hc := Vz.cell 1 (v := .int .i64 0) rfl
  have hf := Vz.free 1
  refine takeD 0 17 (.int .i64 1) (by exact rfl) rfl (by kernel_rfl) (by kernel_rfl) (by kernel_rfl) (fun _ _ _ h => h) (Or.inl ⟨by rfl, ?_⟩) (by assumption) ?_
  · intro wq hS
    go_simp
  try simp only [Act.put, List.setIfInBounds_toArray, List.set_cons_zero, List.set_cons_succ]
  refine takeD 1 18 (.int .i64 1) (by exact rfl) rfl (by kernel_rfl) (by kernel_rfl) (by kernel_rfl) (fun _ _ _ h => h) (Or.inl ⟨by rfl, ?_⟩) (by assumption) ?_
  · intro wq hS
    go_simp
  try simp only [Act.put, List.setIfInBounds_toArray, List.set_cons_zero, List.set_cons_succ]
  refine takeD 2 19 (.pointer (some ⟨p, 1, none⟩)) (by exact rfl) rfl (by kernel_rfl) (by kernel_rfl) (by kernel_rfl) (fun _ _ _ h => h) (Or.inl ⟨by rfl, ?_⟩) (by assumption) ?_
  · intro wq hS
    go_simp
  try simp only [Act.put, List.setIfInBounds_toArray, List.set_cons_zero, List.set_cons_succ]
  refine takeD 5 22 (.string s) (by exact rfl) rfl (by kernel_rfl) (by kernel_rfl) (by kernel_rfl) (fun _ _ _ h => h) (Or.inl ⟨by rfl, ?_⟩) (by assumption) ?_
  · intro wq hS
    go_simp
  try simp only [Act.put, List.setIfInBounds_toArray, List.set_cons_zero, List.set_cons_succ]
  refine takeD 6 23 (.int .i64 5) (by exact rfl) rfl (by kernel_rfl) (by kernel_rfl) (by kernel_rfl) (fun _ _ _ h => h) (Or.inl ⟨by rfl, ?_⟩) (by assumption) ?_
  · intro wq hS
    go_simp
  try simp only [Act.put, List.setIfInBounds_toArray, List.set_cons_zero, List.set_cons_succ]
  refine takeD 7 24 (.int .u8 (s[5].toNat : Int)) (by exact rfl) rfl (by kernel_rfl) (by kernel_rfl) (by kernel_rfl) (fun _ _ _ h => h) (Or.inl ⟨by rfl, ?_⟩) (by assumption) ?_
  · intro wq hS
    go_simp
  try simp only [Act.put, List.setIfInBounds_toArray, List.set_cons_zero, List.set_cons_succ]
  refine takeD 8 25 (.int .u8 ((s[5].toNat : Int) - 48)) (by exact rfl) rfl (by kernel_rfl) (by kernel_rfl) (by kernel_rfl) (fun _ _ _ h => h) (Or.inl ⟨by rfl, ?_⟩) (by assumption) ?_
  · intro wq hS
    go_simp
    first | rfl | exact wU8 (by omega) (by omega) | exact wI64 (by omega) (by omega)
  try simp only [Act.put, List.setIfInBounds_toArray, List.set_cons_zero, List.set_cons_succ]
  refine takeD 9 26 (.int .i64 ((s[5].toNat : Int) - 48)) (by exact rfl) rfl (by kernel_rfl) (by kernel_rfl) (by kernel_rfl) (fun _ _ _ h => h) (Or.inl ⟨by rfl, ?_⟩) (by assumption) ?_
  · intro wq hS
    go_simp
    first | rfl | exact wU8 (by omega) (by omega) | exact wI64 (by omega) (by omega)
  try simp only [Act.put, List.setIfInBounds_toArray, List.set_cons_zero, List.set_cons_succ]
  refine wpAnyH_ready (rs := [3]) (by kernel_rfl) (by simp) ?_
  refine AllReadyH.cons (by exact rfl) (fun K hK => ?_) AllReadyH.nil
  go_simp
  refine hK.out _ _ hHeld (fun hHeld => ?_)
  try simp only [Act.put, List.setIfInBounds_toArray, List.set_cons_zero, List.set_cons_succ]
  clear hK K
  refine takeD 4 21 (.int .i64 (0)) (by exact rfl) rfl (by kernel_rfl) (by kernel_rfl) (by kernel_rfl) (fun _ _ _ h => h) (Or.inl ⟨by rfl, ?_⟩) (by assumption) ?_
  · intro wq hS
    go_simp
    first | rfl | exact wU8 (by omega) (by omega) | exact wI64 (by omega) (by omega)
  try simp only [Act.put, List.setIfInBounds_toArray, List.set_cons_zero, List.set_cons_succ]
  refine takeD 10 27 (.int .i64 ((s[5].toNat : Int) - 48)) (by exact rfl) rfl (by kernel_rfl) (by kernel_rfl) (by kernel_rfl) (fun _ _ _ h => h) (Or.inl ⟨by rfl, ?_⟩) (by assumption) ?_
  · intro wq hS
    go_simp
    first | rfl | exact wU8 (by omega) (by omega) | exact wI64 (by omega) (by omega)
  try simp only [Act.put, List.setIfInBounds_toArray, List.set_cons_zero, List.set_cons_succ]
  refine takeD 11 28 (.pointer (some ⟨p, 1, none⟩)) (by exact rfl) rfl (by kernel_rfl) (by kernel_rfl) (by kernel_rfl) (fun _ _ _ h => h) (Or.inl ⟨by rfl, ?_⟩) (by assumption) ?_
  · intro wq hS
    go_simp
  try simp only [Act.put, List.setIfInBounds_toArray, List.set_cons_zero, List.set_cons_succ]
  refine wpAnyH_ready (rs := [12]) (by kernel_rfl) (by simp) ?_
  refine AllReadyH.cons (by exact rfl) (fun K hK => ?_) AllReadyH.nil
  go_simp
  have V := Vz.set 1 (.int .i64 ((s[5].toNat : Int) - 48))
  have HB5 : Hid (Below w.heap.size w (wz.setCell ⟨p, 1, none⟩ (.int .i64 ((s[5].toNat : Int) - 48)))) := Below.setCell hHeld HP.out _
  refine hK.out _ _ HB5.out (fun hHeld => ?_)
  try simp only [Act.put, List.setIfInBounds_toArray, List.set_cons_zero, List.set_cons_succ]
  clear hK K hHeld Vz hc hf
  refine wpAnyH_done (by kernel_rfl) ?_ _
  refine NoPanic.normal ?_
  simp only [List.set_cons_zero, List.set_cons_succ] at V
  generalize wz.setCell ⟨p, 1, none⟩ (.int .i64 ((s[5].toNat : Int) - 48)) = w5 at *
  obtain ⟨u5, e5⟩ : ∃ x : Int, x = (s[5].toNat : Int) - 48 := ⟨_, rfl⟩
  rw [← e5] at V
  try simp only [← e5]
  have V5 := (show Hid _ from V)
  have bl5 : 0 ≤ u5 := by omega
  have bu5 : u5 ≤ 9 := by omega
  have E5 := (show Hid _ from e5)
  have G5 := (show Hid _ from g5)
  clear V e5 g5 ga gb
  go_wp2_with fail
  rw [rounds_succ]
  by_cases l6 : (s[6].toNat : Int) < 48
  · go_wp2_with fail
    exact bodyPost_ret (v := .tuple #[.int .i64 0, .int .i64 6]) (by simp [results, Tryd.results5, go_sem]) rfl ⟨rfl, HB5.out⟩
  by_cases u6 : 57 < (s[6].toNat : Int)
  · go_wp2_with fail
    exact bodyPost_ret (v := .tuple #[.int .i64 0, .int .i64 6]) (by simp [results, Tryd.results5, go_sem]) rfl ⟨rfl, HB5.out⟩
  have g6 : 48 ≤ (s[6].toNat : Int) ∧ (s[6].toNat : Int) ≤ 57 := by omega
  clear l6 u6
  obtain ⟨ga, gb⟩ := id g6
  go_upto_region 8 with fail
  refine wp_region_noPanic ?_
  refine wp_region_held_drew (S := fun w' => Below w.heap.size w w') (by kernel_rfl) HB5.out.drew (fun hHeld => ?_)
  have Vz := V5.out.drew
  clear V5 HB5
  generalize w5.drew = wz at *
  have hc := Vz.cell 1 (v := .int .i64 u5) rfl
  have hf := Vz.free 1
  refine takeD 0 17 (.int .i64 1) (by exact rfl) rfl (by kernel_rfl) (by kernel_rfl) (by kernel_rfl) (fun _ _ _ h => h) (Or.inl ⟨by rfl, ?_⟩) (by assumption) ?_
  · intro wq hS
    go_simp
  try simp only [Act.put, List.setIfInBounds_toArray, List.set_cons_zero, List.set_cons_succ]
  refine takeD 1 18 (.int .i64 1) (by exact rfl) rfl (by kernel_rfl) (by kernel_rfl) (by kernel_rfl) (fun _ _ _ h => h) (Or.inl ⟨by rfl, ?_⟩) (by assumption) ?_
  · intro wq hS
    go_simp
  try simp only [Act.put, List.setIfInBounds_toArray, List.set_cons_zero, List.set_cons_succ]
  refine takeD 2 19 (.pointer (some ⟨p, 1, none⟩)) (by exact rfl) rfl (by kernel_rfl) (by kernel_rfl) (by kernel_rfl) (fun _ _ _ h => h) (Or.inl ⟨by rfl, ?_⟩) (by assumption) ?_
  · intro wq hS
    go_simp
  try simp only [Act.put, List.setIfInBounds_toArray, List.set_cons_zero, List.set_cons_succ]
  refine takeD 5 22 (.string s) (by exact rfl) rfl (by kernel_rfl) (by kernel_rfl) (by kernel_rfl) (fun _ _ _ h => h) (Or.inl ⟨by rfl, ?_⟩) (by assumption) ?_
  · intro wq hS
    go_simp
  try simp only [Act.put, List.setIfInBounds_toArray, List.set_cons_zero, List.set_cons_succ]
  refine takeD 6 23 (.int .i64 6) (by exact rfl) rfl (by kernel_rfl) (by kernel_rfl) (by kernel_rfl) (fun _ _ _ h => h) (Or.inl ⟨by rfl, ?_⟩) (by assumption) ?_
  · intro wq hS
    go_simp
  try simp only [Act.put, List.setIfInBounds_toArray, List.set_cons_zero, List.set_cons_succ]
  refine takeD 7 24 (.int .u8 (s[6].toNat : Int)) (by exact rfl) rfl (by kernel_rfl) (by kernel_rfl) (by kernel_rfl) (fun _ _ _ h => h) (Or.inl ⟨by rfl, ?_⟩) (by assumption) ?_
  · intro wq hS
    go_simp
  try simp only [Act.put, List.setIfInBounds_toArray, List.set_cons_zero, List.set_cons_succ]
  refine takeD 8 25 (.int .u8 ((s[6].toNat : Int) - 48)) (by exact rfl) rfl (by kernel_rfl) (by kernel_rfl) (by kernel_rfl) (fun _ _ _ h => h) (Or.inl ⟨by rfl, ?_⟩) (by assumption) ?_
  · intro wq hS
    go_simp
    first | rfl | exact wU8 (by omega) (by omega) | exact wI64 (by omega) (by omega)
  try simp only [Act.put, List.setIfInBounds_toArray, List.set_cons_zero, List.set_cons_succ]
  refine takeD 9 26 (.int .i64 ((s[6].toNat : Int) - 48)) (by exact rfl) rfl (by kernel_rfl) (by kernel_rfl) (by kernel_rfl) (fun _ _ _ h => h) (Or.inl ⟨by rfl, ?_⟩) (by assumption) ?_
  · intro wq hS
    go_simp
    first | rfl | exact wU8 (by omega) (by omega) | exact wI64 (by omega) (by omega)
  try simp only [Act.put, List.setIfInBounds_toArray, List.set_cons_zero, List.set_cons_succ]
  refine wpAnyH_ready (rs := [3]) (by kernel_rfl) (by simp) ?_
  refine AllReadyH.cons (by exact rfl) (fun K hK => ?_) AllReadyH.nil
  go_simp
  refine hK.out _ _ hHeld (fun hHeld => ?_)
  try simp only [Act.put, List.setIfInBounds_toArray, List.set_cons_zero, List.set_cons_succ]
  clear hK K
  refine takeD 4 21 (.int .i64 (10 * u5)) (by exact rfl) rfl (by kernel_rfl) (by kernel_rfl) (by kernel_rfl) (fun _ _ _ h => h) (Or.inl ⟨by rfl, ?_⟩) (by assumption) ?_
  · intro wq hS
    go_simp
    first | rfl | exact wU8 (by omega) (by omega) | exact wI64 (by omega) (by omega)
  try simp only [Act.put, List.setIfInBounds_toArray, List.set_cons_zero, List.set_cons_succ]
  refine takeD 10 27 (.int .i64 (10 * u5 + ((s[6].toNat : Int) - 48))) (by exact rfl) rfl (by kernel_rfl) (by kernel_rfl) (by kernel_rfl) (fun _ _ _ h => h) (Or.inl ⟨by rfl, ?_⟩) (by assumption) ?_
  · intro wq hS
    go_simp
    first | rfl | exact wU8 (by omega) (by omega) | exact wI64 (by omega) (by omega)
  try simp only [Act.put, List.setIfInBounds_toArray, List.set_cons_zero, List.set_cons_succ]
  refine takeD 11 28 (.pointer (some ⟨p, 1, none⟩)) (by exact rfl) rfl (by kernel_rfl) (by kernel_rfl) (by kernel_rfl) (fun _ _ _ h => h) (Or.inl ⟨by rfl, ?_⟩) (by assumption) ?_
  · intro wq hS
    go_simp
  try simp only [Act.put, List.setIfInBounds_toArray, List.set_cons_zero, List.set_cons_succ]
  refine wpAnyH_ready (rs := [12]) (by kernel_rfl) (by simp) ?_
  refine AllReadyH.cons (by exact rfl) (fun K hK => ?_) AllReadyH.nil
  go_simp
  have V := Vz.set 1 (.int .i64 (10 * u5 + ((s[6].toNat : Int) - 48)))
  have HB6 : Hid (Below w.heap.size w (wz.setCell ⟨p, 1, none⟩ (.int .i64 (10 * u5 + ((s[6].toNat : Int) - 48))))) := Below.setCell hHeld HP.out _
  refine hK.out _ _ HB6.out (fun hHeld => ?_)
  try simp only [Act.put, List.setIfInBounds_toArray, List.set_cons_zero, List.set_cons_succ]
  clear hK K hHeld Vz hc hf
  refine wpAnyH_done (by kernel_rfl) ?_ _
  refine NoPanic.normal ?_
  simp only [List.set_cons_zero, List.set_cons_succ] at V
  generalize wz.setCell ⟨p, 1, none⟩ (.int .i64 (10 * u5 + ((s[6].toNat : Int) - 48))) = w6 at *
  obtain ⟨u6, e6⟩ : ∃ x : Int, x = 10 * u5 + ((s[6].toNat : Int) - 48) := ⟨_, rfl⟩
  rw [← e6] at V
  try simp only [← e6]
  have V6 := (show Hid _ from V)
  have bl6 : 0 ≤ u6 := by omega
  have bu6 : u6 ≤ 99 := by omega
  have E6 := (show Hid _ from e6)
  have G6 := (show Hid _ from g6)
  clear V e6 g6 ga gb
  go_wp2_with fail
  rw [rounds_succ]
  by_cases n7 : ¬ (s[7].toNat : Int) = 45
  · have q7 : ((s[7].toNat : Int) == 45) = false := by simp [n7]
    go_wp2_with fail
    exact bodyPost_ret (v := .tuple #[.int .i64 0, .int .i64 6]) (by simp [results, Tryd.results5, go_sem]) rfl ⟨rfl, HB6.out⟩
  have g7 : (s[7].toNat : Int) = 45 := Classical.not_not.1 n7
  clear n7
  go_wp2_with fail
  have G7 := (show Hid _ from g7)
  clear g7
  rw [rounds_succ]
  by_cases l8 : (s[8].toNat : Int) < 48
  · go_wp2_with fail
    exact bodyPost_ret (v := .tuple #[.int .i64 0, .int .i64 6]) (by simp [results, Tryd.results5, go_sem]) rfl ⟨rfl, HB6.out⟩
  by_cases u8 : 57 < (s[8].toNat : Int)
  · go_wp2_with fail
    exact bodyPost_ret (v := .tuple #[.int .i64 0, .int .i64 6]) (by simp [results, Tryd.results5, go_sem]) rfl ⟨rfl, HB6.out⟩
  have g8 : 48 ≤ (s[8].toNat : Int) ∧ (s[8].toNat : Int) ≤ 57 := by omega
  clear l8 u8
  obtain ⟨ga, gb⟩ := id g8
  go_upto_region 8 with fail
  refine wp_region_noPanic ?_
  refine wp_region_held_drew (S := fun w' => Below w.heap.size w w') (by kernel_rfl) HB6.out.drew (fun hHeld => ?_)
  have Vz := V6.out.drew
  clear V6 HB6
  generalize w6.drew = wz at *
  have hc := Vz.cell 2 (v := .int .i64 0) rfl
  have hf := Vz.free 2
  refine takeD 0 17 (.int .i64 2) (by exact rfl) rfl (by kernel_rfl) (by kernel_rfl) (by kernel_rfl) (fun _ _ _ h => h) (Or.inl ⟨by rfl, ?_⟩) (by assumption) ?_
  · intro wq hS
    go_simp
  try simp only [Act.put, List.setIfInBounds_toArray, List.set_cons_zero, List.set_cons_succ]
  refine takeD 1 18 (.int .i64 2) (by exact rfl) rfl (by kernel_rfl) (by kernel_rfl) (by kernel_rfl) (fun _ _ _ h => h) (Or.inl ⟨by rfl, ?_⟩) (by assumption) ?_
  · intro wq hS
    go_simp
  try simp only [Act.put, List.setIfInBounds_toArray, List.set_cons_zero, List.set_cons_succ]
  refine takeD 2 19 (.pointer (some ⟨p, 2, none⟩)) (by exact rfl) rfl (by kernel_rfl) (by kernel_rfl) (by kernel_rfl) (fun _ _ _ h => h) (Or.inl ⟨by rfl, ?_⟩) (by assumption) ?_
  · intro wq hS
    go_simp
  try simp only [Act.put, List.setIfInBounds_toArray, List.set_cons_zero, List.set_cons_succ]
  refine takeD 5 22 (.string s) (by exact rfl) rfl (by kernel_rfl) (by kernel_rfl) (by kernel_rfl) (fun _ _ _ h => h) (Or.inl ⟨by rfl, ?_⟩) (by assumption) ?_
  · intro wq hS
    go_simp
  try simp only [Act.put, List.setIfInBounds_toArray, List.set_cons_zero, List.set_cons_succ]
  refine takeD 6 23 (.int .i64 8) (by exact rfl) rfl (by kernel_rfl) (by kernel_rfl) (by kernel_rfl) (fun _ _ _ h => h) (Or.inl ⟨by rfl, ?_⟩) (by assumption) ?_
  · intro wq hS
    go_simp
  try simp only [Act.put, List.setIfInBounds_toArray, List.set_cons_zero, List.set_cons_succ]
  refine takeD 7 24 (.int .u8 (s[8].toNat : Int)) (by exact rfl) rfl (by kernel_rfl) (by kernel_rfl) (by kernel_rfl) (fun _ _ _ h => h) (Or.inl ⟨by rfl, ?_⟩) (by assumption) ?_
  · intro wq hS
    go_simp
  try simp only [Act.put, List.setIfInBounds_toArray, List.set_cons_zero, List.set_cons_succ]
  refine takeD 8 25 (.int .u8 ((s[8].toNat : Int) - 48)) (by exact rfl) rfl (by kernel_rfl) (by kernel_rfl) (by kernel_rfl) (fun _ _ _ h => h) (Or.inl ⟨by rfl, ?_⟩) (by assumption) ?_
  · intro wq hS
    go_simp
    first | rfl | exact wU8 (by omega) (by omega) | exact wI64 (by omega) (by omega)
  try simp only [Act.put, List.setIfInBounds_toArray, List.set_cons_zero, List.set_cons_succ]
  refine takeD 9 26 (.int .i64 ((s[8].toNat : Int) - 48)) (by exact rfl) rfl (by kernel_rfl) (by kernel_rfl) (by kernel_rfl) (fun _ _ _ h => h) (Or.inl ⟨by rfl, ?_⟩) (by assumption) ?_
  · intro wq hS
    go_simp
    first | rfl | exact wU8 (by omega) (by omega) | exact wI64 (by omega) (by omega)
  try simp only [Act.put, List.setIfInBounds_toArray, List.set_cons_zero, List.set_cons_succ]
  refine wpAnyH_ready (rs := [3]) (by kernel_rfl) (by simp) ?_
  refine AllReadyH.cons (by exact rfl) (fun K hK => ?_) AllReadyH.nil
  go_simp
  refine hK.out _ _ hHeld (fun hHeld => ?_)
  try simp only [Act.put, List.setIfInBounds_toArray, List.set_cons_zero, List.set_cons_succ]
  clear hK K
  refine takeD 4 21 (.int .i64 (0)) (by exact rfl) rfl (by kernel_rfl) (by kernel_rfl) (by kernel_rfl) (fun _ _ _ h => h) (Or.inl ⟨by rfl, ?_⟩) (by assumption) ?_
  · intro wq hS
    go_simp
    first | rfl | exact wU8 (by omega) (by omega) | exact wI64 (by omega) (by omega)
  try simp only [Act.put, List.setIfInBounds_toArray, List.set_cons_zero, List.set_cons_succ]
  refine takeD 10 27 (.int .i64 ((s[8].toNat : Int) - 48)) (by exact rfl) rfl (by kernel_rfl) (by kernel_rfl) (by kernel_rfl) (fun _ _ _ h => h) (Or.inl ⟨by rfl, ?_⟩) (by assumption) ?_
  · intro wq hS
    go_simp
    first | rfl | exact wU8 (by omega) (by omega) | exact wI64 (by omega) (by omega)
  try simp only [Act.put, List.setIfInBounds_toArray, List.set_cons_zero, List.set_cons_succ]
  refine takeD 11 28 (.pointer (some ⟨p, 2, none⟩)) (by exact rfl) rfl (by kernel_rfl) (by kernel_rfl) (by kernel_rfl) (fun _ _ _ h => h) (Or.inl ⟨by rfl, ?_⟩) (by assumption) ?_
  · intro wq hS
    go_simp
  try simp only [Act.put, List.setIfInBounds_toArray, List.set_cons_zero, List.set_cons_succ]
  refine wpAnyH_ready (rs := [12]) (by kernel_rfl) (by simp) ?_
  refine AllReadyH.cons (by exact rfl) (fun K hK => ?_) AllReadyH.nil
  go_simp
  have V := Vz.set 2 (.int .i64 ((s[8].toNat : Int) - 48))
  have HB7 : Hid (Below w.heap.size w (wz.setCell ⟨p, 2, none⟩ (.int .i64 ((s[8].toNat : Int) - 48)))) := Below.setCell hHeld HP.out _
  refine hK.out _ _ HB7.out (fun hHeld => ?_)
  try simp only [Act.put, List.setIfInBounds_toArray, List.set_cons_zero, List.set_cons_succ]
  clear hK K hHeld Vz hc hf
  refine wpAnyH_done (by kernel_rfl) ?_ _
  refine NoPanic.normal ?_
  simp only [List.set_cons_zero, List.set_cons_succ] at V
  generalize wz.setCell ⟨p, 2, none⟩ (.int .i64 ((s[8].toNat : Int) - 48)) = w7 at *
  obtain ⟨u8, e8⟩ : ∃ x : Int, x = (s[8].toNat : Int) - 48 := ⟨_, rfl⟩
  rw [← e8] at V
  try simp only [← e8]
  have V7 := (show Hid _ from V)
  have bl8 : 0 ≤ u8 := by omega
  have bu8 : u8 ≤ 9 := by omega
  have E8 := (show Hid _ from e8)
  have G8 := (show Hid _ from g8)
  clear V e8 g8 ga gb
  go_wp2_with fail
  rw [rounds_succ]
  by_cases l9 : (s[9].toNat : Int) < 48
  · go_wp2_with fail
    exact bodyPost_ret (v := .tuple #[.int .i64 0, .int .i64 6]) (by simp [results, Tryd.results5, go_sem]) rfl ⟨rfl, HB7.out⟩
  by_cases u9 : 57 < (s[9].toNat : Int)
  · go_wp2_with fail
    exact bodyPost_ret (v := .tuple #[.int .i64 0, .int .i64 6]) (by simp [results, Tryd.results5, go_sem]) rfl ⟨rfl, HB7.out⟩
  have g9 : 48 ≤ (s[9].toNat : Int) ∧ (s[9].toNat : Int) ≤ 57 := by omega
  clear l9 u9
  obtain ⟨ga, gb⟩ := id g9
  go_upto_region 8 with fail
  refine wp_region_noPanic ?_
  refine wp_region_held_drew (S := fun w' => Below w.heap.size w w') (by kernel_rfl) HB7.out.drew (fun hHeld => ?_)
  have Vz := V7.out.drew
  clear V7 HB7
  generalize w7.drew = wz at *
  have hc := Vz.cell 2 (v := .int .i64 u8) rfl
  have hf := Vz.free 2
  refine takeD 0 17 (.int .i64 2) (by exact rfl) rfl (by kernel_rfl) (by kernel_rfl) (by kernel_rfl) (fun _ _ _ h => h) (Or.inl ⟨by rfl, ?_⟩) (by assumption) ?_
  · intro wq hS
    go_simp
  try simp only [Act.put, List.setIfInBounds_toArray, List.set_cons_zero, List.set_cons_succ]
  refine takeD 1 18 (.int .i64 2) (by exact rfl) rfl (by kernel_rfl) (by kernel_rfl) (by kernel_rfl) (fun _ _ _ h => h) (Or.inl ⟨by rfl, ?_⟩) (by assumption) ?_
  · intro wq hS
    go_simp
  try simp only [Act.put, List.setIfInBounds_toArray, List.set_cons_zero, List.set_cons_succ]
  refine takeD 2 19 (.pointer (some ⟨p, 2, none⟩)) (by exact rfl) rfl (by kernel_rfl) (by kernel_rfl) (by kernel_rfl) (fun _ _ _ h => h) (Or.inl ⟨by rfl, ?_⟩) (by assumption) ?_
  · intro wq hS
    go_simp
  try simp only [Act.put, List.setIfInBounds_toArray, List.set_cons_zero, List.set_cons_succ]
  refine takeD 5 22 (.string s) (by exact rfl) rfl (by kernel_rfl) (by kernel_rfl) (by kernel_rfl) (fun _ _ _ h => h) (Or.inl ⟨by rfl, ?_⟩) (by assumption) ?_
  · intro wq hS
    go_simp
  try simp only [Act.put, List.setIfInBounds_toArray, List.set_cons_zero, List.set_cons_succ]
  refine takeD 6 23 (.int .i64 9) (by exact rfl) rfl (by kernel_rfl) (by kernel_rfl) (by kernel_rfl) (fun _ _ _ h => h) (Or.inl ⟨by rfl, ?_⟩) (by assumption) ?_
  · intro wq hS
    go_simp
  try simp only [Act.put, List.setIfInBounds_toArray, List.set_cons_zero, List.set_cons_succ]
  refine takeD 7 24 (.int .u8 (s[9].toNat : Int)) (by exact rfl) rfl (by kernel_rfl) (by kernel_rfl) (by kernel_rfl) (fun _ _ _ h => h) (Or.inl ⟨by rfl, ?_⟩) (by assumption) ?_
  · intro wq hS
    go_simp
  try simp only [Act.put, List.setIfInBounds_toArray, List.set_cons_zero, List.set_cons_succ]
  refine takeD 8 25 (.int .u8 ((s[9].toNat : Int) - 48)) (by exact rfl) rfl (by kernel_rfl) (by kernel_rfl) (by kernel_rfl) (fun _ _ _ h => h) (Or.inl ⟨by rfl, ?_⟩) (by assumption) ?_
  · intro wq hS
    go_simp
    first | rfl | exact wU8 (by omega) (by omega) | exact wI64 (by omega) (by omega)
  try simp only [Act.put, List.setIfInBounds_toArray, List.set_cons_zero, List.set_cons_succ]
  refine takeD 9 26 (.int .i64 ((s[9].toNat : Int) - 48)) (by exact rfl) rfl (by kernel_rfl) (by kernel_rfl) (by kernel_rfl) (fun _ _ _ h => h) (Or.inl ⟨by rfl, ?_⟩) (by assumption) ?_
  · intro wq hS
    go_simp
    first | rfl | exact wU8 (by omega) (by omega) | exact wI64 (by omega) (by omega)
  try simp only [Act.put, List.setIfInBounds_toArray, List.set_cons_zero, List.set_cons_succ]
  refine wpAnyH_ready (rs := [3]) (by kernel_rfl) (by simp) ?_
  refine AllReadyH.cons (by exact rfl) (fun K hK => ?_) AllReadyH.nil
  go_simp
  refine hK.out _ _ hHeld (fun hHeld => ?_)
  try simp only [Act.put, List.setIfInBounds_toArray, List.set_cons_zero, List.set_cons_succ]
  clear hK K
  refine takeD 4 21 (.int .i64 (10 * u8)) (by exact rfl) rfl (by kernel_rfl) (by kernel_rfl) (by kernel_rfl) (fun _ _ _ h => h) (Or.inl ⟨by rfl, ?_⟩) (by assumption) ?_
  · intro wq hS
    go_simp
    first | rfl | exact wU8 (by omega) (by omega) | exact wI64 (by omega) (by omega)
  try simp only [Act.put, List.setIfInBounds_toArray, List.set_cons_zero, List.set_cons_succ]
  refine takeD 10 27 (.int .i64 (10 * u8 + ((s[9].toNat : Int) - 48))) (by exact rfl) rfl (by kernel_rfl) (by kernel_rfl) (by kernel_rfl) (fun _ _ _ h => h) (Or.inl ⟨by rfl, ?_⟩) (by assumption) ?_
  · intro wq hS
    go_simp
    first | rfl | exact wU8 (by omega) (by omega) | exact wI64 (by omega) (by omega)
  try simp only [Act.put, List.setIfInBounds_toArray, List.set_cons_zero, List.set_cons_succ]
  refine takeD 11 28 (.pointer (some ⟨p, 2, none⟩)) (by exact rfl) rfl (by kernel_rfl) (by kernel_rfl) (by kernel_rfl) (fun _ _ _ h => h) (Or.inl ⟨by rfl, ?_⟩) (by assumption) ?_
  · intro wq hS
    go_simp
  try simp only [Act.put, List.setIfInBounds_toArray, List.set_cons_zero, List.set_cons_succ]
  refine wpAnyH_ready (rs := [12]) (by kernel_rfl) (by simp) ?_
  refine AllReadyH.cons (by exact rfl) (fun K hK => ?_) AllReadyH.nil
  go_simp
  have V := Vz.set 2 (.int .i64 (10 * u8 + ((s[9].toNat : Int) - 48)))
  have HB8 : Hid (Below w.heap.size w (wz.setCell ⟨p, 2, none⟩ (.int .i64 (10 * u8 + ((s[9].toNat : Int) - 48))))) := Below.setCell hHeld HP.out _
  refine hK.out _ _ HB8.out (fun hHeld => ?_)
  try simp only [Act.put, List.setIfInBounds_toArray, List.set_cons_zero, List.set_cons_succ]
  clear hK K hHeld Vz hc hf
  refine wpAnyH_done (by kernel_rfl) ?_ _
  refine NoPanic.normal ?_
  simp only [List.set_cons_zero, List.set_cons_succ] at V
  generalize wz.setCell ⟨p, 2, none⟩ (.int .i64 (10 * u8 + ((s[9].toNat : Int) - 48))) = w8 at *
  obtain ⟨u9, e9⟩ : ∃ x : Int, x = 10 * u8 + ((s[9].toNat : Int) - 48) := ⟨_, rfl⟩
  rw [← e9] at V
  try simp only [← e9]
  have V8 := (show Hid _ from V)
  have bl9 : 0 ≤ u9 := by omega
  have bu9 : u9 ≤ 99 := by omega
  have E9 := (show Hid _ from e9)
  have G9 := (show Hid _ from g9)
  clear V e9 g9 ga gb
  go_wp2_with fail
  rw [rounds_succ]
  exfalso
  refine HF.out ?_
  have c := HC.out
  have g0 := G0.out
  have g1 := G1.out
  have g2 := G2.out
  have g3 := G3.out
  have g4 := G4.out
  have g5 := G5.out
  have g6 := G6.out
  have g7 := G7.out
  have g8 := G8.out
  have g9 := G9.out
  unfold Form Dig
  omega
end Go.Proofs.YtfmmkbhaaifggaaDoor
