/- money: the document's Parse where it answers. -/
import Derived.Test.YteohncnjjgoemaaGreatDoorXg
import Derived.BigQuiet
namespace Go.Proofs.YteohncnjjgoemaaGreatDoor
open Go.RowKit
set_option linter.unusedVariables false
set_option linter.unusedSimpArgs false

set_option maxHeartbeats 4000000 in
set_option maxRecDepth 100000 in
theorem dm_ne_0 (s : ByteArray) (w : World) (hs : s.size ≤ 64) (hs4 : 4 ≤ s.size) (hb0 : ((s.extract 0 4).toList == (nmb 0 ++ ⟨#[32]⟩).toList) = true) (hb1 : ((s.extract 0 4).toList == (nmb 1 ++ ⟨#[32]⟩).toList) = false) (hb2 : ((s.extract 0 4).toList == (nmb 2 ++ ⟨#[32]⟩).toList) = false) (hb3 : ((s.extract 0 4).toList == (nmb 3 ++ ⟨#[32]⟩).toList) = false) (x0 x1 x2 at' e0 : Int) (hP : ∀ w, Calls Tryz.prog 22 #[.string (s.extract 4 s.size)] w fun r w' => r = .returned (.tuple #[.agg #[.int .i64 x0, .int .u64 x1, .int .i64 x2], .int .i64 at', .int .i64 e0]) ∧ Below w.heap.size w w') (m0 m1 e2 : Int) (hO : ∀ w, Calls Tryz.prog 23 #[.agg #[.int .i64 x0, .int .u64 x1, .int .i64 x2], .int .i64 0, .int .i64 0] w fun r w' => r = .returned (.tuple #[.agg #[.int .i64 m0, .int .i64 m1], .int .i64 e2]) ∧ Below w.heap.size w w') (t2 : ByteArray) (hW : ∀ w, Calls Tryz.prog 7 #[.agg #[.int .i64 m0, .int .i64 m1]] w fun r w' => r = .returned (.string t2) ∧ Below w.heap.size w w') (he : e0 = 0) (he2 : e2 = 0) (q3 : (t2.toList == s.toList) = false) : Calls Tryz.prog 9 #[.string s] w fun e w' => e = .returned (.tuple #[.agg (mcl 0 0).toArray, .int .i64 6]) ∧ Below w.heap.size w w' := by
  subst he
  subst he2
  have HOF := (show Hid _ from hO)
  have HWR := (show Hid _ from hW)
  clear hO hW
  have h4 : ¬ (s.size : Int) < 4 := by omega
  have sz0 := nmb_size (i := 0) (by decide)
  have sz1 := nmb_size (i := 1) (by decide)
  have sz2 := nmb_size (i := 2) (by decide)
  have sz3 := nmb_size (i := 3) (by decide)
  have HPS := (show Hid _ from hP)
  clear hP
  have hs' : ¬ (64 : Int) < s.size := by omega
  have MP_0 := (show Hid _ from mr_new w)
  clear hs
  go_enter Tryz.func9, Tryz.ntmps9
  go_upto_region 3 with fail
  change Code.wp _ _ _ _ (w.alloc (.cells (mcl 0 0).toArray 23))
  generalize (w.alloc (.cells (mcl 0 0).toArray 23)) = w0 at *
  go_wp2_with fail
  refine wp_loop_rounds 5 ?_
  rw [rounds_succ]
  go_upto_region 6 with fail
  refine wp_region_noPanic ?_
  refine wp_region_held_drew (S := fun _ => True) (by kernel_rfl) trivial (fun hHeld => ?_)
  refine takeD 0 17 (.string s) (by exact rfl) rfl (by kernel_rfl) (by kernel_rfl) (by kernel_rfl) (fun _ _ _ h => h) (Or.inl ⟨by rfl, ?_⟩) (by assumption) ?_
  · intro wq hS
    go_simp
  try simp only [Act.put, List.setIfInBounds_toArray, List.set_cons_zero, List.set_cons_succ]
  refine takeD 1 18 (.int .i64 (s.size : Int)) (by exact rfl) rfl (by kernel_rfl) (by kernel_rfl) (by kernel_rfl) (fun _ _ _ h => h) (Or.inl ⟨by rfl, ?_⟩) (by assumption) ?_
  · intro wq hS
    go_simp
  try simp only [Act.put, List.setIfInBounds_toArray, List.set_cons_zero, List.set_cons_succ]
  refine takeD 2 19 (.bool false) (by exact rfl) rfl (by kernel_rfl) (by kernel_rfl) (by kernel_rfl) (fun _ _ _ h => h) (Or.inl ⟨by rfl, ?_⟩) (by assumption) ?_
  · intro wq hS
    go_simp
  try simp only [Act.put, List.setIfInBounds_toArray, List.set_cons_zero, List.set_cons_succ]
  refine takeD 3 20 (.bool false) (by exact rfl) rfl (by kernel_rfl) (by kernel_rfl) (by kernel_rfl) (fun _ _ _ h => h) (Or.inl ⟨by rfl, ?_⟩) (by assumption) ?_
  · intro wq hS
    go_simp
  try simp only [Act.put, List.setIfInBounds_toArray, List.set_cons_zero, List.set_cons_succ]
  refine takeD 4 21 (.string s) (by exact rfl) rfl (by kernel_rfl) (by kernel_rfl) (by kernel_rfl) (fun _ _ _ h => h) (Or.inl ⟨by rfl, ?_⟩) (by assumption) ?_
  · intro wq hS
    go_simp
  try simp only [Act.put, List.setIfInBounds_toArray, List.set_cons_zero, List.set_cons_succ]
  refine takeD 5 22 (.string (s.extract 0 4)) (by exact rfl) rfl (by kernel_rfl) (by kernel_rfl) (by kernel_rfl) (fun _ _ _ h => h) (Or.inl ⟨by rfl, ?_⟩) (by assumption) ?_
  · intro wq hS
    go_simp
  try simp only [Act.put, List.setIfInBounds_toArray, List.set_cons_zero, List.set_cons_succ]
  refine takeD 6 23 (.int .i64 0) (by exact rfl) rfl (by kernel_rfl) (by kernel_rfl) (by kernel_rfl) (fun _ _ _ h => h) (Or.inl ⟨by rfl, ?_⟩) (by assumption) ?_
  · intro wq hS
    go_simp
  try simp only [Act.put, List.setIfInBounds_toArray, List.set_cons_zero, List.set_cons_succ]
  clear hHeld
  have MP_r0 := (show Hid _ from MP_0.out.step ((Below.refl _ _).drew))
  clear MP_0
  generalize World.drew _ = wr0 at *
  refine wpAnyH_ready (rs := [7]) (by kernel_rfl) (by simp) ?_
  refine AllReadyH.cons (by exact rfl) (fun K hK => ?_) AllReadyH.nil
  go_simp
  refine (name_ok 0 _ (by decide)).mono ?_
  rintro e wn ⟨rfl, hwn⟩
  obtain rfl := hwn.symm
  clear hwn
  go_wp2_with fail
  refine hK.out _ _ trivial (fun hHeld => ?_)
  try simp only [Act.put, List.setIfInBounds_toArray, List.set_cons_zero, List.set_cons_succ]
  clear hK K
  
  refine takeD 8 25 (.string (nmb 0 ++ ⟨#[32]⟩)) (by exact rfl) rfl (by kernel_rfl) (by kernel_rfl) (by kernel_rfl) (fun _ _ _ h => h) (Or.inl ⟨by rfl, ?_⟩) (by assumption) ?_
  · intro wq hS
    go_simp
  try simp only [Act.put, List.setIfInBounds_toArray, List.set_cons_zero, List.set_cons_succ]
  refine takeD 9 26 (.bool false) (by exact rfl) rfl (by kernel_rfl) (by kernel_rfl) (by kernel_rfl) (fun _ _ _ h => h) (Or.inl ⟨by rfl, ?_⟩) (by assumption) ?_
  · intro wq hS
    go_simp
  try simp only [Act.put, List.setIfInBounds_toArray, List.set_cons_zero, List.set_cons_succ]
  refine takeD 10 27 (.bool false) (by exact rfl) rfl (by kernel_rfl) (by kernel_rfl) (by kernel_rfl) (fun _ _ _ h => h) (Or.inl ⟨by rfl, ?_⟩) (by assumption) ?_
  · intro wq hS
    go_simp
  try simp only [Act.put, List.setIfInBounds_toArray, List.set_cons_zero, List.set_cons_succ]
  clear hHeld
  refine wpAnyH_done (by kernel_rfl) ?_ _
  refine NoPanic.normal ?_
  go_wp2_with fail
  refine (HPS.out _).mono ?_
  rintro e wp ⟨rfl, bp⟩
  have MP_p := (show Hid _ from (MP_r0.out.step bp).step ((Below.refl _ _).alloc (Nat.le_refl _) (.cells #[.int .i64 x0, .int .u64 x1, .int .i64 x2] 41)))
  have VX_p := (show Hid _ from va_new wp [.int .i64 x0, .int .u64 x1, .int .i64 x2] 41)
  clear bp MP_r0
  go_upto_region 8 with fail
  change Code.wp _ _ _ _ (wp.alloc (.cells #[.int .i64 x0, .int .u64 x1, .int .i64 x2] 41))
  change Hid (MR w (wp.alloc (.cells #[.int .i64 x0, .int .u64 x1, .int .i64 x2] 41))) at MP_p
  change Hid (VA (wp.alloc (.cells #[.int .i64 x0, .int .u64 x1, .int .i64 x2] 41)) _ _ _) at VX_p
  generalize wp.alloc (.cells #[.int .i64 x0, .int .u64 x1, .int .i64 x2] 41) = wq at *
  generalize wp.heap.size = qx at *
  go_wp2_with (refine ldA rfl 41 _ rfl qx (by rfl) [.int .i64 x0, .int .u64 x1, .int .i64 x2] _ VX_p.out _ Tryz.underlying41 rfl infoD ?_)
  refine (HOF.out _).mono ?_
  rintro e wo ⟨rfl, bo⟩
  have MP_o := (show Hid _ from (MP_p.out.step bo).step ((Below.refl _ _).alloc (Nat.le_refl _) (.cells #[.int .i64 m0, .int .i64 m1] 23)))
  have VY_o := (show Hid _ from va_new wo [.int .i64 m0, .int .i64 m1] 23)
  clear bo MP_p VX_p
  go_upto_region 10 with fail
  change Code.wp _ _ _ _ (wo.alloc (.cells #[.int .i64 m0, .int .i64 m1] 23))
  change Hid (MR w (wo.alloc (.cells #[.int .i64 m0, .int .i64 m1] 23))) at MP_o
  change Hid (VA (wo.alloc (.cells #[.int .i64 m0, .int .i64 m1] 23)) _ _ _) at VY_o
  generalize wo.alloc (.cells #[.int .i64 m0, .int .i64 m1] 23) = ws at *
  generalize wo.heap.size = qy at *
  have y0 := VY_o.out.cell 0 (v := .int .i64 m0) rfl
  have y1 := VY_o.out.cell 1 (v := .int .i64 m1) rfl
  go_wp2_with fail
  refine (HWR.out _).mono ?_
  rintro e wv ⟨rfl, bv⟩
  have MP_v := (show Hid _ from MP_o.out.step bv)
  have VY_v := (show Hid _ from VY_o.out.step bv)
  clear bv MP_o VY_o y0 y1
  go_wp2_with fail
  rw [rounds_succ]
  go_upto_region 6 with fail
  refine wp_region_noPanic ?_
  refine wp_region_held_drew (S := fun _ => True) (by kernel_rfl) trivial (fun hHeld => ?_)
  refine takeD 0 17 (.string s) (by exact rfl) rfl (by kernel_rfl) (by kernel_rfl) (by kernel_rfl) (fun _ _ _ h => h) (Or.inl ⟨by rfl, ?_⟩) (by assumption) ?_
  · intro wq hS
    go_simp
  try simp only [Act.put, List.setIfInBounds_toArray, List.set_cons_zero, List.set_cons_succ]
  refine takeD 1 18 (.int .i64 (s.size : Int)) (by exact rfl) rfl (by kernel_rfl) (by kernel_rfl) (by kernel_rfl) (fun _ _ _ h => h) (Or.inl ⟨by rfl, ?_⟩) (by assumption) ?_
  · intro wq hS
    go_simp
  try simp only [Act.put, List.setIfInBounds_toArray, List.set_cons_zero, List.set_cons_succ]
  refine takeD 2 19 (.bool false) (by exact rfl) rfl (by kernel_rfl) (by kernel_rfl) (by kernel_rfl) (fun _ _ _ h => h) (Or.inl ⟨by rfl, ?_⟩) (by assumption) ?_
  · intro wq hS
    go_simp
  try simp only [Act.put, List.setIfInBounds_toArray, List.set_cons_zero, List.set_cons_succ]
  refine takeD 3 20 (.bool false) (by exact rfl) rfl (by kernel_rfl) (by kernel_rfl) (by kernel_rfl) (fun _ _ _ h => h) (Or.inl ⟨by rfl, ?_⟩) (by assumption) ?_
  · intro wq hS
    go_simp
  try simp only [Act.put, List.setIfInBounds_toArray, List.set_cons_zero, List.set_cons_succ]
  refine takeD 4 21 (.string s) (by exact rfl) rfl (by kernel_rfl) (by kernel_rfl) (by kernel_rfl) (fun _ _ _ h => h) (Or.inl ⟨by rfl, ?_⟩) (by assumption) ?_
  · intro wq hS
    go_simp
  try simp only [Act.put, List.setIfInBounds_toArray, List.set_cons_zero, List.set_cons_succ]
  refine takeD 5 22 (.string (s.extract 0 4)) (by exact rfl) rfl (by kernel_rfl) (by kernel_rfl) (by kernel_rfl) (fun _ _ _ h => h) (Or.inl ⟨by rfl, ?_⟩) (by assumption) ?_
  · intro wq hS
    go_simp
  try simp only [Act.put, List.setIfInBounds_toArray, List.set_cons_zero, List.set_cons_succ]
  refine takeD 6 23 (.int .i64 1) (by exact rfl) rfl (by kernel_rfl) (by kernel_rfl) (by kernel_rfl) (fun _ _ _ h => h) (Or.inl ⟨by rfl, ?_⟩) (by assumption) ?_
  · intro wq hS
    go_simp
  try simp only [Act.put, List.setIfInBounds_toArray, List.set_cons_zero, List.set_cons_succ]
  clear hHeld
  have MP_r1 := (show Hid _ from MP_v.out.step ((Below.refl _ _).drew))
  clear MP_v
  generalize World.drew _ = wr1 at *
  refine wpAnyH_ready (rs := [7]) (by kernel_rfl) (by simp) ?_
  refine AllReadyH.cons (by exact rfl) (fun K hK => ?_) AllReadyH.nil
  go_simp
  refine (name_ok 1 _ (by decide)).mono ?_
  rintro e wn ⟨rfl, hwn⟩
  obtain rfl := hwn.symm
  clear hwn
  go_wp2_with fail
  refine hK.out _ _ trivial (fun hHeld => ?_)
  try simp only [Act.put, List.setIfInBounds_toArray, List.set_cons_zero, List.set_cons_succ]
  clear hK K
  
  refine takeD 8 25 (.string (nmb 1 ++ ⟨#[32]⟩)) (by exact rfl) rfl (by kernel_rfl) (by kernel_rfl) (by kernel_rfl) (fun _ _ _ h => h) (Or.inl ⟨by rfl, ?_⟩) (by assumption) ?_
  · intro wq hS
    go_simp
  try simp only [Act.put, List.setIfInBounds_toArray, List.set_cons_zero, List.set_cons_succ]
  refine takeD 9 26 (.bool true) (by exact rfl) rfl (by kernel_rfl) (by kernel_rfl) (by kernel_rfl) (fun _ _ _ h => h) (Or.inl ⟨by rfl, ?_⟩) (by assumption) ?_
  · intro wq hS
    go_simp
  try simp only [Act.put, List.setIfInBounds_toArray, List.set_cons_zero, List.set_cons_succ]
  refine takeD 10 27 (.bool true) (by exact rfl) rfl (by kernel_rfl) (by kernel_rfl) (by kernel_rfl) (fun _ _ _ h => h) (Or.inl ⟨by rfl, ?_⟩) (by assumption) ?_
  · intro wq hS
    go_simp
  try simp only [Act.put, List.setIfInBounds_toArray, List.set_cons_zero, List.set_cons_succ]
  clear hHeld
  refine wpAnyH_done (by kernel_rfl) ?_ _
  refine NoPanic.normal ?_
  go_wp2_with fail
  rw [rounds_succ]
  go_upto_region 6 with fail
  refine wp_region_noPanic ?_
  refine wp_region_held_drew (S := fun _ => True) (by kernel_rfl) trivial (fun hHeld => ?_)
  refine takeD 0 17 (.string s) (by exact rfl) rfl (by kernel_rfl) (by kernel_rfl) (by kernel_rfl) (fun _ _ _ h => h) (Or.inl ⟨by rfl, ?_⟩) (by assumption) ?_
  · intro wq hS
    go_simp
  try simp only [Act.put, List.setIfInBounds_toArray, List.set_cons_zero, List.set_cons_succ]
  refine takeD 1 18 (.int .i64 (s.size : Int)) (by exact rfl) rfl (by kernel_rfl) (by kernel_rfl) (by kernel_rfl) (fun _ _ _ h => h) (Or.inl ⟨by rfl, ?_⟩) (by assumption) ?_
  · intro wq hS
    go_simp
  try simp only [Act.put, List.setIfInBounds_toArray, List.set_cons_zero, List.set_cons_succ]
  refine takeD 2 19 (.bool false) (by exact rfl) rfl (by kernel_rfl) (by kernel_rfl) (by kernel_rfl) (fun _ _ _ h => h) (Or.inl ⟨by rfl, ?_⟩) (by assumption) ?_
  · intro wq hS
    go_simp
  try simp only [Act.put, List.setIfInBounds_toArray, List.set_cons_zero, List.set_cons_succ]
  refine takeD 3 20 (.bool false) (by exact rfl) rfl (by kernel_rfl) (by kernel_rfl) (by kernel_rfl) (fun _ _ _ h => h) (Or.inl ⟨by rfl, ?_⟩) (by assumption) ?_
  · intro wq hS
    go_simp
  try simp only [Act.put, List.setIfInBounds_toArray, List.set_cons_zero, List.set_cons_succ]
  refine takeD 4 21 (.string s) (by exact rfl) rfl (by kernel_rfl) (by kernel_rfl) (by kernel_rfl) (fun _ _ _ h => h) (Or.inl ⟨by rfl, ?_⟩) (by assumption) ?_
  · intro wq hS
    go_simp
  try simp only [Act.put, List.setIfInBounds_toArray, List.set_cons_zero, List.set_cons_succ]
  refine takeD 5 22 (.string (s.extract 0 4)) (by exact rfl) rfl (by kernel_rfl) (by kernel_rfl) (by kernel_rfl) (fun _ _ _ h => h) (Or.inl ⟨by rfl, ?_⟩) (by assumption) ?_
  · intro wq hS
    go_simp
  try simp only [Act.put, List.setIfInBounds_toArray, List.set_cons_zero, List.set_cons_succ]
  refine takeD 6 23 (.int .i64 2) (by exact rfl) rfl (by kernel_rfl) (by kernel_rfl) (by kernel_rfl) (fun _ _ _ h => h) (Or.inl ⟨by rfl, ?_⟩) (by assumption) ?_
  · intro wq hS
    go_simp
  try simp only [Act.put, List.setIfInBounds_toArray, List.set_cons_zero, List.set_cons_succ]
  clear hHeld
  have MP_r2 := (show Hid _ from MP_r1.out.step ((Below.refl _ _).drew))
  clear MP_r1
  generalize World.drew _ = wr2 at *
  refine wpAnyH_ready (rs := [7]) (by kernel_rfl) (by simp) ?_
  refine AllReadyH.cons (by exact rfl) (fun K hK => ?_) AllReadyH.nil
  go_simp
  refine (name_ok 2 _ (by decide)).mono ?_
  rintro e wn ⟨rfl, hwn⟩
  obtain rfl := hwn.symm
  clear hwn
  go_wp2_with fail
  refine hK.out _ _ trivial (fun hHeld => ?_)
  try simp only [Act.put, List.setIfInBounds_toArray, List.set_cons_zero, List.set_cons_succ]
  clear hK K
  
  refine takeD 8 25 (.string (nmb 2 ++ ⟨#[32]⟩)) (by exact rfl) rfl (by kernel_rfl) (by kernel_rfl) (by kernel_rfl) (fun _ _ _ h => h) (Or.inl ⟨by rfl, ?_⟩) (by assumption) ?_
  · intro wq hS
    go_simp
  try simp only [Act.put, List.setIfInBounds_toArray, List.set_cons_zero, List.set_cons_succ]
  refine takeD 9 26 (.bool true) (by exact rfl) rfl (by kernel_rfl) (by kernel_rfl) (by kernel_rfl) (fun _ _ _ h => h) (Or.inl ⟨by rfl, ?_⟩) (by assumption) ?_
  · intro wq hS
    go_simp
  try simp only [Act.put, List.setIfInBounds_toArray, List.set_cons_zero, List.set_cons_succ]
  refine takeD 10 27 (.bool true) (by exact rfl) rfl (by kernel_rfl) (by kernel_rfl) (by kernel_rfl) (fun _ _ _ h => h) (Or.inl ⟨by rfl, ?_⟩) (by assumption) ?_
  · intro wq hS
    go_simp
  try simp only [Act.put, List.setIfInBounds_toArray, List.set_cons_zero, List.set_cons_succ]
  clear hHeld
  refine wpAnyH_done (by kernel_rfl) ?_ _
  refine NoPanic.normal ?_
  go_wp2_with fail
  rw [rounds_succ]
  go_upto_region 6 with fail
  refine wp_region_noPanic ?_
  refine wp_region_held_drew (S := fun _ => True) (by kernel_rfl) trivial (fun hHeld => ?_)
  refine takeD 0 17 (.string s) (by exact rfl) rfl (by kernel_rfl) (by kernel_rfl) (by kernel_rfl) (fun _ _ _ h => h) (Or.inl ⟨by rfl, ?_⟩) (by assumption) ?_
  · intro wq hS
    go_simp
  try simp only [Act.put, List.setIfInBounds_toArray, List.set_cons_zero, List.set_cons_succ]
  refine takeD 1 18 (.int .i64 (s.size : Int)) (by exact rfl) rfl (by kernel_rfl) (by kernel_rfl) (by kernel_rfl) (fun _ _ _ h => h) (Or.inl ⟨by rfl, ?_⟩) (by assumption) ?_
  · intro wq hS
    go_simp
  try simp only [Act.put, List.setIfInBounds_toArray, List.set_cons_zero, List.set_cons_succ]
  refine takeD 2 19 (.bool false) (by exact rfl) rfl (by kernel_rfl) (by kernel_rfl) (by kernel_rfl) (fun _ _ _ h => h) (Or.inl ⟨by rfl, ?_⟩) (by assumption) ?_
  · intro wq hS
    go_simp
  try simp only [Act.put, List.setIfInBounds_toArray, List.set_cons_zero, List.set_cons_succ]
  refine takeD 3 20 (.bool false) (by exact rfl) rfl (by kernel_rfl) (by kernel_rfl) (by kernel_rfl) (fun _ _ _ h => h) (Or.inl ⟨by rfl, ?_⟩) (by assumption) ?_
  · intro wq hS
    go_simp
  try simp only [Act.put, List.setIfInBounds_toArray, List.set_cons_zero, List.set_cons_succ]
  refine takeD 4 21 (.string s) (by exact rfl) rfl (by kernel_rfl) (by kernel_rfl) (by kernel_rfl) (fun _ _ _ h => h) (Or.inl ⟨by rfl, ?_⟩) (by assumption) ?_
  · intro wq hS
    go_simp
  try simp only [Act.put, List.setIfInBounds_toArray, List.set_cons_zero, List.set_cons_succ]
  refine takeD 5 22 (.string (s.extract 0 4)) (by exact rfl) rfl (by kernel_rfl) (by kernel_rfl) (by kernel_rfl) (fun _ _ _ h => h) (Or.inl ⟨by rfl, ?_⟩) (by assumption) ?_
  · intro wq hS
    go_simp
  try simp only [Act.put, List.setIfInBounds_toArray, List.set_cons_zero, List.set_cons_succ]
  refine takeD 6 23 (.int .i64 3) (by exact rfl) rfl (by kernel_rfl) (by kernel_rfl) (by kernel_rfl) (fun _ _ _ h => h) (Or.inl ⟨by rfl, ?_⟩) (by assumption) ?_
  · intro wq hS
    go_simp
  try simp only [Act.put, List.setIfInBounds_toArray, List.set_cons_zero, List.set_cons_succ]
  clear hHeld
  have MP_r3 := (show Hid _ from MP_r2.out.step ((Below.refl _ _).drew))
  clear MP_r2
  generalize World.drew _ = wr3 at *
  refine wpAnyH_ready (rs := [7]) (by kernel_rfl) (by simp) ?_
  refine AllReadyH.cons (by exact rfl) (fun K hK => ?_) AllReadyH.nil
  go_simp
  refine (name_ok 3 _ (by decide)).mono ?_
  rintro e wn ⟨rfl, hwn⟩
  obtain rfl := hwn.symm
  clear hwn
  go_wp2_with fail
  refine hK.out _ _ trivial (fun hHeld => ?_)
  try simp only [Act.put, List.setIfInBounds_toArray, List.set_cons_zero, List.set_cons_succ]
  clear hK K
  
  refine takeD 8 25 (.string (nmb 3 ++ ⟨#[32]⟩)) (by exact rfl) rfl (by kernel_rfl) (by kernel_rfl) (by kernel_rfl) (fun _ _ _ h => h) (Or.inl ⟨by rfl, ?_⟩) (by assumption) ?_
  · intro wq hS
    go_simp
  try simp only [Act.put, List.setIfInBounds_toArray, List.set_cons_zero, List.set_cons_succ]
  refine takeD 9 26 (.bool true) (by exact rfl) rfl (by kernel_rfl) (by kernel_rfl) (by kernel_rfl) (fun _ _ _ h => h) (Or.inl ⟨by rfl, ?_⟩) (by assumption) ?_
  · intro wq hS
    go_simp
  try simp only [Act.put, List.setIfInBounds_toArray, List.set_cons_zero, List.set_cons_succ]
  refine takeD 10 27 (.bool true) (by exact rfl) rfl (by kernel_rfl) (by kernel_rfl) (by kernel_rfl) (fun _ _ _ h => h) (Or.inl ⟨by rfl, ?_⟩) (by assumption) ?_
  · intro wq hS
    go_simp
  try simp only [Act.put, List.setIfInBounds_toArray, List.set_cons_zero, List.set_cons_succ]
  clear hHeld
  refine wpAnyH_done (by kernel_rfl) ?_ _
  refine NoPanic.normal ?_
  go_wp2_with fail
  rw [rounds_succ]
  go_wp2_with (refine stA rfl 23 _ _ rfl w.heap.size (by rfl) (mcl 0 0) (mcl 0 0) (by rfl) 23 MP_r3.out.r infoM rfl (mcl_one _ _) ?_; intro wf vf uf)
  have hld := run_loadVar_row (P := Tryz.prog) wf w.heap.size 23 23 _ (0, 0) _ vf.blk Tryz.underlying23 rfl infoM
  exact bodyPost_ret (v := .tuple #[.agg (mcl 0 0).toArray, .int .i64 6]) (by simp [results, Tryz.results9, asAddr, hld]) rfl ⟨rfl, uf.bel MP_r3.out.b (Nat.le_refl _)⟩
set_option maxHeartbeats 4000000 in
set_option maxRecDepth 100000 in
theorem dm_ok_0 (s : ByteArray) (w : World) (hs : s.size ≤ 64) (hs4 : 4 ≤ s.size) (hb0 : ((s.extract 0 4).toList == (nmb 0 ++ ⟨#[32]⟩).toList) = true) (hb1 : ((s.extract 0 4).toList == (nmb 1 ++ ⟨#[32]⟩).toList) = false) (hb2 : ((s.extract 0 4).toList == (nmb 2 ++ ⟨#[32]⟩).toList) = false) (hb3 : ((s.extract 0 4).toList == (nmb 3 ++ ⟨#[32]⟩).toList) = false) (x0 x1 x2 at' e0 : Int) (hP : ∀ w, Calls Tryz.prog 22 #[.string (s.extract 4 s.size)] w fun r w' => r = .returned (.tuple #[.agg #[.int .i64 x0, .int .u64 x1, .int .i64 x2], .int .i64 at', .int .i64 e0]) ∧ Below w.heap.size w w') (m0 m1 e2 : Int) (hO : ∀ w, Calls Tryz.prog 23 #[.agg #[.int .i64 x0, .int .u64 x1, .int .i64 x2], .int .i64 0, .int .i64 0] w fun r w' => r = .returned (.tuple #[.agg #[.int .i64 m0, .int .i64 m1], .int .i64 e2]) ∧ Below w.heap.size w w') (t2 : ByteArray) (hW : ∀ w, Calls Tryz.prog 7 #[.agg #[.int .i64 m0, .int .i64 m1]] w fun r w' => r = .returned (.string t2) ∧ Below w.heap.size w w') (he : e0 = 0) (he2 : e2 = 0) (q3 : (t2.toList == s.toList) = true) : Calls Tryz.prog 9 #[.string s] w fun e w' => e = .returned (.tuple #[.agg (mcl m0 m1).toArray, .int .i64 0]) ∧ Below w.heap.size w w' := by
  subst he
  subst he2
  have HOF := (show Hid _ from hO)
  have HWR := (show Hid _ from hW)
  clear hO hW
  have h4 : ¬ (s.size : Int) < 4 := by omega
  have sz0 := nmb_size (i := 0) (by decide)
  have sz1 := nmb_size (i := 1) (by decide)
  have sz2 := nmb_size (i := 2) (by decide)
  have sz3 := nmb_size (i := 3) (by decide)
  have HPS := (show Hid _ from hP)
  clear hP
  have hs' : ¬ (64 : Int) < s.size := by omega
  have MP_0 := (show Hid _ from mr_new w)
  clear hs
  go_enter Tryz.func9, Tryz.ntmps9
  go_upto_region 3 with fail
  change Code.wp _ _ _ _ (w.alloc (.cells (mcl 0 0).toArray 23))
  generalize (w.alloc (.cells (mcl 0 0).toArray 23)) = w0 at *
  go_wp2_with fail
  refine wp_loop_rounds 5 ?_
  rw [rounds_succ]
  go_upto_region 6 with fail
  refine wp_region_noPanic ?_
  refine wp_region_held_drew (S := fun _ => True) (by kernel_rfl) trivial (fun hHeld => ?_)
  refine takeD 0 17 (.string s) (by exact rfl) rfl (by kernel_rfl) (by kernel_rfl) (by kernel_rfl) (fun _ _ _ h => h) (Or.inl ⟨by rfl, ?_⟩) (by assumption) ?_
  · intro wq hS
    go_simp
  try simp only [Act.put, List.setIfInBounds_toArray, List.set_cons_zero, List.set_cons_succ]
  refine takeD 1 18 (.int .i64 (s.size : Int)) (by exact rfl) rfl (by kernel_rfl) (by kernel_rfl) (by kernel_rfl) (fun _ _ _ h => h) (Or.inl ⟨by rfl, ?_⟩) (by assumption) ?_
  · intro wq hS
    go_simp
  try simp only [Act.put, List.setIfInBounds_toArray, List.set_cons_zero, List.set_cons_succ]
  refine takeD 2 19 (.bool false) (by exact rfl) rfl (by kernel_rfl) (by kernel_rfl) (by kernel_rfl) (fun _ _ _ h => h) (Or.inl ⟨by rfl, ?_⟩) (by assumption) ?_
  · intro wq hS
    go_simp
  try simp only [Act.put, List.setIfInBounds_toArray, List.set_cons_zero, List.set_cons_succ]
  refine takeD 3 20 (.bool false) (by exact rfl) rfl (by kernel_rfl) (by kernel_rfl) (by kernel_rfl) (fun _ _ _ h => h) (Or.inl ⟨by rfl, ?_⟩) (by assumption) ?_
  · intro wq hS
    go_simp
  try simp only [Act.put, List.setIfInBounds_toArray, List.set_cons_zero, List.set_cons_succ]
  refine takeD 4 21 (.string s) (by exact rfl) rfl (by kernel_rfl) (by kernel_rfl) (by kernel_rfl) (fun _ _ _ h => h) (Or.inl ⟨by rfl, ?_⟩) (by assumption) ?_
  · intro wq hS
    go_simp
  try simp only [Act.put, List.setIfInBounds_toArray, List.set_cons_zero, List.set_cons_succ]
  refine takeD 5 22 (.string (s.extract 0 4)) (by exact rfl) rfl (by kernel_rfl) (by kernel_rfl) (by kernel_rfl) (fun _ _ _ h => h) (Or.inl ⟨by rfl, ?_⟩) (by assumption) ?_
  · intro wq hS
    go_simp
  try simp only [Act.put, List.setIfInBounds_toArray, List.set_cons_zero, List.set_cons_succ]
  refine takeD 6 23 (.int .i64 0) (by exact rfl) rfl (by kernel_rfl) (by kernel_rfl) (by kernel_rfl) (fun _ _ _ h => h) (Or.inl ⟨by rfl, ?_⟩) (by assumption) ?_
  · intro wq hS
    go_simp
  try simp only [Act.put, List.setIfInBounds_toArray, List.set_cons_zero, List.set_cons_succ]
  clear hHeld
  have MP_r0 := (show Hid _ from MP_0.out.step ((Below.refl _ _).drew))
  clear MP_0
  generalize World.drew _ = wr0 at *
  refine wpAnyH_ready (rs := [7]) (by kernel_rfl) (by simp) ?_
  refine AllReadyH.cons (by exact rfl) (fun K hK => ?_) AllReadyH.nil
  go_simp
  refine (name_ok 0 _ (by decide)).mono ?_
  rintro e wn ⟨rfl, hwn⟩
  obtain rfl := hwn.symm
  clear hwn
  go_wp2_with fail
  refine hK.out _ _ trivial (fun hHeld => ?_)
  try simp only [Act.put, List.setIfInBounds_toArray, List.set_cons_zero, List.set_cons_succ]
  clear hK K
  
  refine takeD 8 25 (.string (nmb 0 ++ ⟨#[32]⟩)) (by exact rfl) rfl (by kernel_rfl) (by kernel_rfl) (by kernel_rfl) (fun _ _ _ h => h) (Or.inl ⟨by rfl, ?_⟩) (by assumption) ?_
  · intro wq hS
    go_simp
  try simp only [Act.put, List.setIfInBounds_toArray, List.set_cons_zero, List.set_cons_succ]
  refine takeD 9 26 (.bool false) (by exact rfl) rfl (by kernel_rfl) (by kernel_rfl) (by kernel_rfl) (fun _ _ _ h => h) (Or.inl ⟨by rfl, ?_⟩) (by assumption) ?_
  · intro wq hS
    go_simp
  try simp only [Act.put, List.setIfInBounds_toArray, List.set_cons_zero, List.set_cons_succ]
  refine takeD 10 27 (.bool false) (by exact rfl) rfl (by kernel_rfl) (by kernel_rfl) (by kernel_rfl) (fun _ _ _ h => h) (Or.inl ⟨by rfl, ?_⟩) (by assumption) ?_
  · intro wq hS
    go_simp
  try simp only [Act.put, List.setIfInBounds_toArray, List.set_cons_zero, List.set_cons_succ]
  clear hHeld
  refine wpAnyH_done (by kernel_rfl) ?_ _
  refine NoPanic.normal ?_
  go_wp2_with fail
  refine (HPS.out _).mono ?_
  rintro e wp ⟨rfl, bp⟩
  have MP_p := (show Hid _ from (MP_r0.out.step bp).step ((Below.refl _ _).alloc (Nat.le_refl _) (.cells #[.int .i64 x0, .int .u64 x1, .int .i64 x2] 41)))
  have VX_p := (show Hid _ from va_new wp [.int .i64 x0, .int .u64 x1, .int .i64 x2] 41)
  clear bp MP_r0
  go_upto_region 8 with fail
  change Code.wp _ _ _ _ (wp.alloc (.cells #[.int .i64 x0, .int .u64 x1, .int .i64 x2] 41))
  change Hid (MR w (wp.alloc (.cells #[.int .i64 x0, .int .u64 x1, .int .i64 x2] 41))) at MP_p
  change Hid (VA (wp.alloc (.cells #[.int .i64 x0, .int .u64 x1, .int .i64 x2] 41)) _ _ _) at VX_p
  generalize wp.alloc (.cells #[.int .i64 x0, .int .u64 x1, .int .i64 x2] 41) = wq at *
  generalize wp.heap.size = qx at *
  go_wp2_with (refine ldA rfl 41 _ rfl qx (by rfl) [.int .i64 x0, .int .u64 x1, .int .i64 x2] _ VX_p.out _ Tryz.underlying41 rfl infoD ?_)
  refine (HOF.out _).mono ?_
  rintro e wo ⟨rfl, bo⟩
  have MP_o := (show Hid _ from (MP_p.out.step bo).step ((Below.refl _ _).alloc (Nat.le_refl _) (.cells #[.int .i64 m0, .int .i64 m1] 23)))
  have VY_o := (show Hid _ from va_new wo [.int .i64 m0, .int .i64 m1] 23)
  clear bo MP_p VX_p
  go_upto_region 10 with fail
  change Code.wp _ _ _ _ (wo.alloc (.cells #[.int .i64 m0, .int .i64 m1] 23))
  change Hid (MR w (wo.alloc (.cells #[.int .i64 m0, .int .i64 m1] 23))) at MP_o
  change Hid (VA (wo.alloc (.cells #[.int .i64 m0, .int .i64 m1] 23)) _ _ _) at VY_o
  generalize wo.alloc (.cells #[.int .i64 m0, .int .i64 m1] 23) = ws at *
  generalize wo.heap.size = qy at *
  have y0 := VY_o.out.cell 0 (v := .int .i64 m0) rfl
  have y1 := VY_o.out.cell 1 (v := .int .i64 m1) rfl
  go_wp2_with fail
  refine (HWR.out _).mono ?_
  rintro e wv ⟨rfl, bv⟩
  have MP_v := (show Hid _ from MP_o.out.step bv)
  have VY_v := (show Hid _ from VY_o.out.step bv)
  clear bv MP_o VY_o y0 y1
  go_wp2_with (first | (refine ldA rfl 23 _ rfl qy (by rfl) (mcl m0 m1) _ VY_v.out _ Tryz.underlying23 rfl infoM ?_) | (refine stA rfl 23 _ _ rfl w.heap.size (by rfl) (mcl 0 0) (mcl m0 m1) (by rfl) 23 MP_v.out.r infoM rfl (mcl_one _ _) ?_; intro wf vf uf))
  have hld := run_loadVar_row (P := Tryz.prog) wf w.heap.size 23 23 _ (0, 0) _ vf.blk Tryz.underlying23 rfl infoM
  exact bodyPost_ret (v := .tuple #[.agg (mcl m0 m1).toArray, .int .i64 0]) (by simp [results, Tryz.results9, asAddr, hld]) rfl ⟨rfl, uf.bel MP_v.out.b (Nat.le_refl _)⟩
set_option maxHeartbeats 4000000 in
set_option maxRecDepth 100000 in
theorem dm_ne_1 (s : ByteArray) (w : World) (hs : s.size ≤ 64) (hs4 : 4 ≤ s.size) (hb0 : ((s.extract 0 4).toList == (nmb 0 ++ ⟨#[32]⟩).toList) = false) (hb1 : ((s.extract 0 4).toList == (nmb 1 ++ ⟨#[32]⟩).toList) = true) (hb2 : ((s.extract 0 4).toList == (nmb 2 ++ ⟨#[32]⟩).toList) = false) (hb3 : ((s.extract 0 4).toList == (nmb 3 ++ ⟨#[32]⟩).toList) = false) (x0 x1 x2 at' e0 : Int) (hP : ∀ w, Calls Tryz.prog 22 #[.string (s.extract 4 s.size)] w fun r w' => r = .returned (.tuple #[.agg #[.int .i64 x0, .int .u64 x1, .int .i64 x2], .int .i64 at', .int .i64 e0]) ∧ Below w.heap.size w w') (m0 m1 e2 : Int) (hO : ∀ w, Calls Tryz.prog 23 #[.agg #[.int .i64 x0, .int .u64 x1, .int .i64 x2], .int .i64 1, .int .i64 0] w fun r w' => r = .returned (.tuple #[.agg #[.int .i64 m0, .int .i64 m1], .int .i64 e2]) ∧ Below w.heap.size w w') (t2 : ByteArray) (hW : ∀ w, Calls Tryz.prog 7 #[.agg #[.int .i64 m0, .int .i64 m1]] w fun r w' => r = .returned (.string t2) ∧ Below w.heap.size w w') (he : e0 = 0) (he2 : e2 = 0) (q3 : (t2.toList == s.toList) = false) : Calls Tryz.prog 9 #[.string s] w fun e w' => e = .returned (.tuple #[.agg (mcl 0 0).toArray, .int .i64 6]) ∧ Below w.heap.size w w' := by
  subst he
  subst he2
  have HOF := (show Hid _ from hO)
  have HWR := (show Hid _ from hW)
  clear hO hW
  have h4 : ¬ (s.size : Int) < 4 := by omega
  have sz0 := nmb_size (i := 0) (by decide)
  have sz1 := nmb_size (i := 1) (by decide)
  have sz2 := nmb_size (i := 2) (by decide)
  have sz3 := nmb_size (i := 3) (by decide)
  have HPS := (show Hid _ from hP)
  clear hP
  have hs' : ¬ (64 : Int) < s.size := by omega
  have MP_0 := (show Hid _ from mr_new w)
  clear hs
  go_enter Tryz.func9, Tryz.ntmps9
  go_upto_region 3 with fail
  change Code.wp _ _ _ _ (w.alloc (.cells (mcl 0 0).toArray 23))
  generalize (w.alloc (.cells (mcl 0 0).toArray 23)) = w0 at *
  go_wp2_with fail
  refine wp_loop_rounds 5 ?_
  rw [rounds_succ]
  go_upto_region 6 with fail
  refine wp_region_noPanic ?_
  refine wp_region_held_drew (S := fun _ => True) (by kernel_rfl) trivial (fun hHeld => ?_)
  refine takeD 0 17 (.string s) (by exact rfl) rfl (by kernel_rfl) (by kernel_rfl) (by kernel_rfl) (fun _ _ _ h => h) (Or.inl ⟨by rfl, ?_⟩) (by assumption) ?_
  · intro wq hS
    go_simp
  try simp only [Act.put, List.setIfInBounds_toArray, List.set_cons_zero, List.set_cons_succ]
  refine takeD 1 18 (.int .i64 (s.size : Int)) (by exact rfl) rfl (by kernel_rfl) (by kernel_rfl) (by kernel_rfl) (fun _ _ _ h => h) (Or.inl ⟨by rfl, ?_⟩) (by assumption) ?_
  · intro wq hS
    go_simp
  try simp only [Act.put, List.setIfInBounds_toArray, List.set_cons_zero, List.set_cons_succ]
  refine takeD 2 19 (.bool false) (by exact rfl) rfl (by kernel_rfl) (by kernel_rfl) (by kernel_rfl) (fun _ _ _ h => h) (Or.inl ⟨by rfl, ?_⟩) (by assumption) ?_
  · intro wq hS
    go_simp
  try simp only [Act.put, List.setIfInBounds_toArray, List.set_cons_zero, List.set_cons_succ]
  refine takeD 3 20 (.bool false) (by exact rfl) rfl (by kernel_rfl) (by kernel_rfl) (by kernel_rfl) (fun _ _ _ h => h) (Or.inl ⟨by rfl, ?_⟩) (by assumption) ?_
  · intro wq hS
    go_simp
  try simp only [Act.put, List.setIfInBounds_toArray, List.set_cons_zero, List.set_cons_succ]
  refine takeD 4 21 (.string s) (by exact rfl) rfl (by kernel_rfl) (by kernel_rfl) (by kernel_rfl) (fun _ _ _ h => h) (Or.inl ⟨by rfl, ?_⟩) (by assumption) ?_
  · intro wq hS
    go_simp
  try simp only [Act.put, List.setIfInBounds_toArray, List.set_cons_zero, List.set_cons_succ]
  refine takeD 5 22 (.string (s.extract 0 4)) (by exact rfl) rfl (by kernel_rfl) (by kernel_rfl) (by kernel_rfl) (fun _ _ _ h => h) (Or.inl ⟨by rfl, ?_⟩) (by assumption) ?_
  · intro wq hS
    go_simp
  try simp only [Act.put, List.setIfInBounds_toArray, List.set_cons_zero, List.set_cons_succ]
  refine takeD 6 23 (.int .i64 0) (by exact rfl) rfl (by kernel_rfl) (by kernel_rfl) (by kernel_rfl) (fun _ _ _ h => h) (Or.inl ⟨by rfl, ?_⟩) (by assumption) ?_
  · intro wq hS
    go_simp
  try simp only [Act.put, List.setIfInBounds_toArray, List.set_cons_zero, List.set_cons_succ]
  clear hHeld
  have MP_r0 := (show Hid _ from MP_0.out.step ((Below.refl _ _).drew))
  clear MP_0
  generalize World.drew _ = wr0 at *
  refine wpAnyH_ready (rs := [7]) (by kernel_rfl) (by simp) ?_
  refine AllReadyH.cons (by exact rfl) (fun K hK => ?_) AllReadyH.nil
  go_simp
  refine (name_ok 0 _ (by decide)).mono ?_
  rintro e wn ⟨rfl, hwn⟩
  obtain rfl := hwn.symm
  clear hwn
  go_wp2_with fail
  refine hK.out _ _ trivial (fun hHeld => ?_)
  try simp only [Act.put, List.setIfInBounds_toArray, List.set_cons_zero, List.set_cons_succ]
  clear hK K
  
  refine takeD 8 25 (.string (nmb 0 ++ ⟨#[32]⟩)) (by exact rfl) rfl (by kernel_rfl) (by kernel_rfl) (by kernel_rfl) (fun _ _ _ h => h) (Or.inl ⟨by rfl, ?_⟩) (by assumption) ?_
  · intro wq hS
    go_simp
  try simp only [Act.put, List.setIfInBounds_toArray, List.set_cons_zero, List.set_cons_succ]
  refine takeD 9 26 (.bool true) (by exact rfl) rfl (by kernel_rfl) (by kernel_rfl) (by kernel_rfl) (fun _ _ _ h => h) (Or.inl ⟨by rfl, ?_⟩) (by assumption) ?_
  · intro wq hS
    go_simp
  try simp only [Act.put, List.setIfInBounds_toArray, List.set_cons_zero, List.set_cons_succ]
  refine takeD 10 27 (.bool true) (by exact rfl) rfl (by kernel_rfl) (by kernel_rfl) (by kernel_rfl) (fun _ _ _ h => h) (Or.inl ⟨by rfl, ?_⟩) (by assumption) ?_
  · intro wq hS
    go_simp
  try simp only [Act.put, List.setIfInBounds_toArray, List.set_cons_zero, List.set_cons_succ]
  clear hHeld
  refine wpAnyH_done (by kernel_rfl) ?_ _
  refine NoPanic.normal ?_
  go_wp2_with fail
  rw [rounds_succ]
  go_upto_region 6 with fail
  refine wp_region_noPanic ?_
  refine wp_region_held_drew (S := fun _ => True) (by kernel_rfl) trivial (fun hHeld => ?_)
  refine takeD 0 17 (.string s) (by exact rfl) rfl (by kernel_rfl) (by kernel_rfl) (by kernel_rfl) (fun _ _ _ h => h) (Or.inl ⟨by rfl, ?_⟩) (by assumption) ?_
  · intro wq hS
    go_simp
  try simp only [Act.put, List.setIfInBounds_toArray, List.set_cons_zero, List.set_cons_succ]
  refine takeD 1 18 (.int .i64 (s.size : Int)) (by exact rfl) rfl (by kernel_rfl) (by kernel_rfl) (by kernel_rfl) (fun _ _ _ h => h) (Or.inl ⟨by rfl, ?_⟩) (by assumption) ?_
  · intro wq hS
    go_simp
  try simp only [Act.put, List.setIfInBounds_toArray, List.set_cons_zero, List.set_cons_succ]
  refine takeD 2 19 (.bool false) (by exact rfl) rfl (by kernel_rfl) (by kernel_rfl) (by kernel_rfl) (fun _ _ _ h => h) (Or.inl ⟨by rfl, ?_⟩) (by assumption) ?_
  · intro wq hS
    go_simp
  try simp only [Act.put, List.setIfInBounds_toArray, List.set_cons_zero, List.set_cons_succ]
  refine takeD 3 20 (.bool false) (by exact rfl) rfl (by kernel_rfl) (by kernel_rfl) (by kernel_rfl) (fun _ _ _ h => h) (Or.inl ⟨by rfl, ?_⟩) (by assumption) ?_
  · intro wq hS
    go_simp
  try simp only [Act.put, List.setIfInBounds_toArray, List.set_cons_zero, List.set_cons_succ]
  refine takeD 4 21 (.string s) (by exact rfl) rfl (by kernel_rfl) (by kernel_rfl) (by kernel_rfl) (fun _ _ _ h => h) (Or.inl ⟨by rfl, ?_⟩) (by assumption) ?_
  · intro wq hS
    go_simp
  try simp only [Act.put, List.setIfInBounds_toArray, List.set_cons_zero, List.set_cons_succ]
  refine takeD 5 22 (.string (s.extract 0 4)) (by exact rfl) rfl (by kernel_rfl) (by kernel_rfl) (by kernel_rfl) (fun _ _ _ h => h) (Or.inl ⟨by rfl, ?_⟩) (by assumption) ?_
  · intro wq hS
    go_simp
  try simp only [Act.put, List.setIfInBounds_toArray, List.set_cons_zero, List.set_cons_succ]
  refine takeD 6 23 (.int .i64 1) (by exact rfl) rfl (by kernel_rfl) (by kernel_rfl) (by kernel_rfl) (fun _ _ _ h => h) (Or.inl ⟨by rfl, ?_⟩) (by assumption) ?_
  · intro wq hS
    go_simp
  try simp only [Act.put, List.setIfInBounds_toArray, List.set_cons_zero, List.set_cons_succ]
  clear hHeld
  have MP_r1 := (show Hid _ from MP_r0.out.step ((Below.refl _ _).drew))
  clear MP_r0
  generalize World.drew _ = wr1 at *
  refine wpAnyH_ready (rs := [7]) (by kernel_rfl) (by simp) ?_
  refine AllReadyH.cons (by exact rfl) (fun K hK => ?_) AllReadyH.nil
  go_simp
  refine (name_ok 1 _ (by decide)).mono ?_
  rintro e wn ⟨rfl, hwn⟩
  obtain rfl := hwn.symm
  clear hwn
  go_wp2_with fail
  refine hK.out _ _ trivial (fun hHeld => ?_)
  try simp only [Act.put, List.setIfInBounds_toArray, List.set_cons_zero, List.set_cons_succ]
  clear hK K
  
  refine takeD 8 25 (.string (nmb 1 ++ ⟨#[32]⟩)) (by exact rfl) rfl (by kernel_rfl) (by kernel_rfl) (by kernel_rfl) (fun _ _ _ h => h) (Or.inl ⟨by rfl, ?_⟩) (by assumption) ?_
  · intro wq hS
    go_simp
  try simp only [Act.put, List.setIfInBounds_toArray, List.set_cons_zero, List.set_cons_succ]
  refine takeD 9 26 (.bool false) (by exact rfl) rfl (by kernel_rfl) (by kernel_rfl) (by kernel_rfl) (fun _ _ _ h => h) (Or.inl ⟨by rfl, ?_⟩) (by assumption) ?_
  · intro wq hS
    go_simp
  try simp only [Act.put, List.setIfInBounds_toArray, List.set_cons_zero, List.set_cons_succ]
  refine takeD 10 27 (.bool false) (by exact rfl) rfl (by kernel_rfl) (by kernel_rfl) (by kernel_rfl) (fun _ _ _ h => h) (Or.inl ⟨by rfl, ?_⟩) (by assumption) ?_
  · intro wq hS
    go_simp
  try simp only [Act.put, List.setIfInBounds_toArray, List.set_cons_zero, List.set_cons_succ]
  clear hHeld
  refine wpAnyH_done (by kernel_rfl) ?_ _
  refine NoPanic.normal ?_
  go_wp2_with fail
  refine (HPS.out _).mono ?_
  rintro e wp ⟨rfl, bp⟩
  have MP_p := (show Hid _ from (MP_r1.out.step bp).step ((Below.refl _ _).alloc (Nat.le_refl _) (.cells #[.int .i64 x0, .int .u64 x1, .int .i64 x2] 41)))
  have VX_p := (show Hid _ from va_new wp [.int .i64 x0, .int .u64 x1, .int .i64 x2] 41)
  clear bp MP_r1
  go_upto_region 8 with fail
  change Code.wp _ _ _ _ (wp.alloc (.cells #[.int .i64 x0, .int .u64 x1, .int .i64 x2] 41))
  change Hid (MR w (wp.alloc (.cells #[.int .i64 x0, .int .u64 x1, .int .i64 x2] 41))) at MP_p
  change Hid (VA (wp.alloc (.cells #[.int .i64 x0, .int .u64 x1, .int .i64 x2] 41)) _ _ _) at VX_p
  generalize wp.alloc (.cells #[.int .i64 x0, .int .u64 x1, .int .i64 x2] 41) = wq at *
  generalize wp.heap.size = qx at *
  go_wp2_with (refine ldA rfl 41 _ rfl qx (by rfl) [.int .i64 x0, .int .u64 x1, .int .i64 x2] _ VX_p.out _ Tryz.underlying41 rfl infoD ?_)
  refine (HOF.out _).mono ?_
  rintro e wo ⟨rfl, bo⟩
  have MP_o := (show Hid _ from (MP_p.out.step bo).step ((Below.refl _ _).alloc (Nat.le_refl _) (.cells #[.int .i64 m0, .int .i64 m1] 23)))
  have VY_o := (show Hid _ from va_new wo [.int .i64 m0, .int .i64 m1] 23)
  clear bo MP_p VX_p
  go_upto_region 10 with fail
  change Code.wp _ _ _ _ (wo.alloc (.cells #[.int .i64 m0, .int .i64 m1] 23))
  change Hid (MR w (wo.alloc (.cells #[.int .i64 m0, .int .i64 m1] 23))) at MP_o
  change Hid (VA (wo.alloc (.cells #[.int .i64 m0, .int .i64 m1] 23)) _ _ _) at VY_o
  generalize wo.alloc (.cells #[.int .i64 m0, .int .i64 m1] 23) = ws at *
  generalize wo.heap.size = qy at *
  have y0 := VY_o.out.cell 0 (v := .int .i64 m0) rfl
  have y1 := VY_o.out.cell 1 (v := .int .i64 m1) rfl
  go_wp2_with fail
  refine (HWR.out _).mono ?_
  rintro e wv ⟨rfl, bv⟩
  have MP_v := (show Hid _ from MP_o.out.step bv)
  have VY_v := (show Hid _ from VY_o.out.step bv)
  clear bv MP_o VY_o y0 y1
  go_wp2_with fail
  rw [rounds_succ]
  go_upto_region 6 with fail
  refine wp_region_noPanic ?_
  refine wp_region_held_drew (S := fun _ => True) (by kernel_rfl) trivial (fun hHeld => ?_)
  refine takeD 0 17 (.string s) (by exact rfl) rfl (by kernel_rfl) (by kernel_rfl) (by kernel_rfl) (fun _ _ _ h => h) (Or.inl ⟨by rfl, ?_⟩) (by assumption) ?_
  · intro wq hS
    go_simp
  try simp only [Act.put, List.setIfInBounds_toArray, List.set_cons_zero, List.set_cons_succ]
  refine takeD 1 18 (.int .i64 (s.size : Int)) (by exact rfl) rfl (by kernel_rfl) (by kernel_rfl) (by kernel_rfl) (fun _ _ _ h => h) (Or.inl ⟨by rfl, ?_⟩) (by assumption) ?_
  · intro wq hS
    go_simp
  try simp only [Act.put, List.setIfInBounds_toArray, List.set_cons_zero, List.set_cons_succ]
  refine takeD 2 19 (.bool false) (by exact rfl) rfl (by kernel_rfl) (by kernel_rfl) (by kernel_rfl) (fun _ _ _ h => h) (Or.inl ⟨by rfl, ?_⟩) (by assumption) ?_
  · intro wq hS
    go_simp
  try simp only [Act.put, List.setIfInBounds_toArray, List.set_cons_zero, List.set_cons_succ]
  refine takeD 3 20 (.bool false) (by exact rfl) rfl (by kernel_rfl) (by kernel_rfl) (by kernel_rfl) (fun _ _ _ h => h) (Or.inl ⟨by rfl, ?_⟩) (by assumption) ?_
  · intro wq hS
    go_simp
  try simp only [Act.put, List.setIfInBounds_toArray, List.set_cons_zero, List.set_cons_succ]
  refine takeD 4 21 (.string s) (by exact rfl) rfl (by kernel_rfl) (by kernel_rfl) (by kernel_rfl) (fun _ _ _ h => h) (Or.inl ⟨by rfl, ?_⟩) (by assumption) ?_
  · intro wq hS
    go_simp
  try simp only [Act.put, List.setIfInBounds_toArray, List.set_cons_zero, List.set_cons_succ]
  refine takeD 5 22 (.string (s.extract 0 4)) (by exact rfl) rfl (by kernel_rfl) (by kernel_rfl) (by kernel_rfl) (fun _ _ _ h => h) (Or.inl ⟨by rfl, ?_⟩) (by assumption) ?_
  · intro wq hS
    go_simp
  try simp only [Act.put, List.setIfInBounds_toArray, List.set_cons_zero, List.set_cons_succ]
  refine takeD 6 23 (.int .i64 2) (by exact rfl) rfl (by kernel_rfl) (by kernel_rfl) (by kernel_rfl) (fun _ _ _ h => h) (Or.inl ⟨by rfl, ?_⟩) (by assumption) ?_
  · intro wq hS
    go_simp
  try simp only [Act.put, List.setIfInBounds_toArray, List.set_cons_zero, List.set_cons_succ]
  clear hHeld
  have MP_r2 := (show Hid _ from MP_v.out.step ((Below.refl _ _).drew))
  clear MP_v
  generalize World.drew _ = wr2 at *
  refine wpAnyH_ready (rs := [7]) (by kernel_rfl) (by simp) ?_
  refine AllReadyH.cons (by exact rfl) (fun K hK => ?_) AllReadyH.nil
  go_simp
  refine (name_ok 2 _ (by decide)).mono ?_
  rintro e wn ⟨rfl, hwn⟩
  obtain rfl := hwn.symm
  clear hwn
  go_wp2_with fail
  refine hK.out _ _ trivial (fun hHeld => ?_)
  try simp only [Act.put, List.setIfInBounds_toArray, List.set_cons_zero, List.set_cons_succ]
  clear hK K
  
  refine takeD 8 25 (.string (nmb 2 ++ ⟨#[32]⟩)) (by exact rfl) rfl (by kernel_rfl) (by kernel_rfl) (by kernel_rfl) (fun _ _ _ h => h) (Or.inl ⟨by rfl, ?_⟩) (by assumption) ?_
  · intro wq hS
    go_simp
  try simp only [Act.put, List.setIfInBounds_toArray, List.set_cons_zero, List.set_cons_succ]
  refine takeD 9 26 (.bool true) (by exact rfl) rfl (by kernel_rfl) (by kernel_rfl) (by kernel_rfl) (fun _ _ _ h => h) (Or.inl ⟨by rfl, ?_⟩) (by assumption) ?_
  · intro wq hS
    go_simp
  try simp only [Act.put, List.setIfInBounds_toArray, List.set_cons_zero, List.set_cons_succ]
  refine takeD 10 27 (.bool true) (by exact rfl) rfl (by kernel_rfl) (by kernel_rfl) (by kernel_rfl) (fun _ _ _ h => h) (Or.inl ⟨by rfl, ?_⟩) (by assumption) ?_
  · intro wq hS
    go_simp
  try simp only [Act.put, List.setIfInBounds_toArray, List.set_cons_zero, List.set_cons_succ]
  clear hHeld
  refine wpAnyH_done (by kernel_rfl) ?_ _
  refine NoPanic.normal ?_
  go_wp2_with fail
  rw [rounds_succ]
  go_upto_region 6 with fail
  refine wp_region_noPanic ?_
  refine wp_region_held_drew (S := fun _ => True) (by kernel_rfl) trivial (fun hHeld => ?_)
  refine takeD 0 17 (.string s) (by exact rfl) rfl (by kernel_rfl) (by kernel_rfl) (by kernel_rfl) (fun _ _ _ h => h) (Or.inl ⟨by rfl, ?_⟩) (by assumption) ?_
  · intro wq hS
    go_simp
  try simp only [Act.put, List.setIfInBounds_toArray, List.set_cons_zero, List.set_cons_succ]
  refine takeD 1 18 (.int .i64 (s.size : Int)) (by exact rfl) rfl (by kernel_rfl) (by kernel_rfl) (by kernel_rfl) (fun _ _ _ h => h) (Or.inl ⟨by rfl, ?_⟩) (by assumption) ?_
  · intro wq hS
    go_simp
  try simp only [Act.put, List.setIfInBounds_toArray, List.set_cons_zero, List.set_cons_succ]
  refine takeD 2 19 (.bool false) (by exact rfl) rfl (by kernel_rfl) (by kernel_rfl) (by kernel_rfl) (fun _ _ _ h => h) (Or.inl ⟨by rfl, ?_⟩) (by assumption) ?_
  · intro wq hS
    go_simp
  try simp only [Act.put, List.setIfInBounds_toArray, List.set_cons_zero, List.set_cons_succ]
  refine takeD 3 20 (.bool false) (by exact rfl) rfl (by kernel_rfl) (by kernel_rfl) (by kernel_rfl) (fun _ _ _ h => h) (Or.inl ⟨by rfl, ?_⟩) (by assumption) ?_
  · intro wq hS
    go_simp
  try simp only [Act.put, List.setIfInBounds_toArray, List.set_cons_zero, List.set_cons_succ]
  refine takeD 4 21 (.string s) (by exact rfl) rfl (by kernel_rfl) (by kernel_rfl) (by kernel_rfl) (fun _ _ _ h => h) (Or.inl ⟨by rfl, ?_⟩) (by assumption) ?_
  · intro wq hS
    go_simp
  try simp only [Act.put, List.setIfInBounds_toArray, List.set_cons_zero, List.set_cons_succ]
  refine takeD 5 22 (.string (s.extract 0 4)) (by exact rfl) rfl (by kernel_rfl) (by kernel_rfl) (by kernel_rfl) (fun _ _ _ h => h) (Or.inl ⟨by rfl, ?_⟩) (by assumption) ?_
  · intro wq hS
    go_simp
  try simp only [Act.put, List.setIfInBounds_toArray, List.set_cons_zero, List.set_cons_succ]
  refine takeD 6 23 (.int .i64 3) (by exact rfl) rfl (by kernel_rfl) (by kernel_rfl) (by kernel_rfl) (fun _ _ _ h => h) (Or.inl ⟨by rfl, ?_⟩) (by assumption) ?_
  · intro wq hS
    go_simp
  try simp only [Act.put, List.setIfInBounds_toArray, List.set_cons_zero, List.set_cons_succ]
  clear hHeld
  have MP_r3 := (show Hid _ from MP_r2.out.step ((Below.refl _ _).drew))
  clear MP_r2
  generalize World.drew _ = wr3 at *
  refine wpAnyH_ready (rs := [7]) (by kernel_rfl) (by simp) ?_
  refine AllReadyH.cons (by exact rfl) (fun K hK => ?_) AllReadyH.nil
  go_simp
  refine (name_ok 3 _ (by decide)).mono ?_
  rintro e wn ⟨rfl, hwn⟩
  obtain rfl := hwn.symm
  clear hwn
  go_wp2_with fail
  refine hK.out _ _ trivial (fun hHeld => ?_)
  try simp only [Act.put, List.setIfInBounds_toArray, List.set_cons_zero, List.set_cons_succ]
  clear hK K
  
  refine takeD 8 25 (.string (nmb 3 ++ ⟨#[32]⟩)) (by exact rfl) rfl (by kernel_rfl) (by kernel_rfl) (by kernel_rfl) (fun _ _ _ h => h) (Or.inl ⟨by rfl, ?_⟩) (by assumption) ?_
  · intro wq hS
    go_simp
  try simp only [Act.put, List.setIfInBounds_toArray, List.set_cons_zero, List.set_cons_succ]
  refine takeD 9 26 (.bool true) (by exact rfl) rfl (by kernel_rfl) (by kernel_rfl) (by kernel_rfl) (fun _ _ _ h => h) (Or.inl ⟨by rfl, ?_⟩) (by assumption) ?_
  · intro wq hS
    go_simp
  try simp only [Act.put, List.setIfInBounds_toArray, List.set_cons_zero, List.set_cons_succ]
  refine takeD 10 27 (.bool true) (by exact rfl) rfl (by kernel_rfl) (by kernel_rfl) (by kernel_rfl) (fun _ _ _ h => h) (Or.inl ⟨by rfl, ?_⟩) (by assumption) ?_
  · intro wq hS
    go_simp
  try simp only [Act.put, List.setIfInBounds_toArray, List.set_cons_zero, List.set_cons_succ]
  clear hHeld
  refine wpAnyH_done (by kernel_rfl) ?_ _
  refine NoPanic.normal ?_
  go_wp2_with fail
  rw [rounds_succ]
  go_wp2_with (refine stA rfl 23 _ _ rfl w.heap.size (by rfl) (mcl 0 0) (mcl 0 0) (by rfl) 23 MP_r3.out.r infoM rfl (mcl_one _ _) ?_; intro wf vf uf)
  have hld := run_loadVar_row (P := Tryz.prog) wf w.heap.size 23 23 _ (0, 0) _ vf.blk Tryz.underlying23 rfl infoM
  exact bodyPost_ret (v := .tuple #[.agg (mcl 0 0).toArray, .int .i64 6]) (by simp [results, Tryz.results9, asAddr, hld]) rfl ⟨rfl, uf.bel MP_r3.out.b (Nat.le_refl _)⟩
set_option maxHeartbeats 4000000 in
set_option maxRecDepth 100000 in
theorem dm_ok_1 (s : ByteArray) (w : World) (hs : s.size ≤ 64) (hs4 : 4 ≤ s.size) (hb0 : ((s.extract 0 4).toList == (nmb 0 ++ ⟨#[32]⟩).toList) = false) (hb1 : ((s.extract 0 4).toList == (nmb 1 ++ ⟨#[32]⟩).toList) = true) (hb2 : ((s.extract 0 4).toList == (nmb 2 ++ ⟨#[32]⟩).toList) = false) (hb3 : ((s.extract 0 4).toList == (nmb 3 ++ ⟨#[32]⟩).toList) = false) (x0 x1 x2 at' e0 : Int) (hP : ∀ w, Calls Tryz.prog 22 #[.string (s.extract 4 s.size)] w fun r w' => r = .returned (.tuple #[.agg #[.int .i64 x0, .int .u64 x1, .int .i64 x2], .int .i64 at', .int .i64 e0]) ∧ Below w.heap.size w w') (m0 m1 e2 : Int) (hO : ∀ w, Calls Tryz.prog 23 #[.agg #[.int .i64 x0, .int .u64 x1, .int .i64 x2], .int .i64 1, .int .i64 0] w fun r w' => r = .returned (.tuple #[.agg #[.int .i64 m0, .int .i64 m1], .int .i64 e2]) ∧ Below w.heap.size w w') (t2 : ByteArray) (hW : ∀ w, Calls Tryz.prog 7 #[.agg #[.int .i64 m0, .int .i64 m1]] w fun r w' => r = .returned (.string t2) ∧ Below w.heap.size w w') (he : e0 = 0) (he2 : e2 = 0) (q3 : (t2.toList == s.toList) = true) : Calls Tryz.prog 9 #[.string s] w fun e w' => e = .returned (.tuple #[.agg (mcl m0 m1).toArray, .int .i64 0]) ∧ Below w.heap.size w w' := by
  subst he
  subst he2
  have HOF := (show Hid _ from hO)
  have HWR := (show Hid _ from hW)
  clear hO hW
  have h4 : ¬ (s.size : Int) < 4 := by omega
  have sz0 := nmb_size (i := 0) (by decide)
  have sz1 := nmb_size (i := 1) (by decide)
  have sz2 := nmb_size (i := 2) (by decide)
  have sz3 := nmb_size (i := 3) (by decide)
  have HPS := (show Hid _ from hP)
  clear hP
  have hs' : ¬ (64 : Int) < s.size := by omega
  have MP_0 := (show Hid _ from mr_new w)
  clear hs
  go_enter Tryz.func9, Tryz.ntmps9
  go_upto_region 3 with fail
  change Code.wp _ _ _ _ (w.alloc (.cells (mcl 0 0).toArray 23))
  generalize (w.alloc (.cells (mcl 0 0).toArray 23)) = w0 at *
  go_wp2_with fail
  refine wp_loop_rounds 5 ?_
  rw [rounds_succ]
  go_upto_region 6 with fail
  refine wp_region_noPanic ?_
  refine wp_region_held_drew (S := fun _ => True) (by kernel_rfl) trivial (fun hHeld => ?_)
  refine takeD 0 17 (.string s) (by exact rfl) rfl (by kernel_rfl) (by kernel_rfl) (by kernel_rfl) (fun _ _ _ h => h) (Or.inl ⟨by rfl, ?_⟩) (by assumption) ?_
  · intro wq hS
    go_simp
  try simp only [Act.put, List.setIfInBounds_toArray, List.set_cons_zero, List.set_cons_succ]
  refine takeD 1 18 (.int .i64 (s.size : Int)) (by exact rfl) rfl (by kernel_rfl) (by kernel_rfl) (by kernel_rfl) (fun _ _ _ h => h) (Or.inl ⟨by rfl, ?_⟩) (by assumption) ?_
  · intro wq hS
    go_simp
  try simp only [Act.put, List.setIfInBounds_toArray, List.set_cons_zero, List.set_cons_succ]
  refine takeD 2 19 (.bool false) (by exact rfl) rfl (by kernel_rfl) (by kernel_rfl) (by kernel_rfl) (fun _ _ _ h => h) (Or.inl ⟨by rfl, ?_⟩) (by assumption) ?_
  · intro wq hS
    go_simp
  try simp only [Act.put, List.setIfInBounds_toArray, List.set_cons_zero, List.set_cons_succ]
  refine takeD 3 20 (.bool false) (by exact rfl) rfl (by kernel_rfl) (by kernel_rfl) (by kernel_rfl) (fun _ _ _ h => h) (Or.inl ⟨by rfl, ?_⟩) (by assumption) ?_
  · intro wq hS
    go_simp
  try simp only [Act.put, List.setIfInBounds_toArray, List.set_cons_zero, List.set_cons_succ]
  refine takeD 4 21 (.string s) (by exact rfl) rfl (by kernel_rfl) (by kernel_rfl) (by kernel_rfl) (fun _ _ _ h => h) (Or.inl ⟨by rfl, ?_⟩) (by assumption) ?_
  · intro wq hS
    go_simp
  try simp only [Act.put, List.setIfInBounds_toArray, List.set_cons_zero, List.set_cons_succ]
  refine takeD 5 22 (.string (s.extract 0 4)) (by exact rfl) rfl (by kernel_rfl) (by kernel_rfl) (by kernel_rfl) (fun _ _ _ h => h) (Or.inl ⟨by rfl, ?_⟩) (by assumption) ?_
  · intro wq hS
    go_simp
  try simp only [Act.put, List.setIfInBounds_toArray, List.set_cons_zero, List.set_cons_succ]
  refine takeD 6 23 (.int .i64 0) (by exact rfl) rfl (by kernel_rfl) (by kernel_rfl) (by kernel_rfl) (fun _ _ _ h => h) (Or.inl ⟨by rfl, ?_⟩) (by assumption) ?_
  · intro wq hS
    go_simp
  try simp only [Act.put, List.setIfInBounds_toArray, List.set_cons_zero, List.set_cons_succ]
  clear hHeld
  have MP_r0 := (show Hid _ from MP_0.out.step ((Below.refl _ _).drew))
  clear MP_0
  generalize World.drew _ = wr0 at *
  refine wpAnyH_ready (rs := [7]) (by kernel_rfl) (by simp) ?_
  refine AllReadyH.cons (by exact rfl) (fun K hK => ?_) AllReadyH.nil
  go_simp
  refine (name_ok 0 _ (by decide)).mono ?_
  rintro e wn ⟨rfl, hwn⟩
  obtain rfl := hwn.symm
  clear hwn
  go_wp2_with fail
  refine hK.out _ _ trivial (fun hHeld => ?_)
  try simp only [Act.put, List.setIfInBounds_toArray, List.set_cons_zero, List.set_cons_succ]
  clear hK K
  
  refine takeD 8 25 (.string (nmb 0 ++ ⟨#[32]⟩)) (by exact rfl) rfl (by kernel_rfl) (by kernel_rfl) (by kernel_rfl) (fun _ _ _ h => h) (Or.inl ⟨by rfl, ?_⟩) (by assumption) ?_
  · intro wq hS
    go_simp
  try simp only [Act.put, List.setIfInBounds_toArray, List.set_cons_zero, List.set_cons_succ]
  refine takeD 9 26 (.bool true) (by exact rfl) rfl (by kernel_rfl) (by kernel_rfl) (by kernel_rfl) (fun _ _ _ h => h) (Or.inl ⟨by rfl, ?_⟩) (by assumption) ?_
  · intro wq hS
    go_simp
  try simp only [Act.put, List.setIfInBounds_toArray, List.set_cons_zero, List.set_cons_succ]
  refine takeD 10 27 (.bool true) (by exact rfl) rfl (by kernel_rfl) (by kernel_rfl) (by kernel_rfl) (fun _ _ _ h => h) (Or.inl ⟨by rfl, ?_⟩) (by assumption) ?_
  · intro wq hS
    go_simp
  try simp only [Act.put, List.setIfInBounds_toArray, List.set_cons_zero, List.set_cons_succ]
  clear hHeld
  refine wpAnyH_done (by kernel_rfl) ?_ _
  refine NoPanic.normal ?_
  go_wp2_with fail
  rw [rounds_succ]
  go_upto_region 6 with fail
  refine wp_region_noPanic ?_
  refine wp_region_held_drew (S := fun _ => True) (by kernel_rfl) trivial (fun hHeld => ?_)
  refine takeD 0 17 (.string s) (by exact rfl) rfl (by kernel_rfl) (by kernel_rfl) (by kernel_rfl) (fun _ _ _ h => h) (Or.inl ⟨by rfl, ?_⟩) (by assumption) ?_
  · intro wq hS
    go_simp
  try simp only [Act.put, List.setIfInBounds_toArray, List.set_cons_zero, List.set_cons_succ]
  refine takeD 1 18 (.int .i64 (s.size : Int)) (by exact rfl) rfl (by kernel_rfl) (by kernel_rfl) (by kernel_rfl) (fun _ _ _ h => h) (Or.inl ⟨by rfl, ?_⟩) (by assumption) ?_
  · intro wq hS
    go_simp
  try simp only [Act.put, List.setIfInBounds_toArray, List.set_cons_zero, List.set_cons_succ]
  refine takeD 2 19 (.bool false) (by exact rfl) rfl (by kernel_rfl) (by kernel_rfl) (by kernel_rfl) (fun _ _ _ h => h) (Or.inl ⟨by rfl, ?_⟩) (by assumption) ?_
  · intro wq hS
    go_simp
  try simp only [Act.put, List.setIfInBounds_toArray, List.set_cons_zero, List.set_cons_succ]
  refine takeD 3 20 (.bool false) (by exact rfl) rfl (by kernel_rfl) (by kernel_rfl) (by kernel_rfl) (fun _ _ _ h => h) (Or.inl ⟨by rfl, ?_⟩) (by assumption) ?_
  · intro wq hS
    go_simp
  try simp only [Act.put, List.setIfInBounds_toArray, List.set_cons_zero, List.set_cons_succ]
  refine takeD 4 21 (.string s) (by exact rfl) rfl (by kernel_rfl) (by kernel_rfl) (by kernel_rfl) (fun _ _ _ h => h) (Or.inl ⟨by rfl, ?_⟩) (by assumption) ?_
  · intro wq hS
    go_simp
  try simp only [Act.put, List.setIfInBounds_toArray, List.set_cons_zero, List.set_cons_succ]
  refine takeD 5 22 (.string (s.extract 0 4)) (by exact rfl) rfl (by kernel_rfl) (by kernel_rfl) (by kernel_rfl) (fun _ _ _ h => h) (Or.inl ⟨by rfl, ?_⟩) (by assumption) ?_
  · intro wq hS
    go_simp
  try simp only [Act.put, List.setIfInBounds_toArray, List.set_cons_zero, List.set_cons_succ]
  refine takeD 6 23 (.int .i64 1) (by exact rfl) rfl (by kernel_rfl) (by kernel_rfl) (by kernel_rfl) (fun _ _ _ h => h) (Or.inl ⟨by rfl, ?_⟩) (by assumption) ?_
  · intro wq hS
    go_simp
  try simp only [Act.put, List.setIfInBounds_toArray, List.set_cons_zero, List.set_cons_succ]
  clear hHeld
  have MP_r1 := (show Hid _ from MP_r0.out.step ((Below.refl _ _).drew))
  clear MP_r0
  generalize World.drew _ = wr1 at *
  refine wpAnyH_ready (rs := [7]) (by kernel_rfl) (by simp) ?_
  refine AllReadyH.cons (by exact rfl) (fun K hK => ?_) AllReadyH.nil
  go_simp
  refine (name_ok 1 _ (by decide)).mono ?_
  rintro e wn ⟨rfl, hwn⟩
  obtain rfl := hwn.symm
  clear hwn
  go_wp2_with fail
  refine hK.out _ _ trivial (fun hHeld => ?_)
  try simp only [Act.put, List.setIfInBounds_toArray, List.set_cons_zero, List.set_cons_succ]
  clear hK K
  
  refine takeD 8 25 (.string (nmb 1 ++ ⟨#[32]⟩)) (by exact rfl) rfl (by kernel_rfl) (by kernel_rfl) (by kernel_rfl) (fun _ _ _ h => h) (Or.inl ⟨by rfl, ?_⟩) (by assumption) ?_
  · intro wq hS
    go_simp
  try simp only [Act.put, List.setIfInBounds_toArray, List.set_cons_zero, List.set_cons_succ]
  refine takeD 9 26 (.bool false) (by exact rfl) rfl (by kernel_rfl) (by kernel_rfl) (by kernel_rfl) (fun _ _ _ h => h) (Or.inl ⟨by rfl, ?_⟩) (by assumption) ?_
  · intro wq hS
    go_simp
  try simp only [Act.put, List.setIfInBounds_toArray, List.set_cons_zero, List.set_cons_succ]
  refine takeD 10 27 (.bool false) (by exact rfl) rfl (by kernel_rfl) (by kernel_rfl) (by kernel_rfl) (fun _ _ _ h => h) (Or.inl ⟨by rfl, ?_⟩) (by assumption) ?_
  · intro wq hS
    go_simp
  try simp only [Act.put, List.setIfInBounds_toArray, List.set_cons_zero, List.set_cons_succ]
  clear hHeld
  refine wpAnyH_done (by kernel_rfl) ?_ _
  refine NoPanic.normal ?_
  go_wp2_with fail
  refine (HPS.out _).mono ?_
  rintro e wp ⟨rfl, bp⟩
  have MP_p := (show Hid _ from (MP_r1.out.step bp).step ((Below.refl _ _).alloc (Nat.le_refl _) (.cells #[.int .i64 x0, .int .u64 x1, .int .i64 x2] 41)))
  have VX_p := (show Hid _ from va_new wp [.int .i64 x0, .int .u64 x1, .int .i64 x2] 41)
  clear bp MP_r1
  go_upto_region 8 with fail
  change Code.wp _ _ _ _ (wp.alloc (.cells #[.int .i64 x0, .int .u64 x1, .int .i64 x2] 41))
  change Hid (MR w (wp.alloc (.cells #[.int .i64 x0, .int .u64 x1, .int .i64 x2] 41))) at MP_p
  change Hid (VA (wp.alloc (.cells #[.int .i64 x0, .int .u64 x1, .int .i64 x2] 41)) _ _ _) at VX_p
  generalize wp.alloc (.cells #[.int .i64 x0, .int .u64 x1, .int .i64 x2] 41) = wq at *
  generalize wp.heap.size = qx at *
  go_wp2_with (refine ldA rfl 41 _ rfl qx (by rfl) [.int .i64 x0, .int .u64 x1, .int .i64 x2] _ VX_p.out _ Tryz.underlying41 rfl infoD ?_)
  refine (HOF.out _).mono ?_
  rintro e wo ⟨rfl, bo⟩
  have MP_o := (show Hid _ from (MP_p.out.step bo).step ((Below.refl _ _).alloc (Nat.le_refl _) (.cells #[.int .i64 m0, .int .i64 m1] 23)))
  have VY_o := (show Hid _ from va_new wo [.int .i64 m0, .int .i64 m1] 23)
  clear bo MP_p VX_p
  go_upto_region 10 with fail
  change Code.wp _ _ _ _ (wo.alloc (.cells #[.int .i64 m0, .int .i64 m1] 23))
  change Hid (MR w (wo.alloc (.cells #[.int .i64 m0, .int .i64 m1] 23))) at MP_o
  change Hid (VA (wo.alloc (.cells #[.int .i64 m0, .int .i64 m1] 23)) _ _ _) at VY_o
  generalize wo.alloc (.cells #[.int .i64 m0, .int .i64 m1] 23) = ws at *
  generalize wo.heap.size = qy at *
  have y0 := VY_o.out.cell 0 (v := .int .i64 m0) rfl
  have y1 := VY_o.out.cell 1 (v := .int .i64 m1) rfl
  go_wp2_with fail
  refine (HWR.out _).mono ?_
  rintro e wv ⟨rfl, bv⟩
  have MP_v := (show Hid _ from MP_o.out.step bv)
  have VY_v := (show Hid _ from VY_o.out.step bv)
  clear bv MP_o VY_o y0 y1
  go_wp2_with (first | (refine ldA rfl 23 _ rfl qy (by rfl) (mcl m0 m1) _ VY_v.out _ Tryz.underlying23 rfl infoM ?_) | (refine stA rfl 23 _ _ rfl w.heap.size (by rfl) (mcl 0 0) (mcl m0 m1) (by rfl) 23 MP_v.out.r infoM rfl (mcl_one _ _) ?_; intro wf vf uf))
  have hld := run_loadVar_row (P := Tryz.prog) wf w.heap.size 23 23 _ (0, 0) _ vf.blk Tryz.underlying23 rfl infoM
  exact bodyPost_ret (v := .tuple #[.agg (mcl m0 m1).toArray, .int .i64 0]) (by simp [results, Tryz.results9, asAddr, hld]) rfl ⟨rfl, uf.bel MP_v.out.b (Nat.le_refl _)⟩
set_option maxHeartbeats 4000000 in
set_option maxRecDepth 100000 in
theorem dm_ne_2 (s : ByteArray) (w : World) (hs : s.size ≤ 64) (hs4 : 4 ≤ s.size) (hb0 : ((s.extract 0 4).toList == (nmb 0 ++ ⟨#[32]⟩).toList) = false) (hb1 : ((s.extract 0 4).toList == (nmb 1 ++ ⟨#[32]⟩).toList) = false) (hb2 : ((s.extract 0 4).toList == (nmb 2 ++ ⟨#[32]⟩).toList) = true) (hb3 : ((s.extract 0 4).toList == (nmb 3 ++ ⟨#[32]⟩).toList) = false) (x0 x1 x2 at' e0 : Int) (hP : ∀ w, Calls Tryz.prog 22 #[.string (s.extract 4 s.size)] w fun r w' => r = .returned (.tuple #[.agg #[.int .i64 x0, .int .u64 x1, .int .i64 x2], .int .i64 at', .int .i64 e0]) ∧ Below w.heap.size w w') (m0 m1 e2 : Int) (hO : ∀ w, Calls Tryz.prog 23 #[.agg #[.int .i64 x0, .int .u64 x1, .int .i64 x2], .int .i64 2, .int .i64 0] w fun r w' => r = .returned (.tuple #[.agg #[.int .i64 m0, .int .i64 m1], .int .i64 e2]) ∧ Below w.heap.size w w') (t2 : ByteArray) (hW : ∀ w, Calls Tryz.prog 7 #[.agg #[.int .i64 m0, .int .i64 m1]] w fun r w' => r = .returned (.string t2) ∧ Below w.heap.size w w') (he : e0 = 0) (he2 : e2 = 0) (q3 : (t2.toList == s.toList) = false) : Calls Tryz.prog 9 #[.string s] w fun e w' => e = .returned (.tuple #[.agg (mcl 0 0).toArray, .int .i64 6]) ∧ Below w.heap.size w w' := by
  subst he
  subst he2
  have HOF := (show Hid _ from hO)
  have HWR := (show Hid _ from hW)
  clear hO hW
  have h4 : ¬ (s.size : Int) < 4 := by omega
  have sz0 := nmb_size (i := 0) (by decide)
  have sz1 := nmb_size (i := 1) (by decide)
  have sz2 := nmb_size (i := 2) (by decide)
  have sz3 := nmb_size (i := 3) (by decide)
  have HPS := (show Hid _ from hP)
  clear hP
  have hs' : ¬ (64 : Int) < s.size := by omega
  have MP_0 := (show Hid _ from mr_new w)
  clear hs
  go_enter Tryz.func9, Tryz.ntmps9
  go_upto_region 3 with fail
  change Code.wp _ _ _ _ (w.alloc (.cells (mcl 0 0).toArray 23))
  generalize (w.alloc (.cells (mcl 0 0).toArray 23)) = w0 at *
  go_wp2_with fail
  refine wp_loop_rounds 5 ?_
  rw [rounds_succ]
  go_upto_region 6 with fail
  refine wp_region_noPanic ?_
  refine wp_region_held_drew (S := fun _ => True) (by kernel_rfl) trivial (fun hHeld => ?_)
  refine takeD 0 17 (.string s) (by exact rfl) rfl (by kernel_rfl) (by kernel_rfl) (by kernel_rfl) (fun _ _ _ h => h) (Or.inl ⟨by rfl, ?_⟩) (by assumption) ?_
  · intro wq hS
    go_simp
  try simp only [Act.put, List.setIfInBounds_toArray, List.set_cons_zero, List.set_cons_succ]
  refine takeD 1 18 (.int .i64 (s.size : Int)) (by exact rfl) rfl (by kernel_rfl) (by kernel_rfl) (by kernel_rfl) (fun _ _ _ h => h) (Or.inl ⟨by rfl, ?_⟩) (by assumption) ?_
  · intro wq hS
    go_simp
  try simp only [Act.put, List.setIfInBounds_toArray, List.set_cons_zero, List.set_cons_succ]
  refine takeD 2 19 (.bool false) (by exact rfl) rfl (by kernel_rfl) (by kernel_rfl) (by kernel_rfl) (fun _ _ _ h => h) (Or.inl ⟨by rfl, ?_⟩) (by assumption) ?_
  · intro wq hS
    go_simp
  try simp only [Act.put, List.setIfInBounds_toArray, List.set_cons_zero, List.set_cons_succ]
  refine takeD 3 20 (.bool false) (by exact rfl) rfl (by kernel_rfl) (by kernel_rfl) (by kernel_rfl) (fun _ _ _ h => h) (Or.inl ⟨by rfl, ?_⟩) (by assumption) ?_
  · intro wq hS
    go_simp
  try simp only [Act.put, List.setIfInBounds_toArray, List.set_cons_zero, List.set_cons_succ]
  refine takeD 4 21 (.string s) (by exact rfl) rfl (by kernel_rfl) (by kernel_rfl) (by kernel_rfl) (fun _ _ _ h => h) (Or.inl ⟨by rfl, ?_⟩) (by assumption) ?_
  · intro wq hS
    go_simp
  try simp only [Act.put, List.setIfInBounds_toArray, List.set_cons_zero, List.set_cons_succ]
  refine takeD 5 22 (.string (s.extract 0 4)) (by exact rfl) rfl (by kernel_rfl) (by kernel_rfl) (by kernel_rfl) (fun _ _ _ h => h) (Or.inl ⟨by rfl, ?_⟩) (by assumption) ?_
  · intro wq hS
    go_simp
  try simp only [Act.put, List.setIfInBounds_toArray, List.set_cons_zero, List.set_cons_succ]
  refine takeD 6 23 (.int .i64 0) (by exact rfl) rfl (by kernel_rfl) (by kernel_rfl) (by kernel_rfl) (fun _ _ _ h => h) (Or.inl ⟨by rfl, ?_⟩) (by assumption) ?_
  · intro wq hS
    go_simp
  try simp only [Act.put, List.setIfInBounds_toArray, List.set_cons_zero, List.set_cons_succ]
  clear hHeld
  have MP_r0 := (show Hid _ from MP_0.out.step ((Below.refl _ _).drew))
  clear MP_0
  generalize World.drew _ = wr0 at *
  refine wpAnyH_ready (rs := [7]) (by kernel_rfl) (by simp) ?_
  refine AllReadyH.cons (by exact rfl) (fun K hK => ?_) AllReadyH.nil
  go_simp
  refine (name_ok 0 _ (by decide)).mono ?_
  rintro e wn ⟨rfl, hwn⟩
  obtain rfl := hwn.symm
  clear hwn
  go_wp2_with fail
  refine hK.out _ _ trivial (fun hHeld => ?_)
  try simp only [Act.put, List.setIfInBounds_toArray, List.set_cons_zero, List.set_cons_succ]
  clear hK K
  
  refine takeD 8 25 (.string (nmb 0 ++ ⟨#[32]⟩)) (by exact rfl) rfl (by kernel_rfl) (by kernel_rfl) (by kernel_rfl) (fun _ _ _ h => h) (Or.inl ⟨by rfl, ?_⟩) (by assumption) ?_
  · intro wq hS
    go_simp
  try simp only [Act.put, List.setIfInBounds_toArray, List.set_cons_zero, List.set_cons_succ]
  refine takeD 9 26 (.bool true) (by exact rfl) rfl (by kernel_rfl) (by kernel_rfl) (by kernel_rfl) (fun _ _ _ h => h) (Or.inl ⟨by rfl, ?_⟩) (by assumption) ?_
  · intro wq hS
    go_simp
  try simp only [Act.put, List.setIfInBounds_toArray, List.set_cons_zero, List.set_cons_succ]
  refine takeD 10 27 (.bool true) (by exact rfl) rfl (by kernel_rfl) (by kernel_rfl) (by kernel_rfl) (fun _ _ _ h => h) (Or.inl ⟨by rfl, ?_⟩) (by assumption) ?_
  · intro wq hS
    go_simp
  try simp only [Act.put, List.setIfInBounds_toArray, List.set_cons_zero, List.set_cons_succ]
  clear hHeld
  refine wpAnyH_done (by kernel_rfl) ?_ _
  refine NoPanic.normal ?_
  go_wp2_with fail
  rw [rounds_succ]
  go_upto_region 6 with fail
  refine wp_region_noPanic ?_
  refine wp_region_held_drew (S := fun _ => True) (by kernel_rfl) trivial (fun hHeld => ?_)
  refine takeD 0 17 (.string s) (by exact rfl) rfl (by kernel_rfl) (by kernel_rfl) (by kernel_rfl) (fun _ _ _ h => h) (Or.inl ⟨by rfl, ?_⟩) (by assumption) ?_
  · intro wq hS
    go_simp
  try simp only [Act.put, List.setIfInBounds_toArray, List.set_cons_zero, List.set_cons_succ]
  refine takeD 1 18 (.int .i64 (s.size : Int)) (by exact rfl) rfl (by kernel_rfl) (by kernel_rfl) (by kernel_rfl) (fun _ _ _ h => h) (Or.inl ⟨by rfl, ?_⟩) (by assumption) ?_
  · intro wq hS
    go_simp
  try simp only [Act.put, List.setIfInBounds_toArray, List.set_cons_zero, List.set_cons_succ]
  refine takeD 2 19 (.bool false) (by exact rfl) rfl (by kernel_rfl) (by kernel_rfl) (by kernel_rfl) (fun _ _ _ h => h) (Or.inl ⟨by rfl, ?_⟩) (by assumption) ?_
  · intro wq hS
    go_simp
  try simp only [Act.put, List.setIfInBounds_toArray, List.set_cons_zero, List.set_cons_succ]
  refine takeD 3 20 (.bool false) (by exact rfl) rfl (by kernel_rfl) (by kernel_rfl) (by kernel_rfl) (fun _ _ _ h => h) (Or.inl ⟨by rfl, ?_⟩) (by assumption) ?_
  · intro wq hS
    go_simp
  try simp only [Act.put, List.setIfInBounds_toArray, List.set_cons_zero, List.set_cons_succ]
  refine takeD 4 21 (.string s) (by exact rfl) rfl (by kernel_rfl) (by kernel_rfl) (by kernel_rfl) (fun _ _ _ h => h) (Or.inl ⟨by rfl, ?_⟩) (by assumption) ?_
  · intro wq hS
    go_simp
  try simp only [Act.put, List.setIfInBounds_toArray, List.set_cons_zero, List.set_cons_succ]
  refine takeD 5 22 (.string (s.extract 0 4)) (by exact rfl) rfl (by kernel_rfl) (by kernel_rfl) (by kernel_rfl) (fun _ _ _ h => h) (Or.inl ⟨by rfl, ?_⟩) (by assumption) ?_
  · intro wq hS
    go_simp
  try simp only [Act.put, List.setIfInBounds_toArray, List.set_cons_zero, List.set_cons_succ]
  refine takeD 6 23 (.int .i64 1) (by exact rfl) rfl (by kernel_rfl) (by kernel_rfl) (by kernel_rfl) (fun _ _ _ h => h) (Or.inl ⟨by rfl, ?_⟩) (by assumption) ?_
  · intro wq hS
    go_simp
  try simp only [Act.put, List.setIfInBounds_toArray, List.set_cons_zero, List.set_cons_succ]
  clear hHeld
  have MP_r1 := (show Hid _ from MP_r0.out.step ((Below.refl _ _).drew))
  clear MP_r0
  generalize World.drew _ = wr1 at *
  refine wpAnyH_ready (rs := [7]) (by kernel_rfl) (by simp) ?_
  refine AllReadyH.cons (by exact rfl) (fun K hK => ?_) AllReadyH.nil
  go_simp
  refine (name_ok 1 _ (by decide)).mono ?_
  rintro e wn ⟨rfl, hwn⟩
  obtain rfl := hwn.symm
  clear hwn
  go_wp2_with fail
  refine hK.out _ _ trivial (fun hHeld => ?_)
  try simp only [Act.put, List.setIfInBounds_toArray, List.set_cons_zero, List.set_cons_succ]
  clear hK K
  
  refine takeD 8 25 (.string (nmb 1 ++ ⟨#[32]⟩)) (by exact rfl) rfl (by kernel_rfl) (by kernel_rfl) (by kernel_rfl) (fun _ _ _ h => h) (Or.inl ⟨by rfl, ?_⟩) (by assumption) ?_
  · intro wq hS
    go_simp
  try simp only [Act.put, List.setIfInBounds_toArray, List.set_cons_zero, List.set_cons_succ]
  refine takeD 9 26 (.bool true) (by exact rfl) rfl (by kernel_rfl) (by kernel_rfl) (by kernel_rfl) (fun _ _ _ h => h) (Or.inl ⟨by rfl, ?_⟩) (by assumption) ?_
  · intro wq hS
    go_simp
  try simp only [Act.put, List.setIfInBounds_toArray, List.set_cons_zero, List.set_cons_succ]
  refine takeD 10 27 (.bool true) (by exact rfl) rfl (by kernel_rfl) (by kernel_rfl) (by kernel_rfl) (fun _ _ _ h => h) (Or.inl ⟨by rfl, ?_⟩) (by assumption) ?_
  · intro wq hS
    go_simp
  try simp only [Act.put, List.setIfInBounds_toArray, List.set_cons_zero, List.set_cons_succ]
  clear hHeld
  refine wpAnyH_done (by kernel_rfl) ?_ _
  refine NoPanic.normal ?_
  go_wp2_with fail
  rw [rounds_succ]
  go_upto_region 6 with fail
  refine wp_region_noPanic ?_
  refine wp_region_held_drew (S := fun _ => True) (by kernel_rfl) trivial (fun hHeld => ?_)
  refine takeD 0 17 (.string s) (by exact rfl) rfl (by kernel_rfl) (by kernel_rfl) (by kernel_rfl) (fun _ _ _ h => h) (Or.inl ⟨by rfl, ?_⟩) (by assumption) ?_
  · intro wq hS
    go_simp
  try simp only [Act.put, List.setIfInBounds_toArray, List.set_cons_zero, List.set_cons_succ]
  refine takeD 1 18 (.int .i64 (s.size : Int)) (by exact rfl) rfl (by kernel_rfl) (by kernel_rfl) (by kernel_rfl) (fun _ _ _ h => h) (Or.inl ⟨by rfl, ?_⟩) (by assumption) ?_
  · intro wq hS
    go_simp
  try simp only [Act.put, List.setIfInBounds_toArray, List.set_cons_zero, List.set_cons_succ]
  refine takeD 2 19 (.bool false) (by exact rfl) rfl (by kernel_rfl) (by kernel_rfl) (by kernel_rfl) (fun _ _ _ h => h) (Or.inl ⟨by rfl, ?_⟩) (by assumption) ?_
  · intro wq hS
    go_simp
  try simp only [Act.put, List.setIfInBounds_toArray, List.set_cons_zero, List.set_cons_succ]
  refine takeD 3 20 (.bool false) (by exact rfl) rfl (by kernel_rfl) (by kernel_rfl) (by kernel_rfl) (fun _ _ _ h => h) (Or.inl ⟨by rfl, ?_⟩) (by assumption) ?_
  · intro wq hS
    go_simp
  try simp only [Act.put, List.setIfInBounds_toArray, List.set_cons_zero, List.set_cons_succ]
  refine takeD 4 21 (.string s) (by exact rfl) rfl (by kernel_rfl) (by kernel_rfl) (by kernel_rfl) (fun _ _ _ h => h) (Or.inl ⟨by rfl, ?_⟩) (by assumption) ?_
  · intro wq hS
    go_simp
  try simp only [Act.put, List.setIfInBounds_toArray, List.set_cons_zero, List.set_cons_succ]
  refine takeD 5 22 (.string (s.extract 0 4)) (by exact rfl) rfl (by kernel_rfl) (by kernel_rfl) (by kernel_rfl) (fun _ _ _ h => h) (Or.inl ⟨by rfl, ?_⟩) (by assumption) ?_
  · intro wq hS
    go_simp
  try simp only [Act.put, List.setIfInBounds_toArray, List.set_cons_zero, List.set_cons_succ]
  refine takeD 6 23 (.int .i64 2) (by exact rfl) rfl (by kernel_rfl) (by kernel_rfl) (by kernel_rfl) (fun _ _ _ h => h) (Or.inl ⟨by rfl, ?_⟩) (by assumption) ?_
  · intro wq hS
    go_simp
  try simp only [Act.put, List.setIfInBounds_toArray, List.set_cons_zero, List.set_cons_succ]
  clear hHeld
  have MP_r2 := (show Hid _ from MP_r1.out.step ((Below.refl _ _).drew))
  clear MP_r1
  generalize World.drew _ = wr2 at *
  refine wpAnyH_ready (rs := [7]) (by kernel_rfl) (by simp) ?_
  refine AllReadyH.cons (by exact rfl) (fun K hK => ?_) AllReadyH.nil
  go_simp
  refine (name_ok 2 _ (by decide)).mono ?_
  rintro e wn ⟨rfl, hwn⟩
  obtain rfl := hwn.symm
  clear hwn
  go_wp2_with fail
  refine hK.out _ _ trivial (fun hHeld => ?_)
  try simp only [Act.put, List.setIfInBounds_toArray, List.set_cons_zero, List.set_cons_succ]
  clear hK K
  
  refine takeD 8 25 (.string (nmb 2 ++ ⟨#[32]⟩)) (by exact rfl) rfl (by kernel_rfl) (by kernel_rfl) (by kernel_rfl) (fun _ _ _ h => h) (Or.inl ⟨by rfl, ?_⟩) (by assumption) ?_
  · intro wq hS
    go_simp
  try simp only [Act.put, List.setIfInBounds_toArray, List.set_cons_zero, List.set_cons_succ]
  refine takeD 9 26 (.bool false) (by exact rfl) rfl (by kernel_rfl) (by kernel_rfl) (by kernel_rfl) (fun _ _ _ h => h) (Or.inl ⟨by rfl, ?_⟩) (by assumption) ?_
  · intro wq hS
    go_simp
  try simp only [Act.put, List.setIfInBounds_toArray, List.set_cons_zero, List.set_cons_succ]
  refine takeD 10 27 (.bool false) (by exact rfl) rfl (by kernel_rfl) (by kernel_rfl) (by kernel_rfl) (fun _ _ _ h => h) (Or.inl ⟨by rfl, ?_⟩) (by assumption) ?_
  · intro wq hS
    go_simp
  try simp only [Act.put, List.setIfInBounds_toArray, List.set_cons_zero, List.set_cons_succ]
  clear hHeld
  refine wpAnyH_done (by kernel_rfl) ?_ _
  refine NoPanic.normal ?_
  go_wp2_with fail
  refine (HPS.out _).mono ?_
  rintro e wp ⟨rfl, bp⟩
  have MP_p := (show Hid _ from (MP_r2.out.step bp).step ((Below.refl _ _).alloc (Nat.le_refl _) (.cells #[.int .i64 x0, .int .u64 x1, .int .i64 x2] 41)))
  have VX_p := (show Hid _ from va_new wp [.int .i64 x0, .int .u64 x1, .int .i64 x2] 41)
  clear bp MP_r2
  go_upto_region 8 with fail
  change Code.wp _ _ _ _ (wp.alloc (.cells #[.int .i64 x0, .int .u64 x1, .int .i64 x2] 41))
  change Hid (MR w (wp.alloc (.cells #[.int .i64 x0, .int .u64 x1, .int .i64 x2] 41))) at MP_p
  change Hid (VA (wp.alloc (.cells #[.int .i64 x0, .int .u64 x1, .int .i64 x2] 41)) _ _ _) at VX_p
  generalize wp.alloc (.cells #[.int .i64 x0, .int .u64 x1, .int .i64 x2] 41) = wq at *
  generalize wp.heap.size = qx at *
  go_wp2_with (refine ldA rfl 41 _ rfl qx (by rfl) [.int .i64 x0, .int .u64 x1, .int .i64 x2] _ VX_p.out _ Tryz.underlying41 rfl infoD ?_)
  refine (HOF.out _).mono ?_
  rintro e wo ⟨rfl, bo⟩
  have MP_o := (show Hid _ from (MP_p.out.step bo).step ((Below.refl _ _).alloc (Nat.le_refl _) (.cells #[.int .i64 m0, .int .i64 m1] 23)))
  have VY_o := (show Hid _ from va_new wo [.int .i64 m0, .int .i64 m1] 23)
  clear bo MP_p VX_p
  go_upto_region 10 with fail
  change Code.wp _ _ _ _ (wo.alloc (.cells #[.int .i64 m0, .int .i64 m1] 23))
  change Hid (MR w (wo.alloc (.cells #[.int .i64 m0, .int .i64 m1] 23))) at MP_o
  change Hid (VA (wo.alloc (.cells #[.int .i64 m0, .int .i64 m1] 23)) _ _ _) at VY_o
  generalize wo.alloc (.cells #[.int .i64 m0, .int .i64 m1] 23) = ws at *
  generalize wo.heap.size = qy at *
  have y0 := VY_o.out.cell 0 (v := .int .i64 m0) rfl
  have y1 := VY_o.out.cell 1 (v := .int .i64 m1) rfl
  go_wp2_with fail
  refine (HWR.out _).mono ?_
  rintro e wv ⟨rfl, bv⟩
  have MP_v := (show Hid _ from MP_o.out.step bv)
  have VY_v := (show Hid _ from VY_o.out.step bv)
  clear bv MP_o VY_o y0 y1
  go_wp2_with fail
  rw [rounds_succ]
  go_upto_region 6 with fail
  refine wp_region_noPanic ?_
  refine wp_region_held_drew (S := fun _ => True) (by kernel_rfl) trivial (fun hHeld => ?_)
  refine takeD 0 17 (.string s) (by exact rfl) rfl (by kernel_rfl) (by kernel_rfl) (by kernel_rfl) (fun _ _ _ h => h) (Or.inl ⟨by rfl, ?_⟩) (by assumption) ?_
  · intro wq hS
    go_simp
  try simp only [Act.put, List.setIfInBounds_toArray, List.set_cons_zero, List.set_cons_succ]
  refine takeD 1 18 (.int .i64 (s.size : Int)) (by exact rfl) rfl (by kernel_rfl) (by kernel_rfl) (by kernel_rfl) (fun _ _ _ h => h) (Or.inl ⟨by rfl, ?_⟩) (by assumption) ?_
  · intro wq hS
    go_simp
  try simp only [Act.put, List.setIfInBounds_toArray, List.set_cons_zero, List.set_cons_succ]
  refine takeD 2 19 (.bool false) (by exact rfl) rfl (by kernel_rfl) (by kernel_rfl) (by kernel_rfl) (fun _ _ _ h => h) (Or.inl ⟨by rfl, ?_⟩) (by assumption) ?_
  · intro wq hS
    go_simp
  try simp only [Act.put, List.setIfInBounds_toArray, List.set_cons_zero, List.set_cons_succ]
  refine takeD 3 20 (.bool false) (by exact rfl) rfl (by kernel_rfl) (by kernel_rfl) (by kernel_rfl) (fun _ _ _ h => h) (Or.inl ⟨by rfl, ?_⟩) (by assumption) ?_
  · intro wq hS
    go_simp
  try simp only [Act.put, List.setIfInBounds_toArray, List.set_cons_zero, List.set_cons_succ]
  refine takeD 4 21 (.string s) (by exact rfl) rfl (by kernel_rfl) (by kernel_rfl) (by kernel_rfl) (fun _ _ _ h => h) (Or.inl ⟨by rfl, ?_⟩) (by assumption) ?_
  · intro wq hS
    go_simp
  try simp only [Act.put, List.setIfInBounds_toArray, List.set_cons_zero, List.set_cons_succ]
  refine takeD 5 22 (.string (s.extract 0 4)) (by exact rfl) rfl (by kernel_rfl) (by kernel_rfl) (by kernel_rfl) (fun _ _ _ h => h) (Or.inl ⟨by rfl, ?_⟩) (by assumption) ?_
  · intro wq hS
    go_simp
  try simp only [Act.put, List.setIfInBounds_toArray, List.set_cons_zero, List.set_cons_succ]
  refine takeD 6 23 (.int .i64 3) (by exact rfl) rfl (by kernel_rfl) (by kernel_rfl) (by kernel_rfl) (fun _ _ _ h => h) (Or.inl ⟨by rfl, ?_⟩) (by assumption) ?_
  · intro wq hS
    go_simp
  try simp only [Act.put, List.setIfInBounds_toArray, List.set_cons_zero, List.set_cons_succ]
  clear hHeld
  have MP_r3 := (show Hid _ from MP_v.out.step ((Below.refl _ _).drew))
  clear MP_v
  generalize World.drew _ = wr3 at *
  refine wpAnyH_ready (rs := [7]) (by kernel_rfl) (by simp) ?_
  refine AllReadyH.cons (by exact rfl) (fun K hK => ?_) AllReadyH.nil
  go_simp
  refine (name_ok 3 _ (by decide)).mono ?_
  rintro e wn ⟨rfl, hwn⟩
  obtain rfl := hwn.symm
  clear hwn
  go_wp2_with fail
  refine hK.out _ _ trivial (fun hHeld => ?_)
  try simp only [Act.put, List.setIfInBounds_toArray, List.set_cons_zero, List.set_cons_succ]
  clear hK K
  
  refine takeD 8 25 (.string (nmb 3 ++ ⟨#[32]⟩)) (by exact rfl) rfl (by kernel_rfl) (by kernel_rfl) (by kernel_rfl) (fun _ _ _ h => h) (Or.inl ⟨by rfl, ?_⟩) (by assumption) ?_
  · intro wq hS
    go_simp
  try simp only [Act.put, List.setIfInBounds_toArray, List.set_cons_zero, List.set_cons_succ]
  refine takeD 9 26 (.bool true) (by exact rfl) rfl (by kernel_rfl) (by kernel_rfl) (by kernel_rfl) (fun _ _ _ h => h) (Or.inl ⟨by rfl, ?_⟩) (by assumption) ?_
  · intro wq hS
    go_simp
  try simp only [Act.put, List.setIfInBounds_toArray, List.set_cons_zero, List.set_cons_succ]
  refine takeD 10 27 (.bool true) (by exact rfl) rfl (by kernel_rfl) (by kernel_rfl) (by kernel_rfl) (fun _ _ _ h => h) (Or.inl ⟨by rfl, ?_⟩) (by assumption) ?_
  · intro wq hS
    go_simp
  try simp only [Act.put, List.setIfInBounds_toArray, List.set_cons_zero, List.set_cons_succ]
  clear hHeld
  refine wpAnyH_done (by kernel_rfl) ?_ _
  refine NoPanic.normal ?_
  go_wp2_with fail
  rw [rounds_succ]
  go_wp2_with (refine stA rfl 23 _ _ rfl w.heap.size (by rfl) (mcl 0 0) (mcl 0 0) (by rfl) 23 MP_r3.out.r infoM rfl (mcl_one _ _) ?_; intro wf vf uf)
  have hld := run_loadVar_row (P := Tryz.prog) wf w.heap.size 23 23 _ (0, 0) _ vf.blk Tryz.underlying23 rfl infoM
  exact bodyPost_ret (v := .tuple #[.agg (mcl 0 0).toArray, .int .i64 6]) (by simp [results, Tryz.results9, asAddr, hld]) rfl ⟨rfl, uf.bel MP_r3.out.b (Nat.le_refl _)⟩
set_option maxHeartbeats 4000000 in
set_option maxRecDepth 100000 in
theorem dm_ok_2 (s : ByteArray) (w : World) (hs : s.size ≤ 64) (hs4 : 4 ≤ s.size) (hb0 : ((s.extract 0 4).toList == (nmb 0 ++ ⟨#[32]⟩).toList) = false) (hb1 : ((s.extract 0 4).toList == (nmb 1 ++ ⟨#[32]⟩).toList) = false) (hb2 : ((s.extract 0 4).toList == (nmb 2 ++ ⟨#[32]⟩).toList) = true) (hb3 : ((s.extract 0 4).toList == (nmb 3 ++ ⟨#[32]⟩).toList) = false) (x0 x1 x2 at' e0 : Int) (hP : ∀ w, Calls Tryz.prog 22 #[.string (s.extract 4 s.size)] w fun r w' => r = .returned (.tuple #[.agg #[.int .i64 x0, .int .u64 x1, .int .i64 x2], .int .i64 at', .int .i64 e0]) ∧ Below w.heap.size w w') (m0 m1 e2 : Int) (hO : ∀ w, Calls Tryz.prog 23 #[.agg #[.int .i64 x0, .int .u64 x1, .int .i64 x2], .int .i64 2, .int .i64 0] w fun r w' => r = .returned (.tuple #[.agg #[.int .i64 m0, .int .i64 m1], .int .i64 e2]) ∧ Below w.heap.size w w') (t2 : ByteArray) (hW : ∀ w, Calls Tryz.prog 7 #[.agg #[.int .i64 m0, .int .i64 m1]] w fun r w' => r = .returned (.string t2) ∧ Below w.heap.size w w') (he : e0 = 0) (he2 : e2 = 0) (q3 : (t2.toList == s.toList) = true) : Calls Tryz.prog 9 #[.string s] w fun e w' => e = .returned (.tuple #[.agg (mcl m0 m1).toArray, .int .i64 0]) ∧ Below w.heap.size w w' := by
  subst he
  subst he2
  have HOF := (show Hid _ from hO)
  have HWR := (show Hid _ from hW)
  clear hO hW
  have h4 : ¬ (s.size : Int) < 4 := by omega
  have sz0 := nmb_size (i := 0) (by decide)
  have sz1 := nmb_size (i := 1) (by decide)
  have sz2 := nmb_size (i := 2) (by decide)
  have sz3 := nmb_size (i := 3) (by decide)
  have HPS := (show Hid _ from hP)
  clear hP
  have hs' : ¬ (64 : Int) < s.size := by omega
  have MP_0 := (show Hid _ from mr_new w)
  clear hs
  go_enter Tryz.func9, Tryz.ntmps9
  go_upto_region 3 with fail
  change Code.wp _ _ _ _ (w.alloc (.cells (mcl 0 0).toArray 23))
  generalize (w.alloc (.cells (mcl 0 0).toArray 23)) = w0 at *
  go_wp2_with fail
  refine wp_loop_rounds 5 ?_
  rw [rounds_succ]
  go_upto_region 6 with fail
  refine wp_region_noPanic ?_
  refine wp_region_held_drew (S := fun _ => True) (by kernel_rfl) trivial (fun hHeld => ?_)
  refine takeD 0 17 (.string s) (by exact rfl) rfl (by kernel_rfl) (by kernel_rfl) (by kernel_rfl) (fun _ _ _ h => h) (Or.inl ⟨by rfl, ?_⟩) (by assumption) ?_
  · intro wq hS
    go_simp
  try simp only [Act.put, List.setIfInBounds_toArray, List.set_cons_zero, List.set_cons_succ]
  refine takeD 1 18 (.int .i64 (s.size : Int)) (by exact rfl) rfl (by kernel_rfl) (by kernel_rfl) (by kernel_rfl) (fun _ _ _ h => h) (Or.inl ⟨by rfl, ?_⟩) (by assumption) ?_
  · intro wq hS
    go_simp
  try simp only [Act.put, List.setIfInBounds_toArray, List.set_cons_zero, List.set_cons_succ]
  refine takeD 2 19 (.bool false) (by exact rfl) rfl (by kernel_rfl) (by kernel_rfl) (by kernel_rfl) (fun _ _ _ h => h) (Or.inl ⟨by rfl, ?_⟩) (by assumption) ?_
  · intro wq hS
    go_simp
  try simp only [Act.put, List.setIfInBounds_toArray, List.set_cons_zero, List.set_cons_succ]
  refine takeD 3 20 (.bool false) (by exact rfl) rfl (by kernel_rfl) (by kernel_rfl) (by kernel_rfl) (fun _ _ _ h => h) (Or.inl ⟨by rfl, ?_⟩) (by assumption) ?_
  · intro wq hS
    go_simp
  try simp only [Act.put, List.setIfInBounds_toArray, List.set_cons_zero, List.set_cons_succ]
  refine takeD 4 21 (.string s) (by exact rfl) rfl (by kernel_rfl) (by kernel_rfl) (by kernel_rfl) (fun _ _ _ h => h) (Or.inl ⟨by rfl, ?_⟩) (by assumption) ?_
  · intro wq hS
    go_simp
  try simp only [Act.put, List.setIfInBounds_toArray, List.set_cons_zero, List.set_cons_succ]
  refine takeD 5 22 (.string (s.extract 0 4)) (by exact rfl) rfl (by kernel_rfl) (by kernel_rfl) (by kernel_rfl) (fun _ _ _ h => h) (Or.inl ⟨by rfl, ?_⟩) (by assumption) ?_
  · intro wq hS
    go_simp
  try simp only [Act.put, List.setIfInBounds_toArray, List.set_cons_zero, List.set_cons_succ]
  refine takeD 6 23 (.int .i64 0) (by exact rfl) rfl (by kernel_rfl) (by kernel_rfl) (by kernel_rfl) (fun _ _ _ h => h) (Or.inl ⟨by rfl, ?_⟩) (by assumption) ?_
  · intro wq hS
    go_simp
  try simp only [Act.put, List.setIfInBounds_toArray, List.set_cons_zero, List.set_cons_succ]
  clear hHeld
  have MP_r0 := (show Hid _ from MP_0.out.step ((Below.refl _ _).drew))
  clear MP_0
  generalize World.drew _ = wr0 at *
  refine wpAnyH_ready (rs := [7]) (by kernel_rfl) (by simp) ?_
  refine AllReadyH.cons (by exact rfl) (fun K hK => ?_) AllReadyH.nil
  go_simp
  refine (name_ok 0 _ (by decide)).mono ?_
  rintro e wn ⟨rfl, hwn⟩
  obtain rfl := hwn.symm
  clear hwn
  go_wp2_with fail
  refine hK.out _ _ trivial (fun hHeld => ?_)
  try simp only [Act.put, List.setIfInBounds_toArray, List.set_cons_zero, List.set_cons_succ]
  clear hK K
  
  refine takeD 8 25 (.string (nmb 0 ++ ⟨#[32]⟩)) (by exact rfl) rfl (by kernel_rfl) (by kernel_rfl) (by kernel_rfl) (fun _ _ _ h => h) (Or.inl ⟨by rfl, ?_⟩) (by assumption) ?_
  · intro wq hS
    go_simp
  try simp only [Act.put, List.setIfInBounds_toArray, List.set_cons_zero, List.set_cons_succ]
  refine takeD 9 26 (.bool true) (by exact rfl) rfl (by kernel_rfl) (by kernel_rfl) (by kernel_rfl) (fun _ _ _ h => h) (Or.inl ⟨by rfl, ?_⟩) (by assumption) ?_
  · intro wq hS
    go_simp
  try simp only [Act.put, List.setIfInBounds_toArray, List.set_cons_zero, List.set_cons_succ]
  refine takeD 10 27 (.bool true) (by exact rfl) rfl (by kernel_rfl) (by kernel_rfl) (by kernel_rfl) (fun _ _ _ h => h) (Or.inl ⟨by rfl, ?_⟩) (by assumption) ?_
  · intro wq hS
    go_simp
  try simp only [Act.put, List.setIfInBounds_toArray, List.set_cons_zero, List.set_cons_succ]
  clear hHeld
  refine wpAnyH_done (by kernel_rfl) ?_ _
  refine NoPanic.normal ?_
  go_wp2_with fail
  rw [rounds_succ]
  go_upto_region 6 with fail
  refine wp_region_noPanic ?_
  refine wp_region_held_drew (S := fun _ => True) (by kernel_rfl) trivial (fun hHeld => ?_)
  refine takeD 0 17 (.string s) (by exact rfl) rfl (by kernel_rfl) (by kernel_rfl) (by kernel_rfl) (fun _ _ _ h => h) (Or.inl ⟨by rfl, ?_⟩) (by assumption) ?_
  · intro wq hS
    go_simp
  try simp only [Act.put, List.setIfInBounds_toArray, List.set_cons_zero, List.set_cons_succ]
  refine takeD 1 18 (.int .i64 (s.size : Int)) (by exact rfl) rfl (by kernel_rfl) (by kernel_rfl) (by kernel_rfl) (fun _ _ _ h => h) (Or.inl ⟨by rfl, ?_⟩) (by assumption) ?_
  · intro wq hS
    go_simp
  try simp only [Act.put, List.setIfInBounds_toArray, List.set_cons_zero, List.set_cons_succ]
  refine takeD 2 19 (.bool false) (by exact rfl) rfl (by kernel_rfl) (by kernel_rfl) (by kernel_rfl) (fun _ _ _ h => h) (Or.inl ⟨by rfl, ?_⟩) (by assumption) ?_
  · intro wq hS
    go_simp
  try simp only [Act.put, List.setIfInBounds_toArray, List.set_cons_zero, List.set_cons_succ]
  refine takeD 3 20 (.bool false) (by exact rfl) rfl (by kernel_rfl) (by kernel_rfl) (by kernel_rfl) (fun _ _ _ h => h) (Or.inl ⟨by rfl, ?_⟩) (by assumption) ?_
  · intro wq hS
    go_simp
  try simp only [Act.put, List.setIfInBounds_toArray, List.set_cons_zero, List.set_cons_succ]
  refine takeD 4 21 (.string s) (by exact rfl) rfl (by kernel_rfl) (by kernel_rfl) (by kernel_rfl) (fun _ _ _ h => h) (Or.inl ⟨by rfl, ?_⟩) (by assumption) ?_
  · intro wq hS
    go_simp
  try simp only [Act.put, List.setIfInBounds_toArray, List.set_cons_zero, List.set_cons_succ]
  refine takeD 5 22 (.string (s.extract 0 4)) (by exact rfl) rfl (by kernel_rfl) (by kernel_rfl) (by kernel_rfl) (fun _ _ _ h => h) (Or.inl ⟨by rfl, ?_⟩) (by assumption) ?_
  · intro wq hS
    go_simp
  try simp only [Act.put, List.setIfInBounds_toArray, List.set_cons_zero, List.set_cons_succ]
  refine takeD 6 23 (.int .i64 1) (by exact rfl) rfl (by kernel_rfl) (by kernel_rfl) (by kernel_rfl) (fun _ _ _ h => h) (Or.inl ⟨by rfl, ?_⟩) (by assumption) ?_
  · intro wq hS
    go_simp
  try simp only [Act.put, List.setIfInBounds_toArray, List.set_cons_zero, List.set_cons_succ]
  clear hHeld
  have MP_r1 := (show Hid _ from MP_r0.out.step ((Below.refl _ _).drew))
  clear MP_r0
  generalize World.drew _ = wr1 at *
  refine wpAnyH_ready (rs := [7]) (by kernel_rfl) (by simp) ?_
  refine AllReadyH.cons (by exact rfl) (fun K hK => ?_) AllReadyH.nil
  go_simp
  refine (name_ok 1 _ (by decide)).mono ?_
  rintro e wn ⟨rfl, hwn⟩
  obtain rfl := hwn.symm
  clear hwn
  go_wp2_with fail
  refine hK.out _ _ trivial (fun hHeld => ?_)
  try simp only [Act.put, List.setIfInBounds_toArray, List.set_cons_zero, List.set_cons_succ]
  clear hK K
  
  refine takeD 8 25 (.string (nmb 1 ++ ⟨#[32]⟩)) (by exact rfl) rfl (by kernel_rfl) (by kernel_rfl) (by kernel_rfl) (fun _ _ _ h => h) (Or.inl ⟨by rfl, ?_⟩) (by assumption) ?_
  · intro wq hS
    go_simp
  try simp only [Act.put, List.setIfInBounds_toArray, List.set_cons_zero, List.set_cons_succ]
  refine takeD 9 26 (.bool true) (by exact rfl) rfl (by kernel_rfl) (by kernel_rfl) (by kernel_rfl) (fun _ _ _ h => h) (Or.inl ⟨by rfl, ?_⟩) (by assumption) ?_
  · intro wq hS
    go_simp
  try simp only [Act.put, List.setIfInBounds_toArray, List.set_cons_zero, List.set_cons_succ]
  refine takeD 10 27 (.bool true) (by exact rfl) rfl (by kernel_rfl) (by kernel_rfl) (by kernel_rfl) (fun _ _ _ h => h) (Or.inl ⟨by rfl, ?_⟩) (by assumption) ?_
  · intro wq hS
    go_simp
  try simp only [Act.put, List.setIfInBounds_toArray, List.set_cons_zero, List.set_cons_succ]
  clear hHeld
  refine wpAnyH_done (by kernel_rfl) ?_ _
  refine NoPanic.normal ?_
  go_wp2_with fail
  rw [rounds_succ]
  go_upto_region 6 with fail
  refine wp_region_noPanic ?_
  refine wp_region_held_drew (S := fun _ => True) (by kernel_rfl) trivial (fun hHeld => ?_)
  refine takeD 0 17 (.string s) (by exact rfl) rfl (by kernel_rfl) (by kernel_rfl) (by kernel_rfl) (fun _ _ _ h => h) (Or.inl ⟨by rfl, ?_⟩) (by assumption) ?_
  · intro wq hS
    go_simp
  try simp only [Act.put, List.setIfInBounds_toArray, List.set_cons_zero, List.set_cons_succ]
  refine takeD 1 18 (.int .i64 (s.size : Int)) (by exact rfl) rfl (by kernel_rfl) (by kernel_rfl) (by kernel_rfl) (fun _ _ _ h => h) (Or.inl ⟨by rfl, ?_⟩) (by assumption) ?_
  · intro wq hS
    go_simp
  try simp only [Act.put, List.setIfInBounds_toArray, List.set_cons_zero, List.set_cons_succ]
  refine takeD 2 19 (.bool false) (by exact rfl) rfl (by kernel_rfl) (by kernel_rfl) (by kernel_rfl) (fun _ _ _ h => h) (Or.inl ⟨by rfl, ?_⟩) (by assumption) ?_
  · intro wq hS
    go_simp
  try simp only [Act.put, List.setIfInBounds_toArray, List.set_cons_zero, List.set_cons_succ]
  refine takeD 3 20 (.bool false) (by exact rfl) rfl (by kernel_rfl) (by kernel_rfl) (by kernel_rfl) (fun _ _ _ h => h) (Or.inl ⟨by rfl, ?_⟩) (by assumption) ?_
  · intro wq hS
    go_simp
  try simp only [Act.put, List.setIfInBounds_toArray, List.set_cons_zero, List.set_cons_succ]
  refine takeD 4 21 (.string s) (by exact rfl) rfl (by kernel_rfl) (by kernel_rfl) (by kernel_rfl) (fun _ _ _ h => h) (Or.inl ⟨by rfl, ?_⟩) (by assumption) ?_
  · intro wq hS
    go_simp
  try simp only [Act.put, List.setIfInBounds_toArray, List.set_cons_zero, List.set_cons_succ]
  refine takeD 5 22 (.string (s.extract 0 4)) (by exact rfl) rfl (by kernel_rfl) (by kernel_rfl) (by kernel_rfl) (fun _ _ _ h => h) (Or.inl ⟨by rfl, ?_⟩) (by assumption) ?_
  · intro wq hS
    go_simp
  try simp only [Act.put, List.setIfInBounds_toArray, List.set_cons_zero, List.set_cons_succ]
  refine takeD 6 23 (.int .i64 2) (by exact rfl) rfl (by kernel_rfl) (by kernel_rfl) (by kernel_rfl) (fun _ _ _ h => h) (Or.inl ⟨by rfl, ?_⟩) (by assumption) ?_
  · intro wq hS
    go_simp
  try simp only [Act.put, List.setIfInBounds_toArray, List.set_cons_zero, List.set_cons_succ]
  clear hHeld
  have MP_r2 := (show Hid _ from MP_r1.out.step ((Below.refl _ _).drew))
  clear MP_r1
  generalize World.drew _ = wr2 at *
  refine wpAnyH_ready (rs := [7]) (by kernel_rfl) (by simp) ?_
  refine AllReadyH.cons (by exact rfl) (fun K hK => ?_) AllReadyH.nil
  go_simp
  refine (name_ok 2 _ (by decide)).mono ?_
  rintro e wn ⟨rfl, hwn⟩
  obtain rfl := hwn.symm
  clear hwn
  go_wp2_with fail
  refine hK.out _ _ trivial (fun hHeld => ?_)
  try simp only [Act.put, List.setIfInBounds_toArray, List.set_cons_zero, List.set_cons_succ]
  clear hK K
  
  refine takeD 8 25 (.string (nmb 2 ++ ⟨#[32]⟩)) (by exact rfl) rfl (by kernel_rfl) (by kernel_rfl) (by kernel_rfl) (fun _ _ _ h => h) (Or.inl ⟨by rfl, ?_⟩) (by assumption) ?_
  · intro wq hS
    go_simp
  try simp only [Act.put, List.setIfInBounds_toArray, List.set_cons_zero, List.set_cons_succ]
  refine takeD 9 26 (.bool false) (by exact rfl) rfl (by kernel_rfl) (by kernel_rfl) (by kernel_rfl) (fun _ _ _ h => h) (Or.inl ⟨by rfl, ?_⟩) (by assumption) ?_
  · intro wq hS
    go_simp
  try simp only [Act.put, List.setIfInBounds_toArray, List.set_cons_zero, List.set_cons_succ]
  refine takeD 10 27 (.bool false) (by exact rfl) rfl (by kernel_rfl) (by kernel_rfl) (by kernel_rfl) (fun _ _ _ h => h) (Or.inl ⟨by rfl, ?_⟩) (by assumption) ?_
  · intro wq hS
    go_simp
  try simp only [Act.put, List.setIfInBounds_toArray, List.set_cons_zero, List.set_cons_succ]
  clear hHeld
  refine wpAnyH_done (by kernel_rfl) ?_ _
  refine NoPanic.normal ?_
  go_wp2_with fail
  refine (HPS.out _).mono ?_
  rintro e wp ⟨rfl, bp⟩
  have MP_p := (show Hid _ from (MP_r2.out.step bp).step ((Below.refl _ _).alloc (Nat.le_refl _) (.cells #[.int .i64 x0, .int .u64 x1, .int .i64 x2] 41)))
  have VX_p := (show Hid _ from va_new wp [.int .i64 x0, .int .u64 x1, .int .i64 x2] 41)
  clear bp MP_r2
  go_upto_region 8 with fail
  change Code.wp _ _ _ _ (wp.alloc (.cells #[.int .i64 x0, .int .u64 x1, .int .i64 x2] 41))
  change Hid (MR w (wp.alloc (.cells #[.int .i64 x0, .int .u64 x1, .int .i64 x2] 41))) at MP_p
  change Hid (VA (wp.alloc (.cells #[.int .i64 x0, .int .u64 x1, .int .i64 x2] 41)) _ _ _) at VX_p
  generalize wp.alloc (.cells #[.int .i64 x0, .int .u64 x1, .int .i64 x2] 41) = wq at *
  generalize wp.heap.size = qx at *
  go_wp2_with (refine ldA rfl 41 _ rfl qx (by rfl) [.int .i64 x0, .int .u64 x1, .int .i64 x2] _ VX_p.out _ Tryz.underlying41 rfl infoD ?_)
  refine (HOF.out _).mono ?_
  rintro e wo ⟨rfl, bo⟩
  have MP_o := (show Hid _ from (MP_p.out.step bo).step ((Below.refl _ _).alloc (Nat.le_refl _) (.cells #[.int .i64 m0, .int .i64 m1] 23)))
  have VY_o := (show Hid _ from va_new wo [.int .i64 m0, .int .i64 m1] 23)
  clear bo MP_p VX_p
  go_upto_region 10 with fail
  change Code.wp _ _ _ _ (wo.alloc (.cells #[.int .i64 m0, .int .i64 m1] 23))
  change Hid (MR w (wo.alloc (.cells #[.int .i64 m0, .int .i64 m1] 23))) at MP_o
  change Hid (VA (wo.alloc (.cells #[.int .i64 m0, .int .i64 m1] 23)) _ _ _) at VY_o
  generalize wo.alloc (.cells #[.int .i64 m0, .int .i64 m1] 23) = ws at *
  generalize wo.heap.size = qy at *
  have y0 := VY_o.out.cell 0 (v := .int .i64 m0) rfl
  have y1 := VY_o.out.cell 1 (v := .int .i64 m1) rfl
  go_wp2_with fail
  refine (HWR.out _).mono ?_
  rintro e wv ⟨rfl, bv⟩
  have MP_v := (show Hid _ from MP_o.out.step bv)
  have VY_v := (show Hid _ from VY_o.out.step bv)
  clear bv MP_o VY_o y0 y1
  go_wp2_with (first | (refine ldA rfl 23 _ rfl qy (by rfl) (mcl m0 m1) _ VY_v.out _ Tryz.underlying23 rfl infoM ?_) | (refine stA rfl 23 _ _ rfl w.heap.size (by rfl) (mcl 0 0) (mcl m0 m1) (by rfl) 23 MP_v.out.r infoM rfl (mcl_one _ _) ?_; intro wf vf uf))
  have hld := run_loadVar_row (P := Tryz.prog) wf w.heap.size 23 23 _ (0, 0) _ vf.blk Tryz.underlying23 rfl infoM
  exact bodyPost_ret (v := .tuple #[.agg (mcl m0 m1).toArray, .int .i64 0]) (by simp [results, Tryz.results9, asAddr, hld]) rfl ⟨rfl, uf.bel MP_v.out.b (Nat.le_refl _)⟩
set_option maxHeartbeats 4000000 in
set_option maxRecDepth 100000 in
theorem dm_ne_3 (s : ByteArray) (w : World) (hs : s.size ≤ 64) (hs4 : 4 ≤ s.size) (hb0 : ((s.extract 0 4).toList == (nmb 0 ++ ⟨#[32]⟩).toList) = false) (hb1 : ((s.extract 0 4).toList == (nmb 1 ++ ⟨#[32]⟩).toList) = false) (hb2 : ((s.extract 0 4).toList == (nmb 2 ++ ⟨#[32]⟩).toList) = false) (hb3 : ((s.extract 0 4).toList == (nmb 3 ++ ⟨#[32]⟩).toList) = true) (x0 x1 x2 at' e0 : Int) (hP : ∀ w, Calls Tryz.prog 22 #[.string (s.extract 4 s.size)] w fun r w' => r = .returned (.tuple #[.agg #[.int .i64 x0, .int .u64 x1, .int .i64 x2], .int .i64 at', .int .i64 e0]) ∧ Below w.heap.size w w') (m0 m1 e2 : Int) (hO : ∀ w, Calls Tryz.prog 23 #[.agg #[.int .i64 x0, .int .u64 x1, .int .i64 x2], .int .i64 3, .int .i64 0] w fun r w' => r = .returned (.tuple #[.agg #[.int .i64 m0, .int .i64 m1], .int .i64 e2]) ∧ Below w.heap.size w w') (t2 : ByteArray) (hW : ∀ w, Calls Tryz.prog 7 #[.agg #[.int .i64 m0, .int .i64 m1]] w fun r w' => r = .returned (.string t2) ∧ Below w.heap.size w w') (he : e0 = 0) (he2 : e2 = 0) (q3 : (t2.toList == s.toList) = false) : Calls Tryz.prog 9 #[.string s] w fun e w' => e = .returned (.tuple #[.agg (mcl 0 0).toArray, .int .i64 6]) ∧ Below w.heap.size w w' := by
  subst he
  subst he2
  have HOF := (show Hid _ from hO)
  have HWR := (show Hid _ from hW)
  clear hO hW
  have h4 : ¬ (s.size : Int) < 4 := by omega
  have sz0 := nmb_size (i := 0) (by decide)
  have sz1 := nmb_size (i := 1) (by decide)
  have sz2 := nmb_size (i := 2) (by decide)
  have sz3 := nmb_size (i := 3) (by decide)
  have HPS := (show Hid _ from hP)
  clear hP
  have hs' : ¬ (64 : Int) < s.size := by omega
  have MP_0 := (show Hid _ from mr_new w)
  clear hs
  go_enter Tryz.func9, Tryz.ntmps9
  go_upto_region 3 with fail
  change Code.wp _ _ _ _ (w.alloc (.cells (mcl 0 0).toArray 23))
  generalize (w.alloc (.cells (mcl 0 0).toArray 23)) = w0 at *
  go_wp2_with fail
  refine wp_loop_rounds 5 ?_
  rw [rounds_succ]
  go_upto_region 6 with fail
  refine wp_region_noPanic ?_
  refine wp_region_held_drew (S := fun _ => True) (by kernel_rfl) trivial (fun hHeld => ?_)
  refine takeD 0 17 (.string s) (by exact rfl) rfl (by kernel_rfl) (by kernel_rfl) (by kernel_rfl) (fun _ _ _ h => h) (Or.inl ⟨by rfl, ?_⟩) (by assumption) ?_
  · intro wq hS
    go_simp
  try simp only [Act.put, List.setIfInBounds_toArray, List.set_cons_zero, List.set_cons_succ]
  refine takeD 1 18 (.int .i64 (s.size : Int)) (by exact rfl) rfl (by kernel_rfl) (by kernel_rfl) (by kernel_rfl) (fun _ _ _ h => h) (Or.inl ⟨by rfl, ?_⟩) (by assumption) ?_
  · intro wq hS
    go_simp
  try simp only [Act.put, List.setIfInBounds_toArray, List.set_cons_zero, List.set_cons_succ]
  refine takeD 2 19 (.bool false) (by exact rfl) rfl (by kernel_rfl) (by kernel_rfl) (by kernel_rfl) (fun _ _ _ h => h) (Or.inl ⟨by rfl, ?_⟩) (by assumption) ?_
  · intro wq hS
    go_simp
  try simp only [Act.put, List.setIfInBounds_toArray, List.set_cons_zero, List.set_cons_succ]
  refine takeD 3 20 (.bool false) (by exact rfl) rfl (by kernel_rfl) (by kernel_rfl) (by kernel_rfl) (fun _ _ _ h => h) (Or.inl ⟨by rfl, ?_⟩) (by assumption) ?_
  · intro wq hS
    go_simp
  try simp only [Act.put, List.setIfInBounds_toArray, List.set_cons_zero, List.set_cons_succ]
  refine takeD 4 21 (.string s) (by exact rfl) rfl (by kernel_rfl) (by kernel_rfl) (by kernel_rfl) (fun _ _ _ h => h) (Or.inl ⟨by rfl, ?_⟩) (by assumption) ?_
  · intro wq hS
    go_simp
  try simp only [Act.put, List.setIfInBounds_toArray, List.set_cons_zero, List.set_cons_succ]
  refine takeD 5 22 (.string (s.extract 0 4)) (by exact rfl) rfl (by kernel_rfl) (by kernel_rfl) (by kernel_rfl) (fun _ _ _ h => h) (Or.inl ⟨by rfl, ?_⟩) (by assumption) ?_
  · intro wq hS
    go_simp
  try simp only [Act.put, List.setIfInBounds_toArray, List.set_cons_zero, List.set_cons_succ]
  refine takeD 6 23 (.int .i64 0) (by exact rfl) rfl (by kernel_rfl) (by kernel_rfl) (by kernel_rfl) (fun _ _ _ h => h) (Or.inl ⟨by rfl, ?_⟩) (by assumption) ?_
  · intro wq hS
    go_simp
  try simp only [Act.put, List.setIfInBounds_toArray, List.set_cons_zero, List.set_cons_succ]
  clear hHeld
  have MP_r0 := (show Hid _ from MP_0.out.step ((Below.refl _ _).drew))
  clear MP_0
  generalize World.drew _ = wr0 at *
  refine wpAnyH_ready (rs := [7]) (by kernel_rfl) (by simp) ?_
  refine AllReadyH.cons (by exact rfl) (fun K hK => ?_) AllReadyH.nil
  go_simp
  refine (name_ok 0 _ (by decide)).mono ?_
  rintro e wn ⟨rfl, hwn⟩
  obtain rfl := hwn.symm
  clear hwn
  go_wp2_with fail
  refine hK.out _ _ trivial (fun hHeld => ?_)
  try simp only [Act.put, List.setIfInBounds_toArray, List.set_cons_zero, List.set_cons_succ]
  clear hK K
  
  refine takeD 8 25 (.string (nmb 0 ++ ⟨#[32]⟩)) (by exact rfl) rfl (by kernel_rfl) (by kernel_rfl) (by kernel_rfl) (fun _ _ _ h => h) (Or.inl ⟨by rfl, ?_⟩) (by assumption) ?_
  · intro wq hS
    go_simp
  try simp only [Act.put, List.setIfInBounds_toArray, List.set_cons_zero, List.set_cons_succ]
  refine takeD 9 26 (.bool true) (by exact rfl) rfl (by kernel_rfl) (by kernel_rfl) (by kernel_rfl) (fun _ _ _ h => h) (Or.inl ⟨by rfl, ?_⟩) (by assumption) ?_
  · intro wq hS
    go_simp
  try simp only [Act.put, List.setIfInBounds_toArray, List.set_cons_zero, List.set_cons_succ]
  refine takeD 10 27 (.bool true) (by exact rfl) rfl (by kernel_rfl) (by kernel_rfl) (by kernel_rfl) (fun _ _ _ h => h) (Or.inl ⟨by rfl, ?_⟩) (by assumption) ?_
  · intro wq hS
    go_simp
  try simp only [Act.put, List.setIfInBounds_toArray, List.set_cons_zero, List.set_cons_succ]
  clear hHeld
  refine wpAnyH_done (by kernel_rfl) ?_ _
  refine NoPanic.normal ?_
  go_wp2_with fail
  rw [rounds_succ]
  go_upto_region 6 with fail
  refine wp_region_noPanic ?_
  refine wp_region_held_drew (S := fun _ => True) (by kernel_rfl) trivial (fun hHeld => ?_)
  refine takeD 0 17 (.string s) (by exact rfl) rfl (by kernel_rfl) (by kernel_rfl) (by kernel_rfl) (fun _ _ _ h => h) (Or.inl ⟨by rfl, ?_⟩) (by assumption) ?_
  · intro wq hS
    go_simp
  try simp only [Act.put, List.setIfInBounds_toArray, List.set_cons_zero, List.set_cons_succ]
  refine takeD 1 18 (.int .i64 (s.size : Int)) (by exact rfl) rfl (by kernel_rfl) (by kernel_rfl) (by kernel_rfl) (fun _ _ _ h => h) (Or.inl ⟨by rfl, ?_⟩) (by assumption) ?_
  · intro wq hS
    go_simp
  try simp only [Act.put, List.setIfInBounds_toArray, List.set_cons_zero, List.set_cons_succ]
  refine takeD 2 19 (.bool false) (by exact rfl) rfl (by kernel_rfl) (by kernel_rfl) (by kernel_rfl) (fun _ _ _ h => h) (Or.inl ⟨by rfl, ?_⟩) (by assumption) ?_
  · intro wq hS
    go_simp
  try simp only [Act.put, List.setIfInBounds_toArray, List.set_cons_zero, List.set_cons_succ]
  refine takeD 3 20 (.bool false) (by exact rfl) rfl (by kernel_rfl) (by kernel_rfl) (by kernel_rfl) (fun _ _ _ h => h) (Or.inl ⟨by rfl, ?_⟩) (by assumption) ?_
  · intro wq hS
    go_simp
  try simp only [Act.put, List.setIfInBounds_toArray, List.set_cons_zero, List.set_cons_succ]
  refine takeD 4 21 (.string s) (by exact rfl) rfl (by kernel_rfl) (by kernel_rfl) (by kernel_rfl) (fun _ _ _ h => h) (Or.inl ⟨by rfl, ?_⟩) (by assumption) ?_
  · intro wq hS
    go_simp
  try simp only [Act.put, List.setIfInBounds_toArray, List.set_cons_zero, List.set_cons_succ]
  refine takeD 5 22 (.string (s.extract 0 4)) (by exact rfl) rfl (by kernel_rfl) (by kernel_rfl) (by kernel_rfl) (fun _ _ _ h => h) (Or.inl ⟨by rfl, ?_⟩) (by assumption) ?_
  · intro wq hS
    go_simp
  try simp only [Act.put, List.setIfInBounds_toArray, List.set_cons_zero, List.set_cons_succ]
  refine takeD 6 23 (.int .i64 1) (by exact rfl) rfl (by kernel_rfl) (by kernel_rfl) (by kernel_rfl) (fun _ _ _ h => h) (Or.inl ⟨by rfl, ?_⟩) (by assumption) ?_
  · intro wq hS
    go_simp
  try simp only [Act.put, List.setIfInBounds_toArray, List.set_cons_zero, List.set_cons_succ]
  clear hHeld
  have MP_r1 := (show Hid _ from MP_r0.out.step ((Below.refl _ _).drew))
  clear MP_r0
  generalize World.drew _ = wr1 at *
  refine wpAnyH_ready (rs := [7]) (by kernel_rfl) (by simp) ?_
  refine AllReadyH.cons (by exact rfl) (fun K hK => ?_) AllReadyH.nil
  go_simp
  refine (name_ok 1 _ (by decide)).mono ?_
  rintro e wn ⟨rfl, hwn⟩
  obtain rfl := hwn.symm
  clear hwn
  go_wp2_with fail
  refine hK.out _ _ trivial (fun hHeld => ?_)
  try simp only [Act.put, List.setIfInBounds_toArray, List.set_cons_zero, List.set_cons_succ]
  clear hK K
  
  refine takeD 8 25 (.string (nmb 1 ++ ⟨#[32]⟩)) (by exact rfl) rfl (by kernel_rfl) (by kernel_rfl) (by kernel_rfl) (fun _ _ _ h => h) (Or.inl ⟨by rfl, ?_⟩) (by assumption) ?_
  · intro wq hS
    go_simp
  try simp only [Act.put, List.setIfInBounds_toArray, List.set_cons_zero, List.set_cons_succ]
  refine takeD 9 26 (.bool true) (by exact rfl) rfl (by kernel_rfl) (by kernel_rfl) (by kernel_rfl) (fun _ _ _ h => h) (Or.inl ⟨by rfl, ?_⟩) (by assumption) ?_
  · intro wq hS
    go_simp
  try simp only [Act.put, List.setIfInBounds_toArray, List.set_cons_zero, List.set_cons_succ]
  refine takeD 10 27 (.bool true) (by exact rfl) rfl (by kernel_rfl) (by kernel_rfl) (by kernel_rfl) (fun _ _ _ h => h) (Or.inl ⟨by rfl, ?_⟩) (by assumption) ?_
  · intro wq hS
    go_simp
  try simp only [Act.put, List.setIfInBounds_toArray, List.set_cons_zero, List.set_cons_succ]
  clear hHeld
  refine wpAnyH_done (by kernel_rfl) ?_ _
  refine NoPanic.normal ?_
  go_wp2_with fail
  rw [rounds_succ]
  go_upto_region 6 with fail
  refine wp_region_noPanic ?_
  refine wp_region_held_drew (S := fun _ => True) (by kernel_rfl) trivial (fun hHeld => ?_)
  refine takeD 0 17 (.string s) (by exact rfl) rfl (by kernel_rfl) (by kernel_rfl) (by kernel_rfl) (fun _ _ _ h => h) (Or.inl ⟨by rfl, ?_⟩) (by assumption) ?_
  · intro wq hS
    go_simp
  try simp only [Act.put, List.setIfInBounds_toArray, List.set_cons_zero, List.set_cons_succ]
  refine takeD 1 18 (.int .i64 (s.size : Int)) (by exact rfl) rfl (by kernel_rfl) (by kernel_rfl) (by kernel_rfl) (fun _ _ _ h => h) (Or.inl ⟨by rfl, ?_⟩) (by assumption) ?_
  · intro wq hS
    go_simp
  try simp only [Act.put, List.setIfInBounds_toArray, List.set_cons_zero, List.set_cons_succ]
  refine takeD 2 19 (.bool false) (by exact rfl) rfl (by kernel_rfl) (by kernel_rfl) (by kernel_rfl) (fun _ _ _ h => h) (Or.inl ⟨by rfl, ?_⟩) (by assumption) ?_
  · intro wq hS
    go_simp
  try simp only [Act.put, List.setIfInBounds_toArray, List.set_cons_zero, List.set_cons_succ]
  refine takeD 3 20 (.bool false) (by exact rfl) rfl (by kernel_rfl) (by kernel_rfl) (by kernel_rfl) (fun _ _ _ h => h) (Or.inl ⟨by rfl, ?_⟩) (by assumption) ?_
  · intro wq hS
    go_simp
  try simp only [Act.put, List.setIfInBounds_toArray, List.set_cons_zero, List.set_cons_succ]
  refine takeD 4 21 (.string s) (by exact rfl) rfl (by kernel_rfl) (by kernel_rfl) (by kernel_rfl) (fun _ _ _ h => h) (Or.inl ⟨by rfl, ?_⟩) (by assumption) ?_
  · intro wq hS
    go_simp
  try simp only [Act.put, List.setIfInBounds_toArray, List.set_cons_zero, List.set_cons_succ]
  refine takeD 5 22 (.string (s.extract 0 4)) (by exact rfl) rfl (by kernel_rfl) (by kernel_rfl) (by kernel_rfl) (fun _ _ _ h => h) (Or.inl ⟨by rfl, ?_⟩) (by assumption) ?_
  · intro wq hS
    go_simp
  try simp only [Act.put, List.setIfInBounds_toArray, List.set_cons_zero, List.set_cons_succ]
  refine takeD 6 23 (.int .i64 2) (by exact rfl) rfl (by kernel_rfl) (by kernel_rfl) (by kernel_rfl) (fun _ _ _ h => h) (Or.inl ⟨by rfl, ?_⟩) (by assumption) ?_
  · intro wq hS
    go_simp
  try simp only [Act.put, List.setIfInBounds_toArray, List.set_cons_zero, List.set_cons_succ]
  clear hHeld
  have MP_r2 := (show Hid _ from MP_r1.out.step ((Below.refl _ _).drew))
  clear MP_r1
  generalize World.drew _ = wr2 at *
  refine wpAnyH_ready (rs := [7]) (by kernel_rfl) (by simp) ?_
  refine AllReadyH.cons (by exact rfl) (fun K hK => ?_) AllReadyH.nil
  go_simp
  refine (name_ok 2 _ (by decide)).mono ?_
  rintro e wn ⟨rfl, hwn⟩
  obtain rfl := hwn.symm
  clear hwn
  go_wp2_with fail
  refine hK.out _ _ trivial (fun hHeld => ?_)
  try simp only [Act.put, List.setIfInBounds_toArray, List.set_cons_zero, List.set_cons_succ]
  clear hK K
  
  refine takeD 8 25 (.string (nmb 2 ++ ⟨#[32]⟩)) (by exact rfl) rfl (by kernel_rfl) (by kernel_rfl) (by kernel_rfl) (fun _ _ _ h => h) (Or.inl ⟨by rfl, ?_⟩) (by assumption) ?_
  · intro wq hS
    go_simp
  try simp only [Act.put, List.setIfInBounds_toArray, List.set_cons_zero, List.set_cons_succ]
  refine takeD 9 26 (.bool true) (by exact rfl) rfl (by kernel_rfl) (by kernel_rfl) (by kernel_rfl) (fun _ _ _ h => h) (Or.inl ⟨by rfl, ?_⟩) (by assumption) ?_
  · intro wq hS
    go_simp
  try simp only [Act.put, List.setIfInBounds_toArray, List.set_cons_zero, List.set_cons_succ]
  refine takeD 10 27 (.bool true) (by exact rfl) rfl (by kernel_rfl) (by kernel_rfl) (by kernel_rfl) (fun _ _ _ h => h) (Or.inl ⟨by rfl, ?_⟩) (by assumption) ?_
  · intro wq hS
    go_simp
  try simp only [Act.put, List.setIfInBounds_toArray, List.set_cons_zero, List.set_cons_succ]
  clear hHeld
  refine wpAnyH_done (by kernel_rfl) ?_ _
  refine NoPanic.normal ?_
  go_wp2_with fail
  rw [rounds_succ]
  go_upto_region 6 with fail
  refine wp_region_noPanic ?_
  refine wp_region_held_drew (S := fun _ => True) (by kernel_rfl) trivial (fun hHeld => ?_)
  refine takeD 0 17 (.string s) (by exact rfl) rfl (by kernel_rfl) (by kernel_rfl) (by kernel_rfl) (fun _ _ _ h => h) (Or.inl ⟨by rfl, ?_⟩) (by assumption) ?_
  · intro wq hS
    go_simp
  try simp only [Act.put, List.setIfInBounds_toArray, List.set_cons_zero, List.set_cons_succ]
  refine takeD 1 18 (.int .i64 (s.size : Int)) (by exact rfl) rfl (by kernel_rfl) (by kernel_rfl) (by kernel_rfl) (fun _ _ _ h => h) (Or.inl ⟨by rfl, ?_⟩) (by assumption) ?_
  · intro wq hS
    go_simp
  try simp only [Act.put, List.setIfInBounds_toArray, List.set_cons_zero, List.set_cons_succ]
  refine takeD 2 19 (.bool false) (by exact rfl) rfl (by kernel_rfl) (by kernel_rfl) (by kernel_rfl) (fun _ _ _ h => h) (Or.inl ⟨by rfl, ?_⟩) (by assumption) ?_
  · intro wq hS
    go_simp
  try simp only [Act.put, List.setIfInBounds_toArray, List.set_cons_zero, List.set_cons_succ]
  refine takeD 3 20 (.bool false) (by exact rfl) rfl (by kernel_rfl) (by kernel_rfl) (by kernel_rfl) (fun _ _ _ h => h) (Or.inl ⟨by rfl, ?_⟩) (by assumption) ?_
  · intro wq hS
    go_simp
  try simp only [Act.put, List.setIfInBounds_toArray, List.set_cons_zero, List.set_cons_succ]
  refine takeD 4 21 (.string s) (by exact rfl) rfl (by kernel_rfl) (by kernel_rfl) (by kernel_rfl) (fun _ _ _ h => h) (Or.inl ⟨by rfl, ?_⟩) (by assumption) ?_
  · intro wq hS
    go_simp
  try simp only [Act.put, List.setIfInBounds_toArray, List.set_cons_zero, List.set_cons_succ]
  refine takeD 5 22 (.string (s.extract 0 4)) (by exact rfl) rfl (by kernel_rfl) (by kernel_rfl) (by kernel_rfl) (fun _ _ _ h => h) (Or.inl ⟨by rfl, ?_⟩) (by assumption) ?_
  · intro wq hS
    go_simp
  try simp only [Act.put, List.setIfInBounds_toArray, List.set_cons_zero, List.set_cons_succ]
  refine takeD 6 23 (.int .i64 3) (by exact rfl) rfl (by kernel_rfl) (by kernel_rfl) (by kernel_rfl) (fun _ _ _ h => h) (Or.inl ⟨by rfl, ?_⟩) (by assumption) ?_
  · intro wq hS
    go_simp
  try simp only [Act.put, List.setIfInBounds_toArray, List.set_cons_zero, List.set_cons_succ]
  clear hHeld
  have MP_r3 := (show Hid _ from MP_r2.out.step ((Below.refl _ _).drew))
  clear MP_r2
  generalize World.drew _ = wr3 at *
  refine wpAnyH_ready (rs := [7]) (by kernel_rfl) (by simp) ?_
  refine AllReadyH.cons (by exact rfl) (fun K hK => ?_) AllReadyH.nil
  go_simp
  refine (name_ok 3 _ (by decide)).mono ?_
  rintro e wn ⟨rfl, hwn⟩
  obtain rfl := hwn.symm
  clear hwn
  go_wp2_with fail
  refine hK.out _ _ trivial (fun hHeld => ?_)
  try simp only [Act.put, List.setIfInBounds_toArray, List.set_cons_zero, List.set_cons_succ]
  clear hK K
  
  refine takeD 8 25 (.string (nmb 3 ++ ⟨#[32]⟩)) (by exact rfl) rfl (by kernel_rfl) (by kernel_rfl) (by kernel_rfl) (fun _ _ _ h => h) (Or.inl ⟨by rfl, ?_⟩) (by assumption) ?_
  · intro wq hS
    go_simp
  try simp only [Act.put, List.setIfInBounds_toArray, List.set_cons_zero, List.set_cons_succ]
  refine takeD 9 26 (.bool false) (by exact rfl) rfl (by kernel_rfl) (by kernel_rfl) (by kernel_rfl) (fun _ _ _ h => h) (Or.inl ⟨by rfl, ?_⟩) (by assumption) ?_
  · intro wq hS
    go_simp
  try simp only [Act.put, List.setIfInBounds_toArray, List.set_cons_zero, List.set_cons_succ]
  refine takeD 10 27 (.bool false) (by exact rfl) rfl (by kernel_rfl) (by kernel_rfl) (by kernel_rfl) (fun _ _ _ h => h) (Or.inl ⟨by rfl, ?_⟩) (by assumption) ?_
  · intro wq hS
    go_simp
  try simp only [Act.put, List.setIfInBounds_toArray, List.set_cons_zero, List.set_cons_succ]
  clear hHeld
  refine wpAnyH_done (by kernel_rfl) ?_ _
  refine NoPanic.normal ?_
  go_wp2_with fail
  refine (HPS.out _).mono ?_
  rintro e wp ⟨rfl, bp⟩
  have MP_p := (show Hid _ from (MP_r3.out.step bp).step ((Below.refl _ _).alloc (Nat.le_refl _) (.cells #[.int .i64 x0, .int .u64 x1, .int .i64 x2] 41)))
  have VX_p := (show Hid _ from va_new wp [.int .i64 x0, .int .u64 x1, .int .i64 x2] 41)
  clear bp MP_r3
  go_upto_region 8 with fail
  change Code.wp _ _ _ _ (wp.alloc (.cells #[.int .i64 x0, .int .u64 x1, .int .i64 x2] 41))
  change Hid (MR w (wp.alloc (.cells #[.int .i64 x0, .int .u64 x1, .int .i64 x2] 41))) at MP_p
  change Hid (VA (wp.alloc (.cells #[.int .i64 x0, .int .u64 x1, .int .i64 x2] 41)) _ _ _) at VX_p
  generalize wp.alloc (.cells #[.int .i64 x0, .int .u64 x1, .int .i64 x2] 41) = wq at *
  generalize wp.heap.size = qx at *
  go_wp2_with (refine ldA rfl 41 _ rfl qx (by rfl) [.int .i64 x0, .int .u64 x1, .int .i64 x2] _ VX_p.out _ Tryz.underlying41 rfl infoD ?_)
  refine (HOF.out _).mono ?_
  rintro e wo ⟨rfl, bo⟩
  have MP_o := (show Hid _ from (MP_p.out.step bo).step ((Below.refl _ _).alloc (Nat.le_refl _) (.cells #[.int .i64 m0, .int .i64 m1] 23)))
  have VY_o := (show Hid _ from va_new wo [.int .i64 m0, .int .i64 m1] 23)
  clear bo MP_p VX_p
  go_upto_region 10 with fail
  change Code.wp _ _ _ _ (wo.alloc (.cells #[.int .i64 m0, .int .i64 m1] 23))
  change Hid (MR w (wo.alloc (.cells #[.int .i64 m0, .int .i64 m1] 23))) at MP_o
  change Hid (VA (wo.alloc (.cells #[.int .i64 m0, .int .i64 m1] 23)) _ _ _) at VY_o
  generalize wo.alloc (.cells #[.int .i64 m0, .int .i64 m1] 23) = ws at *
  generalize wo.heap.size = qy at *
  have y0 := VY_o.out.cell 0 (v := .int .i64 m0) rfl
  have y1 := VY_o.out.cell 1 (v := .int .i64 m1) rfl
  go_wp2_with fail
  refine (HWR.out _).mono ?_
  rintro e wv ⟨rfl, bv⟩
  have MP_v := (show Hid _ from MP_o.out.step bv)
  have VY_v := (show Hid _ from VY_o.out.step bv)
  clear bv MP_o VY_o y0 y1
  go_wp2_with fail
  rw [rounds_succ]
  go_wp2_with (refine stA rfl 23 _ _ rfl w.heap.size (by rfl) (mcl 0 0) (mcl 0 0) (by rfl) 23 MP_v.out.r infoM rfl (mcl_one _ _) ?_; intro wf vf uf)
  have hld := run_loadVar_row (P := Tryz.prog) wf w.heap.size 23 23 _ (0, 0) _ vf.blk Tryz.underlying23 rfl infoM
  exact bodyPost_ret (v := .tuple #[.agg (mcl 0 0).toArray, .int .i64 6]) (by simp [results, Tryz.results9, asAddr, hld]) rfl ⟨rfl, uf.bel MP_v.out.b (Nat.le_refl _)⟩
set_option maxHeartbeats 4000000 in
set_option maxRecDepth 100000 in
theorem dm_ok_3 (s : ByteArray) (w : World) (hs : s.size ≤ 64) (hs4 : 4 ≤ s.size) (hb0 : ((s.extract 0 4).toList == (nmb 0 ++ ⟨#[32]⟩).toList) = false) (hb1 : ((s.extract 0 4).toList == (nmb 1 ++ ⟨#[32]⟩).toList) = false) (hb2 : ((s.extract 0 4).toList == (nmb 2 ++ ⟨#[32]⟩).toList) = false) (hb3 : ((s.extract 0 4).toList == (nmb 3 ++ ⟨#[32]⟩).toList) = true) (x0 x1 x2 at' e0 : Int) (hP : ∀ w, Calls Tryz.prog 22 #[.string (s.extract 4 s.size)] w fun r w' => r = .returned (.tuple #[.agg #[.int .i64 x0, .int .u64 x1, .int .i64 x2], .int .i64 at', .int .i64 e0]) ∧ Below w.heap.size w w') (m0 m1 e2 : Int) (hO : ∀ w, Calls Tryz.prog 23 #[.agg #[.int .i64 x0, .int .u64 x1, .int .i64 x2], .int .i64 3, .int .i64 0] w fun r w' => r = .returned (.tuple #[.agg #[.int .i64 m0, .int .i64 m1], .int .i64 e2]) ∧ Below w.heap.size w w') (t2 : ByteArray) (hW : ∀ w, Calls Tryz.prog 7 #[.agg #[.int .i64 m0, .int .i64 m1]] w fun r w' => r = .returned (.string t2) ∧ Below w.heap.size w w') (he : e0 = 0) (he2 : e2 = 0) (q3 : (t2.toList == s.toList) = true) : Calls Tryz.prog 9 #[.string s] w fun e w' => e = .returned (.tuple #[.agg (mcl m0 m1).toArray, .int .i64 0]) ∧ Below w.heap.size w w' := by
  subst he
  subst he2
  have HOF := (show Hid _ from hO)
  have HWR := (show Hid _ from hW)
  clear hO hW
  have h4 : ¬ (s.size : Int) < 4 := by omega
  have sz0 := nmb_size (i := 0) (by decide)
  have sz1 := nmb_size (i := 1) (by decide)
  have sz2 := nmb_size (i := 2) (by decide)
  have sz3 := nmb_size (i := 3) (by decide)
  have HPS := (show Hid _ from hP)
  clear hP
  have hs' : ¬ (64 : Int) < s.size := by omega
  have MP_0 := (show Hid _ from mr_new w)
  clear hs
  go_enter Tryz.func9, Tryz.ntmps9
  go_upto_region 3 with fail
  change Code.wp _ _ _ _ (w.alloc (.cells (mcl 0 0).toArray 23))
  generalize (w.alloc (.cells (mcl 0 0).toArray 23)) = w0 at *
  go_wp2_with fail
  refine wp_loop_rounds 5 ?_
  rw [rounds_succ]
  go_upto_region 6 with fail
  refine wp_region_noPanic ?_
  refine wp_region_held_drew (S := fun _ => True) (by kernel_rfl) trivial (fun hHeld => ?_)
  refine takeD 0 17 (.string s) (by exact rfl) rfl (by kernel_rfl) (by kernel_rfl) (by kernel_rfl) (fun _ _ _ h => h) (Or.inl ⟨by rfl, ?_⟩) (by assumption) ?_
  · intro wq hS
    go_simp
  try simp only [Act.put, List.setIfInBounds_toArray, List.set_cons_zero, List.set_cons_succ]
  refine takeD 1 18 (.int .i64 (s.size : Int)) (by exact rfl) rfl (by kernel_rfl) (by kernel_rfl) (by kernel_rfl) (fun _ _ _ h => h) (Or.inl ⟨by rfl, ?_⟩) (by assumption) ?_
  · intro wq hS
    go_simp
  try simp only [Act.put, List.setIfInBounds_toArray, List.set_cons_zero, List.set_cons_succ]
  refine takeD 2 19 (.bool false) (by exact rfl) rfl (by kernel_rfl) (by kernel_rfl) (by kernel_rfl) (fun _ _ _ h => h) (Or.inl ⟨by rfl, ?_⟩) (by assumption) ?_
  · intro wq hS
    go_simp
  try simp only [Act.put, List.setIfInBounds_toArray, List.set_cons_zero, List.set_cons_succ]
  refine takeD 3 20 (.bool false) (by exact rfl) rfl (by kernel_rfl) (by kernel_rfl) (by kernel_rfl) (fun _ _ _ h => h) (Or.inl ⟨by rfl, ?_⟩) (by assumption) ?_
  · intro wq hS
    go_simp
  try simp only [Act.put, List.setIfInBounds_toArray, List.set_cons_zero, List.set_cons_succ]
  refine takeD 4 21 (.string s) (by exact rfl) rfl (by kernel_rfl) (by kernel_rfl) (by kernel_rfl) (fun _ _ _ h => h) (Or.inl ⟨by rfl, ?_⟩) (by assumption) ?_
  · intro wq hS
    go_simp
  try simp only [Act.put, List.setIfInBounds_toArray, List.set_cons_zero, List.set_cons_succ]
  refine takeD 5 22 (.string (s.extract 0 4)) (by exact rfl) rfl (by kernel_rfl) (by kernel_rfl) (by kernel_rfl) (fun _ _ _ h => h) (Or.inl ⟨by rfl, ?_⟩) (by assumption) ?_
  · intro wq hS
    go_simp
  try simp only [Act.put, List.setIfInBounds_toArray, List.set_cons_zero, List.set_cons_succ]
  refine takeD 6 23 (.int .i64 0) (by exact rfl) rfl (by kernel_rfl) (by kernel_rfl) (by kernel_rfl) (fun _ _ _ h => h) (Or.inl ⟨by rfl, ?_⟩) (by assumption) ?_
  · intro wq hS
    go_simp
  try simp only [Act.put, List.setIfInBounds_toArray, List.set_cons_zero, List.set_cons_succ]
  clear hHeld
  have MP_r0 := (show Hid _ from MP_0.out.step ((Below.refl _ _).drew))
  clear MP_0
  generalize World.drew _ = wr0 at *
  refine wpAnyH_ready (rs := [7]) (by kernel_rfl) (by simp) ?_
  refine AllReadyH.cons (by exact rfl) (fun K hK => ?_) AllReadyH.nil
  go_simp
  refine (name_ok 0 _ (by decide)).mono ?_
  rintro e wn ⟨rfl, hwn⟩
  obtain rfl := hwn.symm
  clear hwn
  go_wp2_with fail
  refine hK.out _ _ trivial (fun hHeld => ?_)
  try simp only [Act.put, List.setIfInBounds_toArray, List.set_cons_zero, List.set_cons_succ]
  clear hK K
  
  refine takeD 8 25 (.string (nmb 0 ++ ⟨#[32]⟩)) (by exact rfl) rfl (by kernel_rfl) (by kernel_rfl) (by kernel_rfl) (fun _ _ _ h => h) (Or.inl ⟨by rfl, ?_⟩) (by assumption) ?_
  · intro wq hS
    go_simp
  try simp only [Act.put, List.setIfInBounds_toArray, List.set_cons_zero, List.set_cons_succ]
  refine takeD 9 26 (.bool true) (by exact rfl) rfl (by kernel_rfl) (by kernel_rfl) (by kernel_rfl) (fun _ _ _ h => h) (Or.inl ⟨by rfl, ?_⟩) (by assumption) ?_
  · intro wq hS
    go_simp
  try simp only [Act.put, List.setIfInBounds_toArray, List.set_cons_zero, List.set_cons_succ]
  refine takeD 10 27 (.bool true) (by exact rfl) rfl (by kernel_rfl) (by kernel_rfl) (by kernel_rfl) (fun _ _ _ h => h) (Or.inl ⟨by rfl, ?_⟩) (by assumption) ?_
  · intro wq hS
    go_simp
  try simp only [Act.put, List.setIfInBounds_toArray, List.set_cons_zero, List.set_cons_succ]
  clear hHeld
  refine wpAnyH_done (by kernel_rfl) ?_ _
  refine NoPanic.normal ?_
  go_wp2_with fail
  rw [rounds_succ]
  go_upto_region 6 with fail
  refine wp_region_noPanic ?_
  refine wp_region_held_drew (S := fun _ => True) (by kernel_rfl) trivial (fun hHeld => ?_)
  refine takeD 0 17 (.string s) (by exact rfl) rfl (by kernel_rfl) (by kernel_rfl) (by kernel_rfl) (fun _ _ _ h => h) (Or.inl ⟨by rfl, ?_⟩) (by assumption) ?_
  · intro wq hS
    go_simp
  try simp only [Act.put, List.setIfInBounds_toArray, List.set_cons_zero, List.set_cons_succ]
  refine takeD 1 18 (.int .i64 (s.size : Int)) (by exact rfl) rfl (by kernel_rfl) (by kernel_rfl) (by kernel_rfl) (fun _ _ _ h => h) (Or.inl ⟨by rfl, ?_⟩) (by assumption) ?_
  · intro wq hS
    go_simp
  try simp only [Act.put, List.setIfInBounds_toArray, List.set_cons_zero, List.set_cons_succ]
  refine takeD 2 19 (.bool false) (by exact rfl) rfl (by kernel_rfl) (by kernel_rfl) (by kernel_rfl) (fun _ _ _ h => h) (Or.inl ⟨by rfl, ?_⟩) (by assumption) ?_
  · intro wq hS
    go_simp
  try simp only [Act.put, List.setIfInBounds_toArray, List.set_cons_zero, List.set_cons_succ]
  refine takeD 3 20 (.bool false) (by exact rfl) rfl (by kernel_rfl) (by kernel_rfl) (by kernel_rfl) (fun _ _ _ h => h) (Or.inl ⟨by rfl, ?_⟩) (by assumption) ?_
  · intro wq hS
    go_simp
  try simp only [Act.put, List.setIfInBounds_toArray, List.set_cons_zero, List.set_cons_succ]
  refine takeD 4 21 (.string s) (by exact rfl) rfl (by kernel_rfl) (by kernel_rfl) (by kernel_rfl) (fun _ _ _ h => h) (Or.inl ⟨by rfl, ?_⟩) (by assumption) ?_
  · intro wq hS
    go_simp
  try simp only [Act.put, List.setIfInBounds_toArray, List.set_cons_zero, List.set_cons_succ]
  refine takeD 5 22 (.string (s.extract 0 4)) (by exact rfl) rfl (by kernel_rfl) (by kernel_rfl) (by kernel_rfl) (fun _ _ _ h => h) (Or.inl ⟨by rfl, ?_⟩) (by assumption) ?_
  · intro wq hS
    go_simp
  try simp only [Act.put, List.setIfInBounds_toArray, List.set_cons_zero, List.set_cons_succ]
  refine takeD 6 23 (.int .i64 1) (by exact rfl) rfl (by kernel_rfl) (by kernel_rfl) (by kernel_rfl) (fun _ _ _ h => h) (Or.inl ⟨by rfl, ?_⟩) (by assumption) ?_
  · intro wq hS
    go_simp
  try simp only [Act.put, List.setIfInBounds_toArray, List.set_cons_zero, List.set_cons_succ]
  clear hHeld
  have MP_r1 := (show Hid _ from MP_r0.out.step ((Below.refl _ _).drew))
  clear MP_r0
  generalize World.drew _ = wr1 at *
  refine wpAnyH_ready (rs := [7]) (by kernel_rfl) (by simp) ?_
  refine AllReadyH.cons (by exact rfl) (fun K hK => ?_) AllReadyH.nil
  go_simp
  refine (name_ok 1 _ (by decide)).mono ?_
  rintro e wn ⟨rfl, hwn⟩
  obtain rfl := hwn.symm
  clear hwn
  go_wp2_with fail
  refine hK.out _ _ trivial (fun hHeld => ?_)
  try simp only [Act.put, List.setIfInBounds_toArray, List.set_cons_zero, List.set_cons_succ]
  clear hK K
  
  refine takeD 8 25 (.string (nmb 1 ++ ⟨#[32]⟩)) (by exact rfl) rfl (by kernel_rfl) (by kernel_rfl) (by kernel_rfl) (fun _ _ _ h => h) (Or.inl ⟨by rfl, ?_⟩) (by assumption) ?_
  · intro wq hS
    go_simp
  try simp only [Act.put, List.setIfInBounds_toArray, List.set_cons_zero, List.set_cons_succ]
  refine takeD 9 26 (.bool true) (by exact rfl) rfl (by kernel_rfl) (by kernel_rfl) (by kernel_rfl) (fun _ _ _ h => h) (Or.inl ⟨by rfl, ?_⟩) (by assumption) ?_
  · intro wq hS
    go_simp
  try simp only [Act.put, List.setIfInBounds_toArray, List.set_cons_zero, List.set_cons_succ]
  refine takeD 10 27 (.bool true) (by exact rfl) rfl (by kernel_rfl) (by kernel_rfl) (by kernel_rfl) (fun _ _ _ h => h) (Or.inl ⟨by rfl, ?_⟩) (by assumption) ?_
  · intro wq hS
    go_simp
  try simp only [Act.put, List.setIfInBounds_toArray, List.set_cons_zero, List.set_cons_succ]
  clear hHeld
  refine wpAnyH_done (by kernel_rfl) ?_ _
  refine NoPanic.normal ?_
  go_wp2_with fail
  rw [rounds_succ]
  go_upto_region 6 with fail
  refine wp_region_noPanic ?_
  refine wp_region_held_drew (S := fun _ => True) (by kernel_rfl) trivial (fun hHeld => ?_)
  refine takeD 0 17 (.string s) (by exact rfl) rfl (by kernel_rfl) (by kernel_rfl) (by kernel_rfl) (fun _ _ _ h => h) (Or.inl ⟨by rfl, ?_⟩) (by assumption) ?_
  · intro wq hS
    go_simp
  try simp only [Act.put, List.setIfInBounds_toArray, List.set_cons_zero, List.set_cons_succ]
  refine takeD 1 18 (.int .i64 (s.size : Int)) (by exact rfl) rfl (by kernel_rfl) (by kernel_rfl) (by kernel_rfl) (fun _ _ _ h => h) (Or.inl ⟨by rfl, ?_⟩) (by assumption) ?_
  · intro wq hS
    go_simp
  try simp only [Act.put, List.setIfInBounds_toArray, List.set_cons_zero, List.set_cons_succ]
  refine takeD 2 19 (.bool false) (by exact rfl) rfl (by kernel_rfl) (by kernel_rfl) (by kernel_rfl) (fun _ _ _ h => h) (Or.inl ⟨by rfl, ?_⟩) (by assumption) ?_
  · intro wq hS
    go_simp
  try simp only [Act.put, List.setIfInBounds_toArray, List.set_cons_zero, List.set_cons_succ]
  refine takeD 3 20 (.bool false) (by exact rfl) rfl (by kernel_rfl) (by kernel_rfl) (by kernel_rfl) (fun _ _ _ h => h) (Or.inl ⟨by rfl, ?_⟩) (by assumption) ?_
  · intro wq hS
    go_simp
  try simp only [Act.put, List.setIfInBounds_toArray, List.set_cons_zero, List.set_cons_succ]
  refine takeD 4 21 (.string s) (by exact rfl) rfl (by kernel_rfl) (by kernel_rfl) (by kernel_rfl) (fun _ _ _ h => h) (Or.inl ⟨by rfl, ?_⟩) (by assumption) ?_
  · intro wq hS
    go_simp
  try simp only [Act.put, List.setIfInBounds_toArray, List.set_cons_zero, List.set_cons_succ]
  refine takeD 5 22 (.string (s.extract 0 4)) (by exact rfl) rfl (by kernel_rfl) (by kernel_rfl) (by kernel_rfl) (fun _ _ _ h => h) (Or.inl ⟨by rfl, ?_⟩) (by assumption) ?_
  · intro wq hS
    go_simp
  try simp only [Act.put, List.setIfInBounds_toArray, List.set_cons_zero, List.set_cons_succ]
  refine takeD 6 23 (.int .i64 2) (by exact rfl) rfl (by kernel_rfl) (by kernel_rfl) (by kernel_rfl) (fun _ _ _ h => h) (Or.inl ⟨by rfl, ?_⟩) (by assumption) ?_
  · intro wq hS
    go_simp
  try simp only [Act.put, List.setIfInBounds_toArray, List.set_cons_zero, List.set_cons_succ]
  clear hHeld
  have MP_r2 := (show Hid _ from MP_r1.out.step ((Below.refl _ _).drew))
  clear MP_r1
  generalize World.drew _ = wr2 at *
  refine wpAnyH_ready (rs := [7]) (by kernel_rfl) (by simp) ?_
  refine AllReadyH.cons (by exact rfl) (fun K hK => ?_) AllReadyH.nil
  go_simp
  refine (name_ok 2 _ (by decide)).mono ?_
  rintro e wn ⟨rfl, hwn⟩
  obtain rfl := hwn.symm
  clear hwn
  go_wp2_with fail
  refine hK.out _ _ trivial (fun hHeld => ?_)
  try simp only [Act.put, List.setIfInBounds_toArray, List.set_cons_zero, List.set_cons_succ]
  clear hK K
  
  refine takeD 8 25 (.string (nmb 2 ++ ⟨#[32]⟩)) (by exact rfl) rfl (by kernel_rfl) (by kernel_rfl) (by kernel_rfl) (fun _ _ _ h => h) (Or.inl ⟨by rfl, ?_⟩) (by assumption) ?_
  · intro wq hS
    go_simp
  try simp only [Act.put, List.setIfInBounds_toArray, List.set_cons_zero, List.set_cons_succ]
  refine takeD 9 26 (.bool true) (by exact rfl) rfl (by kernel_rfl) (by kernel_rfl) (by kernel_rfl) (fun _ _ _ h => h) (Or.inl ⟨by rfl, ?_⟩) (by assumption) ?_
  · intro wq hS
    go_simp
  try simp only [Act.put, List.setIfInBounds_toArray, List.set_cons_zero, List.set_cons_succ]
  refine takeD 10 27 (.bool true) (by exact rfl) rfl (by kernel_rfl) (by kernel_rfl) (by kernel_rfl) (fun _ _ _ h => h) (Or.inl ⟨by rfl, ?_⟩) (by assumption) ?_
  · intro wq hS
    go_simp
  try simp only [Act.put, List.setIfInBounds_toArray, List.set_cons_zero, List.set_cons_succ]
  clear hHeld
  refine wpAnyH_done (by kernel_rfl) ?_ _
  refine NoPanic.normal ?_
  go_wp2_with fail
  rw [rounds_succ]
  go_upto_region 6 with fail
  refine wp_region_noPanic ?_
  refine wp_region_held_drew (S := fun _ => True) (by kernel_rfl) trivial (fun hHeld => ?_)
  refine takeD 0 17 (.string s) (by exact rfl) rfl (by kernel_rfl) (by kernel_rfl) (by kernel_rfl) (fun _ _ _ h => h) (Or.inl ⟨by rfl, ?_⟩) (by assumption) ?_
  · intro wq hS
    go_simp
  try simp only [Act.put, List.setIfInBounds_toArray, List.set_cons_zero, List.set_cons_succ]
  refine takeD 1 18 (.int .i64 (s.size : Int)) (by exact rfl) rfl (by kernel_rfl) (by kernel_rfl) (by kernel_rfl) (fun _ _ _ h => h) (Or.inl ⟨by rfl, ?_⟩) (by assumption) ?_
  · intro wq hS
    go_simp
  try simp only [Act.put, List.setIfInBounds_toArray, List.set_cons_zero, List.set_cons_succ]
  refine takeD 2 19 (.bool false) (by exact rfl) rfl (by kernel_rfl) (by kernel_rfl) (by kernel_rfl) (fun _ _ _ h => h) (Or.inl ⟨by rfl, ?_⟩) (by assumption) ?_
  · intro wq hS
    go_simp
  try simp only [Act.put, List.setIfInBounds_toArray, List.set_cons_zero, List.set_cons_succ]
  refine takeD 3 20 (.bool false) (by exact rfl) rfl (by kernel_rfl) (by kernel_rfl) (by kernel_rfl) (fun _ _ _ h => h) (Or.inl ⟨by rfl, ?_⟩) (by assumption) ?_
  · intro wq hS
    go_simp
  try simp only [Act.put, List.setIfInBounds_toArray, List.set_cons_zero, List.set_cons_succ]
  refine takeD 4 21 (.string s) (by exact rfl) rfl (by kernel_rfl) (by kernel_rfl) (by kernel_rfl) (fun _ _ _ h => h) (Or.inl ⟨by rfl, ?_⟩) (by assumption) ?_
  · intro wq hS
    go_simp
  try simp only [Act.put, List.setIfInBounds_toArray, List.set_cons_zero, List.set_cons_succ]
  refine takeD 5 22 (.string (s.extract 0 4)) (by exact rfl) rfl (by kernel_rfl) (by kernel_rfl) (by kernel_rfl) (fun _ _ _ h => h) (Or.inl ⟨by rfl, ?_⟩) (by assumption) ?_
  · intro wq hS
    go_simp
  try simp only [Act.put, List.setIfInBounds_toArray, List.set_cons_zero, List.set_cons_succ]
  refine takeD 6 23 (.int .i64 3) (by exact rfl) rfl (by kernel_rfl) (by kernel_rfl) (by kernel_rfl) (fun _ _ _ h => h) (Or.inl ⟨by rfl, ?_⟩) (by assumption) ?_
  · intro wq hS
    go_simp
  try simp only [Act.put, List.setIfInBounds_toArray, List.set_cons_zero, List.set_cons_succ]
  clear hHeld
  have MP_r3 := (show Hid _ from MP_r2.out.step ((Below.refl _ _).drew))
  clear MP_r2
  generalize World.drew _ = wr3 at *
  refine wpAnyH_ready (rs := [7]) (by kernel_rfl) (by simp) ?_
  refine AllReadyH.cons (by exact rfl) (fun K hK => ?_) AllReadyH.nil
  go_simp
  refine (name_ok 3 _ (by decide)).mono ?_
  rintro e wn ⟨rfl, hwn⟩
  obtain rfl := hwn.symm
  clear hwn
  go_wp2_with fail
  refine hK.out _ _ trivial (fun hHeld => ?_)
  try simp only [Act.put, List.setIfInBounds_toArray, List.set_cons_zero, List.set_cons_succ]
  clear hK K
  
  refine takeD 8 25 (.string (nmb 3 ++ ⟨#[32]⟩)) (by exact rfl) rfl (by kernel_rfl) (by kernel_rfl) (by kernel_rfl) (fun _ _ _ h => h) (Or.inl ⟨by rfl, ?_⟩) (by assumption) ?_
  · intro wq hS
    go_simp
  try simp only [Act.put, List.setIfInBounds_toArray, List.set_cons_zero, List.set_cons_succ]
  refine takeD 9 26 (.bool false) (by exact rfl) rfl (by kernel_rfl) (by kernel_rfl) (by kernel_rfl) (fun _ _ _ h => h) (Or.inl ⟨by rfl, ?_⟩) (by assumption) ?_
  · intro wq hS
    go_simp
  try simp only [Act.put, List.setIfInBounds_toArray, List.set_cons_zero, List.set_cons_succ]
  refine takeD 10 27 (.bool false) (by exact rfl) rfl (by kernel_rfl) (by kernel_rfl) (by kernel_rfl) (fun _ _ _ h => h) (Or.inl ⟨by rfl, ?_⟩) (by assumption) ?_
  · intro wq hS
    go_simp
  try simp only [Act.put, List.setIfInBounds_toArray, List.set_cons_zero, List.set_cons_succ]
  clear hHeld
  refine wpAnyH_done (by kernel_rfl) ?_ _
  refine NoPanic.normal ?_
  go_wp2_with fail
  refine (HPS.out _).mono ?_
  rintro e wp ⟨rfl, bp⟩
  have MP_p := (show Hid _ from (MP_r3.out.step bp).step ((Below.refl _ _).alloc (Nat.le_refl _) (.cells #[.int .i64 x0, .int .u64 x1, .int .i64 x2] 41)))
  have VX_p := (show Hid _ from va_new wp [.int .i64 x0, .int .u64 x1, .int .i64 x2] 41)
  clear bp MP_r3
  go_upto_region 8 with fail
  change Code.wp _ _ _ _ (wp.alloc (.cells #[.int .i64 x0, .int .u64 x1, .int .i64 x2] 41))
  change Hid (MR w (wp.alloc (.cells #[.int .i64 x0, .int .u64 x1, .int .i64 x2] 41))) at MP_p
  change Hid (VA (wp.alloc (.cells #[.int .i64 x0, .int .u64 x1, .int .i64 x2] 41)) _ _ _) at VX_p
  generalize wp.alloc (.cells #[.int .i64 x0, .int .u64 x1, .int .i64 x2] 41) = wq at *
  generalize wp.heap.size = qx at *
  go_wp2_with (refine ldA rfl 41 _ rfl qx (by rfl) [.int .i64 x0, .int .u64 x1, .int .i64 x2] _ VX_p.out _ Tryz.underlying41 rfl infoD ?_)
  refine (HOF.out _).mono ?_
  rintro e wo ⟨rfl, bo⟩
  have MP_o := (show Hid _ from (MP_p.out.step bo).step ((Below.refl _ _).alloc (Nat.le_refl _) (.cells #[.int .i64 m0, .int .i64 m1] 23)))
  have VY_o := (show Hid _ from va_new wo [.int .i64 m0, .int .i64 m1] 23)
  clear bo MP_p VX_p
  go_upto_region 10 with fail
  change Code.wp _ _ _ _ (wo.alloc (.cells #[.int .i64 m0, .int .i64 m1] 23))
  change Hid (MR w (wo.alloc (.cells #[.int .i64 m0, .int .i64 m1] 23))) at MP_o
  change Hid (VA (wo.alloc (.cells #[.int .i64 m0, .int .i64 m1] 23)) _ _ _) at VY_o
  generalize wo.alloc (.cells #[.int .i64 m0, .int .i64 m1] 23) = ws at *
  generalize wo.heap.size = qy at *
  have y0 := VY_o.out.cell 0 (v := .int .i64 m0) rfl
  have y1 := VY_o.out.cell 1 (v := .int .i64 m1) rfl
  go_wp2_with fail
  refine (HWR.out _).mono ?_
  rintro e wv ⟨rfl, bv⟩
  have MP_v := (show Hid _ from MP_o.out.step bv)
  have VY_v := (show Hid _ from VY_o.out.step bv)
  clear bv MP_o VY_o y0 y1
  go_wp2_with (first | (refine ldA rfl 23 _ rfl qy (by rfl) (mcl m0 m1) _ VY_v.out _ Tryz.underlying23 rfl infoM ?_) | (refine stA rfl 23 _ _ rfl w.heap.size (by rfl) (mcl 0 0) (mcl m0 m1) (by rfl) 23 MP_v.out.r infoM rfl (mcl_one _ _) ?_; intro wf vf uf))
  have hld := run_loadVar_row (P := Tryz.prog) wf w.heap.size 23 23 _ (0, 0) _ vf.blk Tryz.underlying23 rfl infoM
  exact bodyPost_ret (v := .tuple #[.agg (mcl m0 m1).toArray, .int .i64 0]) (by simp [results, Tryz.results9, asAddr, hld]) rfl ⟨rfl, uf.bel MP_v.out.b (Nat.le_refl _)⟩
end Go.Proofs.YteohncnjjgoemaaGreatDoor
