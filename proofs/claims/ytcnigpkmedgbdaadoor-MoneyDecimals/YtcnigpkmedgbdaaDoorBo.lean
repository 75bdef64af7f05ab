/- money: Of and To out of form; both of them beside the document's. -/
import Derived.Test.YtcnigpkmedgbdaaDoorBn
namespace Go.Proofs.YtcnigpkmedgbdaaDoor
open Go.RowKit
set_option linter.unusedVariables false
attribute [local go_sem ↓] Go.wp_at_zero Go.wp_at_succ

set_option maxRecDepth 100000 in
theorem dof_c (h l s c mode : Int) (w : World) (hc : ¬ (0 ≤ c ∧ c ≤ 3)) : Calls Tryd.prog 26 #[.agg #[.int .i64 h, .int .u64 l, .int .i64 s], .int .i64 c, .int .i64 mode] w fun e w' => e = .returned (.tuple #[.agg (mcl 0 0).toArray, .int .i64 1]) ∧ Below w.heap.size w w' := by
  have hw := wi_no hc
  clear hc
  have VD_0 := (show Hid _ from (va_new w ([.int .i64 h, .int .u64 l, .int .i64 s]) 60).alloc (.cells (mcl 0 0).toArray 23))
  have VR_0 := (show Hid _ from va_new (w.alloc (.cells ([.int .i64 h, .int .u64 l, .int .i64 s]).toArray 60)) (mcl 0 0) 23)
  rw [show (w.alloc (.cells ([.int .i64 h, .int .u64 l, .int .i64 s]).toArray 60)).heap.size = w.heap.size + 1 by simp] at VR_0
  have BB_0 := (show Hid _ from ((Below.refl w.heap.size w).alloc (Nat.le_refl _) (.cells ([.int .i64 h, .int .u64 l, .int .i64 s]).toArray 60)).alloc (by simp) (.cells (mcl 0 0).toArray 23))
  go_enter Tryd.func26, Tryd.ntmps26
  go_wp2_with fail
  refine (rcur_ok c _).mono ?_
  rintro e wx ⟨rfl, hq⟩
  obtain rfl := hq.symm
  rw [hw]
  go_wp2_with (refine stA rfl 23 _ _ rfl (w.heap.size + 1) (by rfl) (mcl 0 0) (mcl 0 0) (by rfl) 23 VR_0.out infoM rfl (mcl_one _ _) ?_; intro wf vf uf)
  have hld := run_loadVar_row (P := Tryd.prog) wf (w.heap.size + 1) 23 23 _ (0, 0) _ vf.blk Tryd.underlying23 rfl infoM
  exact bodyPost_ret (v := .tuple #[.agg (mcl 0 0).toArray, .int .i64 1]) (by simp [results, Tryd.results26, asAddr, hld]) rfl ⟨rfl, uf.bel BB_0.out (by omega)⟩
set_option maxRecDepth 100000 in
theorem dof_m1 (h l s c mode : Int) (w : World) (hc : 0 ≤ c ∧ c ≤ 3) (hm : mode < 0) : Calls Tryd.prog 26 #[.agg #[.int .i64 h, .int .u64 l, .int .i64 s], .int .i64 c, .int .i64 mode] w fun e w' => e = .returned (.tuple #[.agg (mcl 0 0).toArray, .int .i64 1]) ∧ Below w.heap.size w w' := by
  have hw := wi_yes hc.1 hc.2
  have g1 : decide (mode < 0) = true := decide_eq_true hm
  clear hc hm
  have VD_0 := (show Hid _ from (va_new w ([.int .i64 h, .int .u64 l, .int .i64 s]) 60).alloc (.cells (mcl 0 0).toArray 23))
  have VR_0 := (show Hid _ from va_new (w.alloc (.cells ([.int .i64 h, .int .u64 l, .int .i64 s]).toArray 60)) (mcl 0 0) 23)
  rw [show (w.alloc (.cells ([.int .i64 h, .int .u64 l, .int .i64 s]).toArray 60)).heap.size = w.heap.size + 1 by simp] at VR_0
  have BB_0 := (show Hid _ from ((Below.refl w.heap.size w).alloc (Nat.le_refl _) (.cells ([.int .i64 h, .int .u64 l, .int .i64 s]).toArray 60)).alloc (by simp) (.cells (mcl 0 0).toArray 23))
  go_enter Tryd.func26, Tryd.ntmps26
  go_wp2_with fail
  refine (rcur_ok c _).mono ?_
  rintro e wx ⟨rfl, hq⟩
  obtain rfl := hq.symm
  rw [hw]
  go_wp2_with (refine stA rfl 23 _ _ rfl (w.heap.size + 1) (by rfl) (mcl 0 0) (mcl 0 0) (by rfl) 23 VR_0.out infoM rfl (mcl_one _ _) ?_; intro wf vf uf)
  have hld := run_loadVar_row (P := Tryd.prog) wf (w.heap.size + 1) 23 23 _ (0, 0) _ vf.blk Tryd.underlying23 rfl infoM
  exact bodyPost_ret (v := .tuple #[.agg (mcl 0 0).toArray, .int .i64 1]) (by simp [results, Tryd.results26, asAddr, hld]) rfl ⟨rfl, uf.bel BB_0.out (by omega)⟩
set_option maxRecDepth 100000 in
theorem dof_m2 (h l s c mode : Int) (w : World) (hc : 0 ≤ c ∧ c ≤ 3) (hm : 6 < mode) : Calls Tryd.prog 26 #[.agg #[.int .i64 h, .int .u64 l, .int .i64 s], .int .i64 c, .int .i64 mode] w fun e w' => e = .returned (.tuple #[.agg (mcl 0 0).toArray, .int .i64 1]) ∧ Below w.heap.size w w' := by
  have hw := wi_yes hc.1 hc.2
  have g1 : decide (mode < 0) = false := decide_eq_false (by omega)
  have g2 : decide (6 < mode) = true := decide_eq_true hm
  clear hc hm
  have VD_0 := (show Hid _ from (va_new w ([.int .i64 h, .int .u64 l, .int .i64 s]) 60).alloc (.cells (mcl 0 0).toArray 23))
  have VR_0 := (show Hid _ from va_new (w.alloc (.cells ([.int .i64 h, .int .u64 l, .int .i64 s]).toArray 60)) (mcl 0 0) 23)
  rw [show (w.alloc (.cells ([.int .i64 h, .int .u64 l, .int .i64 s]).toArray 60)).heap.size = w.heap.size + 1 by simp] at VR_0
  have BB_0 := (show Hid _ from ((Below.refl w.heap.size w).alloc (Nat.le_refl _) (.cells ([.int .i64 h, .int .u64 l, .int .i64 s]).toArray 60)).alloc (by simp) (.cells (mcl 0 0).toArray 23))
  go_enter Tryd.func26, Tryd.ntmps26
  go_wp2_with fail
  refine (rcur_ok c _).mono ?_
  rintro e wx ⟨rfl, hq⟩
  obtain rfl := hq.symm
  rw [hw]
  go_wp2_with (refine stA rfl 23 _ _ rfl (w.heap.size + 1) (by rfl) (mcl 0 0) (mcl 0 0) (by rfl) 23 VR_0.out infoM rfl (mcl_one _ _) ?_; intro wf vf uf)
  have hld := run_loadVar_row (P := Tryd.prog) wf (w.heap.size + 1) 23 23 _ (0, 0) _ vf.blk Tryd.underlying23 rfl infoM
  exact bodyPost_ret (v := .tuple #[.agg (mcl 0 0).toArray, .int .i64 1]) (by simp [results, Tryd.results26, asAddr, hld]) rfl ⟨rfl, uf.bel BB_0.out (by omega)⟩
set_option maxRecDepth 100000 in
theorem dof_f (h l s c mode : Int) (w : World) (hc : 0 ≤ c ∧ c ≤ 3) (hm : 0 ≤ mode ∧ mode ≤ 6) (hb : Bad h l s) : Calls Tryd.prog 26 #[.agg #[.int .i64 h, .int .u64 l, .int .i64 s], .int .i64 c, .int .i64 mode] w fun e w' => e = .returned (.tuple #[.agg (mcl 0 0).toArray, .int .i64 3]) ∧ Below w.heap.size w w' := by
  have hw := wi_yes hc.1 hc.2
  have g1 : decide (mode < 0) = false := decide_eq_false (by omega)
  have g2 : decide (6 < mode) = false := decide_eq_false (by omega)
  have HB : Hid (Bad h l s) := hb
  clear hc hm hb
  have VD_0 := (show Hid _ from (va_new w ([.int .i64 h, .int .u64 l, .int .i64 s]) 60).alloc (.cells (mcl 0 0).toArray 23))
  have VR_0 := (show Hid _ from va_new (w.alloc (.cells ([.int .i64 h, .int .u64 l, .int .i64 s]).toArray 60)) (mcl 0 0) 23)
  rw [show (w.alloc (.cells ([.int .i64 h, .int .u64 l, .int .i64 s]).toArray 60)).heap.size = w.heap.size + 1 by simp] at VR_0
  have BB_0 := (show Hid _ from ((Below.refl w.heap.size w).alloc (Nat.le_refl _) (.cells ([.int .i64 h, .int .u64 l, .int .i64 s]).toArray 60)).alloc (by simp) (.cells (mcl 0 0).toArray 23))
  go_enter Tryd.func26, Tryd.ntmps26
  go_wp2_with fail
  refine (rcur_ok c _).mono ?_
  rintro e wx ⟨rfl, hq⟩
  obtain rfl := hq.symm
  rw [hw]
  go_wp2_with (refine ldA rfl 60 _ rfl w.heap.size (by rfl) [.int .i64 h, .int .u64 l, .int .i64 s] _ VD_0.out _ Tryd.underlying60 rfl infoD ?_)
  refine (form_no h l s _ HB.out).mono ?_
  rintro e w1 ⟨rfl, b1⟩
  have VD_1 := (show Hid _ from VD_0.out.step b1)
  have VR_1 := (show Hid _ from VR_0.out.step b1)
  have BB_1 := (show Hid _ from BB_0.out.trans (b1.mono BB_0.out.size))
  clear b1 VD_0 VR_0 BB_0
  go_wp2_with (refine stA rfl 23 _ _ rfl (w.heap.size + 1) (by rfl) (mcl 0 0) (mcl 0 0) (by rfl) 23 VR_1.out infoM rfl (mcl_one _ _) ?_; intro wf vf uf)
  have hld := run_loadVar_row (P := Tryd.prog) wf (w.heap.size + 1) 23 23 _ (0, 0) _ vf.blk Tryd.underlying23 rfl infoM
  exact bodyPost_ret (v := .tuple #[.agg (mcl 0 0).toArray, .int .i64 3]) (by simp [results, Tryd.results26, asAddr, hld]) rfl ⟨rfl, uf.bel BB_1.out (by omega)⟩
set_option maxRecDepth 100000 in
theorem mof_c (h l s c mode : Int) (w : World) (hc : ¬ (0 ≤ c ∧ c ≤ 3)) : Calls Tryd.prog 25 #[.agg #[.int .i64 h, .int .u64 l, .int .i64 s], .int .i64 c, .int .i64 mode] w fun e w' => e = .returned (.tuple #[.agg (mcl 0 0).toArray, .int .i64 1]) ∧ Below w.heap.size w w' := by
  have hw := wi_no hc
  clear hc
  have VD_0 := (show Hid _ from (va_new w ([.int .i64 h, .int .u64 l, .int .i64 s]) 60).alloc (.cells (mcl 0 0).toArray 23))
  have VR_0 := (show Hid _ from va_new (w.alloc (.cells ([.int .i64 h, .int .u64 l, .int .i64 s]).toArray 60)) (mcl 0 0) 23)
  rw [show (w.alloc (.cells ([.int .i64 h, .int .u64 l, .int .i64 s]).toArray 60)).heap.size = w.heap.size + 1 by simp] at VR_0
  have BB_0 := (show Hid _ from ((Below.refl w.heap.size w).alloc (Nat.le_refl _) (.cells ([.int .i64 h, .int .u64 l, .int .i64 s]).toArray 60)).alloc (by simp) (.cells (mcl 0 0).toArray 23))
  go_enter Tryd.func25, Tryd.ntmps25
  go_wp2_with fail
  refine (mcur_ok c _).mono ?_
  rintro e wx ⟨rfl, hq⟩
  obtain rfl := hq.symm
  rw [hw]
  go_wp2_with (refine stA rfl 23 _ _ rfl (w.heap.size + 1) (by rfl) (mcl 0 0) (mcl 0 0) (by rfl) 23 VR_0.out infoM rfl (mcl_one _ _) ?_; intro wf vf uf)
  have hld := run_loadVar_row (P := Tryd.prog) wf (w.heap.size + 1) 23 23 _ (0, 0) _ vf.blk Tryd.underlying23 rfl infoM
  exact bodyPost_ret (v := .tuple #[.agg (mcl 0 0).toArray, .int .i64 1]) (by simp [results, Tryd.results25, asAddr, hld]) rfl ⟨rfl, uf.bel BB_0.out (by omega)⟩
set_option maxHeartbeats 4000000 in
set_option maxRecDepth 100000 in
theorem mof_err (h l s mode E : Int) (i : Nat) (w : World) (T : Cu w) (hi : i < 4) (hE : E ≠ 0) (HR : ∀ w, Calls Tryd.prog 47 #[.agg #[.int .i64 h, .int .u64 l, .int .i64 s], .int .i64 (cdg i), .int .i64 mode] w fun e w' => e = .returned (.tuple #[.agg #[.int .i64 0, .int .u64 0, .int .i64 0], .int .i64 E]) ∧ Below w.heap.size w w') :
    Calls Tryd.prog 25 #[.agg #[.int .i64 h, .int .u64 l, .int .i64 s], .int .i64 i, .int .i64 mode] w fun e w' => e = .returned (.tuple #[.agg (mcl 0 0).toArray, .int .i64 E]) ∧ Below w.heap.size w w' := by
  have HRS := (show Hid _ from HR)
  have hne : (E != 0) = true := by rw [bne_iff_ne]; exact hE
  clear HR hE
  have VD_0 := (show Hid _ from (va_new w ([.int .i64 h, .int .u64 l, .int .i64 s]) 60).alloc (.cells (mcl 0 0).toArray 23))
  have VR_0 := (show Hid _ from va_new (w.alloc (.cells ([.int .i64 h, .int .u64 l, .int .i64 s]).toArray 60)) (mcl 0 0) 23)
  rw [show (w.alloc (.cells ([.int .i64 h, .int .u64 l, .int .i64 s]).toArray 60)).heap.size = w.heap.size + 1 by simp] at VR_0
  have BB_0 := (show Hid _ from ((Below.refl w.heap.size w).alloc (Nat.le_refl _) (.cells ([.int .i64 h, .int .u64 l, .int .i64 s]).toArray 60)).alloc (by simp) (.cells (mcl 0 0).toArray 23))
  have CU_0 := (show Hid _ from (T.alloc (.cells ([.int .i64 h, .int .u64 l, .int .i64 s] : List Value).toArray 60)).alloc (.cells (mcl 0 0).toArray 23))
  have hp : 0 < w.heap.size := T.lt
  have hw := wi_yes (n := (i : Int)) (l := 0) (g := 3) (by omega) (by omega)
  clear T
  go_enter Tryd.func25, Tryd.ntmps25
  go_wp2_with fail
  refine (mcur_ok i _).mono ?_
  rintro e w1 ⟨rfl, hq⟩
  obtain rfl := hq.symm
  rw [hw]
  clear hw
  go_upto_region 3 with fail
  change Code.wp _ _ _ _ (w.alloc (.cells ([.int .i64 h, .int .u64 l, .int .i64 s] : List Value).toArray 60) |>.alloc (.cells (mcl 0 0).toArray 23))
  generalize (w.alloc (.cells ([.int .i64 h, .int .u64 l, .int .i64 s] : List Value).toArray 60) |>.alloc (.cells (mcl 0 0).toArray 23)) = W at *
  refine wp_region_noPanic ?_
  refine wp_region_held_drew (S := fun w' => VA w' w.heap.size [.int .i64 h, .int .u64 l, .int .i64 s] 60 ∧ Cu w') (by kernel_rfl) ⟨VD_0.out.drew, CU_0.out.drew⟩ (fun hHeld => ?_)
  refine takeD 0 16 (.agg #[.int .i64 h, .int .u64 l, .int .i64 s]) (by exact rfl) rfl (by kernel_rfl) (by kernel_rfl) (by kernel_rfl) (fun _ _ _ h => h) (Or.inl ⟨by rfl, ?_⟩) (by assumption) ?_
  · intro wq hS
    have h0 := hS.1.cell 0 (v := .int .i64 h) rfl
    have h1 := hS.1.cell 1 (v := .int .u64 l) rfl
    have h2 := hS.1.cell 2 (v := .int .i64 s) rfl
    go_simp
  try simp only [Act.put, List.setIfInBounds_toArray, List.set_cons_zero, List.set_cons_succ]
  refine takeD 1 17 (.int .i64 (i : Int)) (by exact rfl) rfl (by kernel_rfl) (by kernel_rfl) (by kernel_rfl) (fun _ _ _ h => h) (Or.inl ⟨by rfl, ?_⟩) (by assumption) ?_
  · intro wq hS
    go_simp
  try simp only [Act.put, List.setIfInBounds_toArray, List.set_cons_zero, List.set_cons_succ]
  refine takeD 2 18 (.pointer (some ⟨0, i * 2, none⟩)) (by exact rfl) rfl (by kernel_rfl) (by kernel_rfl) (by kernel_rfl) (fun _ _ _ h => h) (Or.inl ⟨by rfl, ?_⟩) (by assumption) ?_
  · intro wq hS
    go_simp
    intro h; omega
  try simp only [Act.put, List.setIfInBounds_toArray, List.set_cons_zero, List.set_cons_succ]
  refine takeD 3 19 (.pointer (some ⟨0, i * 2 + 1, none⟩)) (by exact rfl) rfl (by kernel_rfl) (by kernel_rfl) (by kernel_rfl) (fun _ _ _ h => h) (Or.inl ⟨by rfl, ?_⟩) (by assumption) ?_
  · intro wq hS
    go_simp
  try simp only [Act.put, List.setIfInBounds_toArray, List.set_cons_zero, List.set_cons_succ]
  refine takeD 4 20 (.int .i64 (cdg i : Int)) (by exact rfl) rfl (by kernel_rfl) (by kernel_rfl) (by kernel_rfl) (fun _ _ _ h => h) (Or.inl ⟨by rfl, ?_⟩) (by assumption) ?_
  · intro wq hS
    have h1 := hS.2.row i hi
    go_simp
  try simp only [Act.put, List.setIfInBounds_toArray, List.set_cons_zero, List.set_cons_succ]
  refine takeD 5 21 (.int .i64 mode) (by exact rfl) rfl (by kernel_rfl) (by kernel_rfl) (by kernel_rfl) (fun _ _ _ h => h) (Or.inl ⟨by rfl, ?_⟩) (by assumption) ?_
  · intro wq hS
    go_simp
  try simp only [Act.put, List.setIfInBounds_toArray, List.set_cons_zero, List.set_cons_succ]
  clear hHeld
  have VD_z := (show Hid _ from VD_0.out.drew)
  have VR_z := (show Hid _ from VR_0.out.drew)
  have CU_z := (show Hid _ from CU_0.out.drew)
  have BB_z := (show Hid _ from BB_0.out.drew)
  clear VD_0 VR_0 CU_0 BB_0
  generalize W.drew = wz at *
  refine wpAnyH_ready (rs := [6, 10]) (by kernel_rfl) (by simp) ?_
  refine AllReadyH.cons (by exact rfl) (fun K hK => ?_) (AllReadyH.cons (by exact rfl) (fun K hK => ?_) AllReadyH.nil)
  · go_simp
    refine (HRS.out _).mono ?_
    rintro e w1 ⟨rfl, b1⟩
    have VD_1 := (show Hid _ from VD_z.out.step b1)
    have VR_1 := (show Hid _ from VR_z.out.step b1)
    have CU_1 := (show Hid _ from CU_z.out.step b1)
    have BB_1 := (show Hid _ from BB_z.out.trans (b1.mono BB_z.out.size))
    clear b1
    go_wp2_with fail
    refine hK.out _ _ (⟨VD_1.out, CU_1.out⟩) (fun hHeld => ?_)
    try simp only [Act.put, List.setIfInBounds_toArray, List.set_cons_zero, List.set_cons_succ]
    clear hK K
    clear VD_z VR_z CU_z BB_z
    refine takeD 7 15 (.tuple #[.agg #[.int .i64 0, .int .u64 0, .int .i64 0], .int .i64 E]) (by exact rfl) rfl (by kernel_rfl) (by kernel_rfl) (by kernel_rfl) (fun _ _ _ h => h) (Or.inl ⟨by rfl, ?_⟩) (by assumption) ?_
    · intro wq hS
      go_simp
    try simp only [Act.put, List.setIfInBounds_toArray, List.set_cons_zero, List.set_cons_succ]
    refine takeD 8 23 (.agg zdl.toArray) (by exact rfl) rfl (by kernel_rfl) (by kernel_rfl) (by kernel_rfl) (fun _ _ _ h => h) (Or.inl ⟨by rfl, ?_⟩) (by assumption) ?_
    · intro wq hS
      go_simp
      rfl
    try simp only [Act.put, List.setIfInBounds_toArray, List.set_cons_zero, List.set_cons_succ]
    refine takeD 9 24 (.int .i64 E) (by exact rfl) rfl (by kernel_rfl) (by kernel_rfl) (by kernel_rfl) (fun _ _ _ h => h) (Or.inl ⟨by rfl, ?_⟩) (by assumption) ?_
    · intro wq hS
      go_simp
    try simp only [Act.put, List.setIfInBounds_toArray, List.set_cons_zero, List.set_cons_succ]
    clear hHeld
    refine wpAnyH_ready (rs := [10]) (by kernel_rfl) (by simp) ?_
    refine AllReadyH.cons (by exact rfl) (fun K hK => ?_) AllReadyH.nil
    go_simp
    have VD_2 := (show Hid _ from VD_1.out.alloc (.cells zdl.toArray 60))
    have VR_2 := (show Hid _ from VR_1.out.alloc (.cells zdl.toArray 60))
    have CU_2 := (show Hid _ from CU_1.out.alloc (.cells zdl.toArray 60))
    have BB_2 := (show Hid _ from BB_1.out.alloc BB_1.out.size (.cells zdl.toArray 60))
    have XV_2 := (show Hid _ from va_new w1 zdl 60)
    have HQ : Hid (w.heap.size + 1 < w1.heap.size) := VR_1.out.lt
    refine hK.out _ _ ⟨VD_2.out, CU_2.out⟩ (fun hHeld => ?_)
    try simp only [Act.put, List.setIfInBounds_toArray, List.set_cons_zero, List.set_cons_succ]
    clear hK K hHeld VD_1 VR_1 CU_1 BB_1
    change wpAnyH _ _ _ _ _ _ _ _ (w1.alloc (.cells zdl.toArray 60))
    generalize w1.alloc (.cells zdl.toArray 60) = w2 at *
    generalize w1.heap.size = q at *
    refine wpAnyH_ready (rs := [11]) (by kernel_rfl) (by simp) ?_
    refine AllReadyH.cons (by exact rfl) (fun K hK => ?_) AllReadyH.nil
    refine stAn (by rfl) (by rfl) 60 _ _ (by rfl) q (by rfl) zdl zdl (by rfl) 60 XV_2.out infoD rfl (by decide) ?_
    intro w9 v9 u9
    have VD_9 := (show Hid _ from VD_2.out.upd u9 (by have := HQ.out; omega))
    have CU_9 := (show Hid _ from CU_2.out.upd u9 (by have := HQ.out; omega))
    refine hK.out _ _ ⟨VD_9.out, CU_9.out⟩ (fun hHeld => ?_)
    clear hK K
    refine takeD 12 9 (.int .i64 E) (by exact rfl) rfl (by kernel_rfl) (by kernel_rfl) (by kernel_rfl) (fun _ _ _ h => h) (Or.inl ⟨by rfl, ?_⟩) (by assumption) ?_
    · intro wq hS
      go_simp
    try simp only [Act.put, List.setIfInBounds_toArray, List.set_cons_zero, List.set_cons_succ]
    clear hHeld
    refine wpAnyH_done (by kernel_rfl) ?_ _
    refine NoPanic.normal ?_
    have VR_9 := (show Hid _ from VR_2.out.upd u9 (by have := HQ.out; omega))
    have BB_9 := (show Hid _ from u9.bel BB_2.out (by have := HQ.out; omega))
    clear v9 u9 VD_2 CU_2 VR_2 BB_2 XV_2 VD_9 CU_9
    go_wp2_with (refine stA rfl 23 _ _ rfl (w.heap.size + 1) (by rfl) (mcl 0 0) (mcl 0 0) (by rfl) 23 VR_9.out infoM rfl (mcl_one _ _) ?_; intro wf vf uf)
    have hld := run_loadVar_row (P := Tryd.prog) wf (w.heap.size + 1) 23 23 _ (0, 0) _ vf.blk Tryd.underlying23 rfl infoM
    exact bodyPost_ret (v := .tuple #[.agg (mcl 0 0).toArray, .int .i64 E]) (by simp [results, Tryd.results25, asAddr, hld]) rfl ⟨rfl, uf.bel BB_9.out (by omega)⟩
  · go_simp
    have VD_1 := (show Hid _ from VD_z.out.alloc (.cells zdl.toArray 60))
    have VR_1 := (show Hid _ from VR_z.out.alloc (.cells zdl.toArray 60))
    have CU_1 := (show Hid _ from CU_z.out.alloc (.cells zdl.toArray 60))
    have BB_1 := (show Hid _ from BB_z.out.alloc BB_z.out.size (.cells zdl.toArray 60))
    have XV_1 := (show Hid _ from va_new wz zdl 60)
    have HQ : Hid (w.heap.size + 1 < wz.heap.size) := VR_z.out.lt
    refine hK.out _ _ ⟨VD_1.out, CU_1.out⟩ (fun hHeld => ?_)
    try simp only [Act.put, List.setIfInBounds_toArray, List.set_cons_zero, List.set_cons_succ]
    clear hK K hHeld VD_z VR_z CU_z BB_z
    change wpAnyH _ _ _ _ _ _ _ _ (wz.alloc (.cells zdl.toArray 60))
    generalize wz.alloc (.cells zdl.toArray 60) = w1 at *
    generalize wz.heap.size = q at *
    refine wpAnyH_ready (rs := [6]) (by kernel_rfl) (by simp) ?_
    refine AllReadyH.cons (by exact rfl) (fun K hK => ?_) AllReadyH.nil
    go_simp
    refine (HRS.out _).mono ?_
    rintro e w2 ⟨rfl, b2⟩
    have VD_2 := (show Hid _ from VD_1.out.step b2)
    have VR_2 := (show Hid _ from VR_1.out.step b2)
    have CU_2 := (show Hid _ from CU_1.out.step b2)
    have XV_2 := (show Hid _ from XV_1.out.step b2)
    have BB_2 := (show Hid _ from BB_1.out.trans (b2.mono BB_1.out.size))
    clear b2
    go_wp2_with fail
    refine hK.out _ _ (⟨VD_2.out, CU_2.out⟩) (fun hHeld => ?_)
    try simp only [Act.put, List.setIfInBounds_toArray, List.set_cons_zero, List.set_cons_succ]
    clear hK K
    clear VD_1 VR_1 CU_1 BB_1 XV_1
    refine takeD 7 15 (.tuple #[.agg #[.int .i64 0, .int .u64 0, .int .i64 0], .int .i64 E]) (by exact rfl) rfl (by kernel_rfl) (by kernel_rfl) (by kernel_rfl) (fun _ _ _ h => h) (Or.inl ⟨by rfl, ?_⟩) (by assumption) ?_
    · intro wq hS
      go_simp
    try simp only [Act.put, List.setIfInBounds_toArray, List.set_cons_zero, List.set_cons_succ]
    refine takeD 8 23 (.agg zdl.toArray) (by exact rfl) rfl (by kernel_rfl) (by kernel_rfl) (by kernel_rfl) (fun _ _ _ h => h) (Or.inl ⟨by rfl, ?_⟩) (by assumption) ?_
    · intro wq hS
      go_simp
      rfl
    try simp only [Act.put, List.setIfInBounds_toArray, List.set_cons_zero, List.set_cons_succ]
    refine takeD 9 24 (.int .i64 E) (by exact rfl) rfl (by kernel_rfl) (by kernel_rfl) (by kernel_rfl) (fun _ _ _ h => h) (Or.inl ⟨by rfl, ?_⟩) (by assumption) ?_
    · intro wq hS
      go_simp
    try simp only [Act.put, List.setIfInBounds_toArray, List.set_cons_zero, List.set_cons_succ]
    clear hHeld
    refine wpAnyH_ready (rs := [11]) (by kernel_rfl) (by simp) ?_
    refine AllReadyH.cons (by exact rfl) (fun K hK => ?_) AllReadyH.nil
    refine stAn (by rfl) (by rfl) 60 _ _ (by rfl) q (by rfl) zdl zdl (by rfl) 60 XV_2.out infoD rfl (by decide) ?_
    intro w9 v9 u9
    have VD_9 := (show Hid _ from VD_2.out.upd u9 (by have := HQ.out; omega))
    have CU_9 := (show Hid _ from CU_2.out.upd u9 (by have := HQ.out; omega))
    refine hK.out _ _ ⟨VD_9.out, CU_9.out⟩ (fun hHeld => ?_)
    clear hK K
    refine takeD 12 9 (.int .i64 E) (by exact rfl) rfl (by kernel_rfl) (by kernel_rfl) (by kernel_rfl) (fun _ _ _ h => h) (Or.inl ⟨by rfl, ?_⟩) (by assumption) ?_
    · intro wq hS
      go_simp
    try simp only [Act.put, List.setIfInBounds_toArray, List.set_cons_zero, List.set_cons_succ]
    clear hHeld
    refine wpAnyH_done (by kernel_rfl) ?_ _
    refine NoPanic.normal ?_
    have VR_9 := (show Hid _ from VR_2.out.upd u9 (by have := HQ.out; omega))
    have BB_9 := (show Hid _ from u9.bel BB_2.out (by have := HQ.out; omega))
    clear v9 u9 VD_2 CU_2 VR_2 BB_2 XV_2 VD_9 CU_9
    go_wp2_with (refine stA rfl 23 _ _ rfl (w.heap.size + 1) (by rfl) (mcl 0 0) (mcl 0 0) (by rfl) 23 VR_9.out infoM rfl (mcl_one _ _) ?_; intro wf vf uf)
    have hld := run_loadVar_row (P := Tryd.prog) wf (w.heap.size + 1) 23 23 _ (0, 0) _ vf.blk Tryd.underlying23 rfl infoM
    exact bodyPost_ret (v := .tuple #[.agg (mcl 0 0).toArray, .int .i64 E]) (by simp [results, Tryd.results25, asAddr, hld]) rfl ⟨rfl, uf.bel BB_9.out (by omega)⟩
end Go.Proofs.YtcnigpkmedgbdaaDoor
