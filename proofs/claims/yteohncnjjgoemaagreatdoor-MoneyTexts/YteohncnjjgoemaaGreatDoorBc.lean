/- money: the contract of Of. -/
import Derived.Test.YteohncnjjgoemaaGreatDoorBb
namespace Go.Proofs.YteohncnjjgoemaaGreatDoor
open Go.RowKit
set_option linter.unusedVariables false
attribute [local go_sem] ext_cell ext_frozen ext_drew ext_of_drew ext_of_drewN ext_setCell ext_lt ext_lt1 ext_lt2 ext_lt3 lt_n2 lt_n3 lt_n4 lt_n5 lt_n6

theorem cut0_zero (c : Int) : cut0 c 0 = c := by
  unfold cut0
  rw [Nat.pow_zero, Nat.div_one, sv_abs]
theorem int_near (q : Int) (w : World) (iq : InR q) (h0 : -9223372036854775808 ≤ q) (h1 : q ≤ 9223372036854775807) :
    Calls Tryz.prog 45 #[.agg (dcs q 0).toArray] w fun e w' => e = .returned (.tuple #[.int .i64 q, .int .i64 0]) ∧ Below w.heap.size w w' := by
  have h := int_yes q 0 w iq (by decide) (by rw [cut0_zero, tv_self]) (by rw [cut0_zero]; omega) (by rw [cut0_zero]; exact h1)
  rw [cut0_zero] at h
  exact h
theorem int_away (q : Int) (w : World) (iq : InR q) (h : ¬ (-9223372036854775808 ≤ q ∧ q ≤ 9223372036854775807)) :
    Calls Tryz.prog 45 #[.agg (dcs q 0).toArray] w fun e w' => e = .returned (.tuple #[.int .i64 0, .int .i64 4]) ∧ Below w.heap.size w w' :=
  int_out q 0 w iq (by decide) (by rw [cut0_zero, tv_self]) (by rw [cut0_zero]; omega)
set_option maxHeartbeats 4000000 in
set_option maxRecDepth 100000 in
theorem MOf_yes (c : Int) (s i mode : Nat) (R : Int) (w : World) (T : Cu w) (ic : InR c) (hs : (s : Int) ≤ 18) (hi : i < 4) (hm : (mode : Int) ≤ 6) (hR : R = rv c s (cdg i) mode) (iR : InR R) (hr : -10000000000000 ≤ R ∧ R ≤ 10000000000000) :
    Calls Tryz.prog 21 #[.agg (dcs c s).toArray, .int .i64 i, .int .i64 mode] w fun e w' => e = .returned (.tuple #[.agg (mcl i R).toArray, .int .i64 0]) ∧ Below w.heap.size w w' := by
  have hd18 : (cdg i : Int) ≤ 18 := by have := cdg_le i; omega
  have RS : ∀ w, InR c → (s : Int) ≤ 18 → (cdg i : Int) ≤ 18 → (mode : Int) ≤ 6 → InR R → Calls Tryz.prog 44 #[.agg #[.int .i64 (dhi c), .int .u64 (dlo c), .int .i64 s], .int .i64 (cdg i), .int .i64 mode] w fun e w' => e = .returned (.tuple #[.agg #[.int .i64 (dhi R), .int .u64 (dlo R), .int .i64 (cdg i)], .int .i64 0]) ∧ Below w.heap.size w w' := by
    intro w h1 h2 h3 h4 h5
    rw [hR] at h5 ⊢
    exact rescale_yes c s (cdg i) mode w h1 h2 h3 h4 h5
  have HRS := (show Hid _ from RS)
  have IC : Hid (InR c) := ic
  have HS := (show Hid _ from hs)
  have HD := (show Hid _ from hd18)
  have HM := (show Hid _ from hm)
  have IR : Hid (InR R) := iR
  have HR0 := (show Hid _ from hr)
  have HWI : Hid (wi R (-10000000000000) 10000000000000 = true) := wi_yes hr.1 hr.2
  clear hr
  have VD_0 := (show Hid _ from (va_new w (dcs c s) 41).alloc (.cells (mcl 0 0).toArray 23))
  have VR_0 := (show Hid _ from va_new (w.alloc (.cells (dcs c s).toArray 41)) (mcl 0 0) 23)
  rw [show (w.alloc (.cells (dcs c s).toArray 41)).heap.size = w.heap.size + 1 by simp] at VR_0
  have BB_0 := (show Hid _ from ((Below.refl w.heap.size w).alloc (Nat.le_refl _) (.cells (dcs c s).toArray 41)).alloc (by simp) (.cells (mcl 0 0).toArray 23))
  have CU_0 := (show Hid _ from (T.alloc (.cells (dcs c s).toArray 41)).alloc (.cells (mcl 0 0).toArray 23))
  have hp : 0 < w.heap.size := T.lt
  have hw := wi_yes (n := (i : Int)) (l := 0) (g := 3) (by omega) (by omega)
  clear T RS ic hs hd18 hm iR hR
  go_enter Tryz.func21, Tryz.ntmps21
  go_wp2_with fail
  refine (mcur_ok i _).mono ?_
  rintro e w1 ⟨rfl, hq⟩
  obtain rfl := hq.symm
  rw [hw]
  clear hw
  go_upto_region 3 with fail
  change Code.wp _ _ _ _ (w.alloc (.cells (dcs c s).toArray 41) |>.alloc (.cells (mcl 0 0).toArray 23))
  generalize (w.alloc (.cells (dcs c s).toArray 41) |>.alloc (.cells (mcl 0 0).toArray 23)) = W at *
  refine wp_region_noPanic ?_
  refine wp_region_held_drew (S := fun w' => VA w' w.heap.size (dcs c s) 41 ∧ Cu w') (by kernel_rfl) ⟨VD_0.out.drew, CU_0.out.drew⟩ (fun hHeld => ?_)
  refine takeD 0 16 (.agg #[.int .i64 (dhi c), .int .u64 (dlo c), .int .i64 s]) (by exact rfl) rfl (by kernel_rfl) (by kernel_rfl) (by kernel_rfl) (fun _ _ _ h => h) (Or.inl ⟨by rfl, ?_⟩) (by assumption) ?_
  · intro wq hS
    have h0 := hS.1.cell 0 (v := .int .i64 (dhi c)) rfl
    have h1 := hS.1.cell 1 (v := .int .u64 (dlo c)) rfl
    have h2 := hS.1.cell 2 (v := .int .i64 s) rfl
    go_simp
  try simp only [Act.put, List.setIfInBounds_toArray, List.set_cons_zero, List.set_cons_succ]
  refine takeD 1 17 (.int .i64 (i : Int)) (by exact rfl) rfl (by kernel_rfl) (by kernel_rfl) (by kernel_rfl) (fun _ _ _ h => h) (Or.inl ⟨by rfl, ?_⟩) (by assumption) ?_
  · intro wq hS
    go_simp
  try simp only [Act.put, List.setIfInBounds_toArray, List.set_cons_zero, List.set_cons_succ]
  refine takeD 2 18 (.pointer (some ⟨0, i * 2, none⟩)) (by exact rfl) rfl (by kernel_rfl) (by kernel_rfl) (by kernel_rfl) (fun _ _ _ h => h) (Or.inl ⟨by rfl, ?_⟩) (by assumption) ?_
  · intro wq hS
    go_simp
    intro h; omega
  try simp only [Act.put, List.setIfInBounds_toArray, List.set_cons_zero, List.set_cons_succ]
  refine takeD 3 19 (.pointer (some ⟨0, i * 2 + 1, none⟩)) (by exact rfl) rfl (by kernel_rfl) (by kernel_rfl) (by kernel_rfl) (fun _ _ _ h => h) (Or.inl ⟨by rfl, ?_⟩) (by assumption) ?_
  · intro wq hS
    go_simp
  try simp only [Act.put, List.setIfInBounds_toArray, List.set_cons_zero, List.set_cons_succ]
  refine takeD 4 20 (.int .i64 (cdg i : Int)) (by exact rfl) rfl (by kernel_rfl) (by kernel_rfl) (by kernel_rfl) (fun _ _ _ h => h) (Or.inl ⟨by rfl, ?_⟩) (by assumption) ?_
  · intro wq hS
    have h1 := hS.2.row i hi
    go_simp
  try simp only [Act.put, List.setIfInBounds_toArray, List.set_cons_zero, List.set_cons_succ]
  refine takeD 5 21 (.int .i64 (mode : Int)) (by exact rfl) rfl (by kernel_rfl) (by kernel_rfl) (by kernel_rfl) (fun _ _ _ h => h) (Or.inl ⟨by rfl, ?_⟩) (by assumption) ?_
  · intro wq hS
    go_simp
  try simp only [Act.put, List.setIfInBounds_toArray, List.set_cons_zero, List.set_cons_succ]
  clear hHeld
  have VD_z := (show Hid _ from VD_0.out.drew)
  have VR_z := (show Hid _ from VR_0.out.drew)
  have CU_z := (show Hid _ from CU_0.out.drew)
  have BB_z := (show Hid _ from BB_0.out.drew)
  clear VD_0 VR_0 CU_0 BB_0
  generalize W.drew = wz at *
  refine wpAnyH_ready (rs := [6, 10]) (by kernel_rfl) (by simp) ?_
  refine AllReadyH.cons (by exact rfl) (fun K hK => ?_) (AllReadyH.cons (by exact rfl) (fun K hK => ?_) AllReadyH.nil)
  · go_simp
    refine (HRS.out _ IC.out HS.out HD.out HM.out IR.out).mono ?_
    rintro e w1 ⟨rfl, b1⟩
    have VD_1 := (show Hid _ from VD_z.out.step b1)
    have VR_1 := (show Hid _ from VR_z.out.step b1)
    have CU_1 := (show Hid _ from CU_z.out.step b1)
    have BB_1 := (show Hid _ from BB_z.out.trans (b1.mono BB_z.out.size))
    clear b1
    go_wp2_with fail
    refine hK.out _ _ (⟨VD_1.out, CU_1.out⟩) (fun hHeld => ?_)
    try simp only [Act.put, List.setIfInBounds_toArray, List.set_cons_zero, List.set_cons_succ]
    clear hK K
    clear VD_z VR_z CU_z BB_z
    refine takeD 7 15 (.tuple #[.agg #[.int .i64 (dhi R), .int .u64 (dlo R), .int .i64 (cdg i)], .int .i64 0]) (by exact rfl) rfl (by kernel_rfl) (by kernel_rfl) (by kernel_rfl) (fun _ _ _ h => h) (Or.inl ⟨by rfl, ?_⟩) (by assumption) ?_
    · intro wq hS
      go_simp
    try simp only [Act.put, List.setIfInBounds_toArray, List.set_cons_zero, List.set_cons_succ]
    refine takeD 8 23 (.agg (dcs R (cdg i)).toArray) (by exact rfl) rfl (by kernel_rfl) (by kernel_rfl) (by kernel_rfl) (fun _ _ _ h => h) (Or.inl ⟨by rfl, ?_⟩) (by assumption) ?_
    · intro wq hS
      go_simp
      rfl
    try simp only [Act.put, List.setIfInBounds_toArray, List.set_cons_zero, List.set_cons_succ]
    refine takeD 9 24 (.int .i64 0) (by exact rfl) rfl (by kernel_rfl) (by kernel_rfl) (by kernel_rfl) (fun _ _ _ h => h) (Or.inl ⟨by rfl, ?_⟩) (by assumption) ?_
    · intro wq hS
      go_simp
    try simp only [Act.put, List.setIfInBounds_toArray, List.set_cons_zero, List.set_cons_succ]
    clear hHeld
    refine wpAnyH_ready (rs := [10]) (by kernel_rfl) (by simp) ?_
    refine AllReadyH.cons (by exact rfl) (fun K hK => ?_) AllReadyH.nil
    go_simp
    have VD_2 := (show Hid _ from VD_1.out.alloc (.cells zdl.toArray 41))
    have VR_2 := (show Hid _ from VR_1.out.alloc (.cells zdl.toArray 41))
    have CU_2 := (show Hid _ from CU_1.out.alloc (.cells zdl.toArray 41))
    have BB_2 := (show Hid _ from BB_1.out.alloc BB_1.out.size (.cells zdl.toArray 41))
    have XV_2 := (show Hid _ from va_new w1 zdl 41)
    have HQ : Hid (w.heap.size + 1 < w1.heap.size) := VR_1.out.lt
    refine hK.out _ _ ⟨VD_2.out, CU_2.out⟩ (fun hHeld => ?_)
    try simp only [Act.put, List.setIfInBounds_toArray, List.set_cons_zero, List.set_cons_succ]
    clear hK K hHeld VD_1 VR_1 CU_1 BB_1
    change wpAnyH _ _ _ _ _ _ _ _ (w1.alloc (.cells zdl.toArray 41))
    generalize w1.alloc (.cells zdl.toArray 41) = w2 at *
    generalize w1.heap.size = q at *
    refine wpAnyH_ready (rs := [11]) (by kernel_rfl) (by simp) ?_
    refine AllReadyH.cons (by exact rfl) (fun K hK => ?_) AllReadyH.nil
    refine stAn (by rfl) (by rfl) 41 _ _ (by rfl) q (by rfl) zdl (dcs R (cdg i)) (by rfl) 41 XV_2.out infoD rfl (dcs_one _ _) ?_
    intro w9 v9 u9
    have VD_9 := (show Hid _ from VD_2.out.upd u9 (by have := HQ.out; omega))
    have CU_9 := (show Hid _ from CU_2.out.upd u9 (by have := HQ.out; omega))
    refine hK.out _ _ ⟨VD_9.out, CU_9.out⟩ (fun hHeld => ?_)
    clear hK K
    refine takeD 12 9 (.int .i64 0) (by exact rfl) rfl (by kernel_rfl) (by kernel_rfl) (by kernel_rfl) (fun _ _ _ h => h) (Or.inl ⟨by rfl, ?_⟩) (by assumption) ?_
    · intro wq hS
      go_simp
    try simp only [Act.put, List.setIfInBounds_toArray, List.set_cons_zero, List.set_cons_succ]
    clear hHeld
    refine wpAnyH_done (by kernel_rfl) ?_ _
    refine NoPanic.normal ?_
    have XV_9 := (show Hid _ from v9)
    have VR_9 := (show Hid _ from VR_2.out.upd u9 (by have := HQ.out; omega))
    have BB_9 := (show Hid _ from u9.bel BB_2.out (by have := HQ.out; omega))
    clear v9 u9 VD_2 CU_2 VR_2 BB_2 XV_2 VD_9 CU_9
    have x2 := XV_9.out.cell 2 (v := .int .i64 (cdg i : Int)) rfl
    have f2 := XV_9.out.free 2
    go_upto_region 7 with fail
    clear x2 f2
    have X : Hid (VA (w9.setCell ⟨q, 2, none⟩ (.int .i64 0)) q (dcs R 0) 41) := XV_9.out.set 2 (.int .i64 0)
    have VRA := (show Hid _ from VR_9.out.set_other (q := q) (by have := HQ.out; omega) 2 (.int .i64 0))
    have BBA := (show Hid _ from BB_9.out.setCell (p := ⟨q, 2, none⟩) (by have := HQ.out; show _ ≤ q; omega) (.int .i64 0))
    clear XV_9 VR_9 BB_9
    generalize w9.setCell ⟨q, 2, none⟩ (.int .i64 0) = wa at *
    go_wp2_with (refine ldA rfl 41 _ rfl q (by rfl) (dcs R 0) _ X.out _ Tryz.underlying41 rfl infoD ?_)
    refine (int_near R _ IR.out (by have := HR0.out; omega) (by have := HR0.out; omega)).mono ?_
    rintro e wb ⟨rfl, bb⟩
    have VRB := (show Hid _ from VRA.out.step bb)
    have BBB := (show Hid _ from BBA.out.trans (bb.mono BBA.out.size))
    clear bb VRA BBA X
    go_wp2_with fail
    refine (amount_yes (i : Int) R _ HWI.out).mono ?_
    rintro e wc ⟨rfl, bc⟩
    have VRX := (show Hid _ from VRB.out.step bc)
    have BBX := (show Hid _ from BBB.out.trans (bc.mono BBB.out.size))
    clear bc VRB BBB
    go_wp2_with (refine stA rfl 23 _ _ rfl (w.heap.size + 1) (by rfl) (mcl 0 0) (mcl i R) (by rfl) 23 VRX.out infoM rfl (mcl_one _ _) ?_; intro wf vf uf)
    have hld := run_loadVar_row (P := Tryz.prog) wf (w.heap.size + 1) 23 23 _ (0, 0) _ vf.blk Tryz.underlying23 rfl infoM
    exact bodyPost_ret (v := .tuple #[.agg (mcl i R).toArray, .int .i64 0]) (by simp [results, Tryz.results21, asAddr, hld]) rfl ⟨rfl, uf.bel BBX.out (by omega)⟩
  · go_simp
    have VD_1 := (show Hid _ from VD_z.out.alloc (.cells zdl.toArray 41))
    have VR_1 := (show Hid _ from VR_z.out.alloc (.cells zdl.toArray 41))
    have CU_1 := (show Hid _ from CU_z.out.alloc (.cells zdl.toArray 41))
    have BB_1 := (show Hid _ from BB_z.out.alloc BB_z.out.size (.cells zdl.toArray 41))
    have XV_1 := (show Hid _ from va_new wz zdl 41)
    have HQ : Hid (w.heap.size + 1 < wz.heap.size) := VR_z.out.lt
    refine hK.out _ _ ⟨VD_1.out, CU_1.out⟩ (fun hHeld => ?_)
    try simp only [Act.put, List.setIfInBounds_toArray, List.set_cons_zero, List.set_cons_succ]
    clear hK K hHeld VD_z VR_z CU_z BB_z
    change wpAnyH _ _ _ _ _ _ _ _ (wz.alloc (.cells zdl.toArray 41))
    generalize wz.alloc (.cells zdl.toArray 41) = w1 at *
    generalize wz.heap.size = q at *
    refine wpAnyH_ready (rs := [6]) (by kernel_rfl) (by simp) ?_
    refine AllReadyH.cons (by exact rfl) (fun K hK => ?_) AllReadyH.nil
    go_simp
    refine (HRS.out _ IC.out HS.out HD.out HM.out IR.out).mono ?_
    rintro e w2 ⟨rfl, b2⟩
    have VD_2 := (show Hid _ from VD_1.out.step b2)
    have VR_2 := (show Hid _ from VR_1.out.step b2)
    have CU_2 := (show Hid _ from CU_1.out.step b2)
    have XV_2 := (show Hid _ from XV_1.out.step b2)
    have BB_2 := (show Hid _ from BB_1.out.trans (b2.mono BB_1.out.size))
    clear b2
    go_wp2_with fail
    refine hK.out _ _ (⟨VD_2.out, CU_2.out⟩) (fun hHeld => ?_)
    try simp only [Act.put, List.setIfInBounds_toArray, List.set_cons_zero, List.set_cons_succ]
    clear hK K
    clear VD_1 VR_1 CU_1 BB_1 XV_1
    refine takeD 7 15 (.tuple #[.agg #[.int .i64 (dhi R), .int .u64 (dlo R), .int .i64 (cdg i)], .int .i64 0]) (by exact rfl) rfl (by kernel_rfl) (by kernel_rfl) (by kernel_rfl) (fun _ _ _ h => h) (Or.inl ⟨by rfl, ?_⟩) (by assumption) ?_
    · intro wq hS
      go_simp
    try simp only [Act.put, List.setIfInBounds_toArray, List.set_cons_zero, List.set_cons_succ]
    refine takeD 8 23 (.agg (dcs R (cdg i)).toArray) (by exact rfl) rfl (by kernel_rfl) (by kernel_rfl) (by kernel_rfl) (fun _ _ _ h => h) (Or.inl ⟨by rfl, ?_⟩) (by assumption) ?_
    · intro wq hS
      go_simp
      rfl
    try simp only [Act.put, List.setIfInBounds_toArray, List.set_cons_zero, List.set_cons_succ]
    refine takeD 9 24 (.int .i64 0) (by exact rfl) rfl (by kernel_rfl) (by kernel_rfl) (by kernel_rfl) (fun _ _ _ h => h) (Or.inl ⟨by rfl, ?_⟩) (by assumption) ?_
    · intro wq hS
      go_simp
    try simp only [Act.put, List.setIfInBounds_toArray, List.set_cons_zero, List.set_cons_succ]
    clear hHeld
    refine wpAnyH_ready (rs := [11]) (by kernel_rfl) (by simp) ?_
    refine AllReadyH.cons (by exact rfl) (fun K hK => ?_) AllReadyH.nil
    refine stAn (by rfl) (by rfl) 41 _ _ (by rfl) q (by rfl) zdl (dcs R (cdg i)) (by rfl) 41 XV_2.out infoD rfl (dcs_one _ _) ?_
    intro w9 v9 u9
    have VD_9 := (show Hid _ from VD_2.out.upd u9 (by have := HQ.out; omega))
    have CU_9 := (show Hid _ from CU_2.out.upd u9 (by have := HQ.out; omega))
    refine hK.out _ _ ⟨VD_9.out, CU_9.out⟩ (fun hHeld => ?_)
    clear hK K
    refine takeD 12 9 (.int .i64 0) (by exact rfl) rfl (by kernel_rfl) (by kernel_rfl) (by kernel_rfl) (fun _ _ _ h => h) (Or.inl ⟨by rfl, ?_⟩) (by assumption) ?_
    · intro wq hS
      go_simp
    try simp only [Act.put, List.setIfInBounds_toArray, List.set_cons_zero, List.set_cons_succ]
    clear hHeld
    refine wpAnyH_done (by kernel_rfl) ?_ _
    refine NoPanic.normal ?_
    have XV_9 := (show Hid _ from v9)
    have VR_9 := (show Hid _ from VR_2.out.upd u9 (by have := HQ.out; omega))
    have BB_9 := (show Hid _ from u9.bel BB_2.out (by have := HQ.out; omega))
    clear v9 u9 VD_2 CU_2 VR_2 BB_2 XV_2 VD_9 CU_9
    have x2 := XV_9.out.cell 2 (v := .int .i64 (cdg i : Int)) rfl
    have f2 := XV_9.out.free 2
    go_upto_region 7 with fail
    clear x2 f2
    have X : Hid (VA (w9.setCell ⟨q, 2, none⟩ (.int .i64 0)) q (dcs R 0) 41) := XV_9.out.set 2 (.int .i64 0)
    have VRA := (show Hid _ from VR_9.out.set_other (q := q) (by have := HQ.out; omega) 2 (.int .i64 0))
    have BBA := (show Hid _ from BB_9.out.setCell (p := ⟨q, 2, none⟩) (by have := HQ.out; show _ ≤ q; omega) (.int .i64 0))
    clear XV_9 VR_9 BB_9
    generalize w9.setCell ⟨q, 2, none⟩ (.int .i64 0) = wa at *
    go_wp2_with (refine ldA rfl 41 _ rfl q (by rfl) (dcs R 0) _ X.out _ Tryz.underlying41 rfl infoD ?_)
    refine (int_near R _ IR.out (by have := HR0.out; omega) (by have := HR0.out; omega)).mono ?_
    rintro e wb ⟨rfl, bb⟩
    have VRB := (show Hid _ from VRA.out.step bb)
    have BBB := (show Hid _ from BBA.out.trans (bb.mono BBA.out.size))
    clear bb VRA BBA X
    go_wp2_with fail
    refine (amount_yes (i : Int) R _ HWI.out).mono ?_
    rintro e wc ⟨rfl, bc⟩
    have VRX := (show Hid _ from VRB.out.step bc)
    have BBX := (show Hid _ from BBB.out.trans (bc.mono BBB.out.size))
    clear bc VRB BBB
    go_wp2_with (refine stA rfl 23 _ _ rfl (w.heap.size + 1) (by rfl) (mcl 0 0) (mcl i R) (by rfl) 23 VRX.out infoM rfl (mcl_one _ _) ?_; intro wf vf uf)
    have hld := run_loadVar_row (P := Tryz.prog) wf (w.heap.size + 1) 23 23 _ (0, 0) _ vf.blk Tryz.underlying23 rfl infoM
    exact bodyPost_ret (v := .tuple #[.agg (mcl i R).toArray, .int .i64 0]) (by simp [results, Tryz.results21, asAddr, hld]) rfl ⟨rfl, uf.bel BBX.out (by omega)⟩
set_option maxHeartbeats 4000000 in
set_option maxRecDepth 100000 in
theorem MOf_big (c : Int) (s i mode : Nat) (R : Int) (w : World) (T : Cu w) (ic : InR c) (hs : (s : Int) ≤ 18) (hi : i < 4) (hm : (mode : Int) ≤ 6) (hR : R = rv c s (cdg i) mode) (iR : InR R) (hr : ¬ (-10000000000000 ≤ R ∧ R ≤ 10000000000000)) (h64 : -9223372036854775808 ≤ R ∧ R ≤ 9223372036854775807) :
    Calls Tryz.prog 21 #[.agg (dcs c s).toArray, .int .i64 i, .int .i64 mode] w fun e w' => e = .returned (.tuple #[.agg (mcl 0 0).toArray, .int .i64 4]) ∧ Below w.heap.size w w' := by
  have hd18 : (cdg i : Int) ≤ 18 := by have := cdg_le i; omega
  have RS : ∀ w, InR c → (s : Int) ≤ 18 → (cdg i : Int) ≤ 18 → (mode : Int) ≤ 6 → InR R → Calls Tryz.prog 44 #[.agg #[.int .i64 (dhi c), .int .u64 (dlo c), .int .i64 s], .int .i64 (cdg i), .int .i64 mode] w fun e w' => e = .returned (.tuple #[.agg #[.int .i64 (dhi R), .int .u64 (dlo R), .int .i64 (cdg i)], .int .i64 0]) ∧ Below w.heap.size w w' := by
    intro w h1 h2 h3 h4 h5
    rw [hR] at h5 ⊢
    exact rescale_yes c s (cdg i) mode w h1 h2 h3 h4 h5
  have HRS := (show Hid _ from RS)
  have IC : Hid (InR c) := ic
  have HS := (show Hid _ from hs)
  have HD := (show Hid _ from hd18)
  have HM := (show Hid _ from hm)
  have IR : Hid (InR R) := iR
  have HR0 := (show Hid _ from h64)
  have HWI : Hid (wi R (-10000000000000) 10000000000000 = false) := wi_no hr
  clear hr h64
  have VD_0 := (show Hid _ from (va_new w (dcs c s) 41).alloc (.cells (mcl 0 0).toArray 23))
  have VR_0 := (show Hid _ from va_new (w.alloc (.cells (dcs c s).toArray 41)) (mcl 0 0) 23)
  rw [show (w.alloc (.cells (dcs c s).toArray 41)).heap.size = w.heap.size + 1 by simp] at VR_0
  have BB_0 := (show Hid _ from ((Below.refl w.heap.size w).alloc (Nat.le_refl _) (.cells (dcs c s).toArray 41)).alloc (by simp) (.cells (mcl 0 0).toArray 23))
  have CU_0 := (show Hid _ from (T.alloc (.cells (dcs c s).toArray 41)).alloc (.cells (mcl 0 0).toArray 23))
  have hp : 0 < w.heap.size := T.lt
  have hw := wi_yes (n := (i : Int)) (l := 0) (g := 3) (by omega) (by omega)
  clear T RS ic hs hd18 hm iR hR
  go_enter Tryz.func21, Tryz.ntmps21
  go_wp2_with fail
  refine (mcur_ok i _).mono ?_
  rintro e w1 ⟨rfl, hq⟩
  obtain rfl := hq.symm
  rw [hw]
  clear hw
  go_upto_region 3 with fail
  change Code.wp _ _ _ _ (w.alloc (.cells (dcs c s).toArray 41) |>.alloc (.cells (mcl 0 0).toArray 23))
  generalize (w.alloc (.cells (dcs c s).toArray 41) |>.alloc (.cells (mcl 0 0).toArray 23)) = W at *
  refine wp_region_noPanic ?_
  refine wp_region_held_drew (S := fun w' => VA w' w.heap.size (dcs c s) 41 ∧ Cu w') (by kernel_rfl) ⟨VD_0.out.drew, CU_0.out.drew⟩ (fun hHeld => ?_)
  refine takeD 0 16 (.agg #[.int .i64 (dhi c), .int .u64 (dlo c), .int .i64 s]) (by exact rfl) rfl (by kernel_rfl) (by kernel_rfl) (by kernel_rfl) (fun _ _ _ h => h) (Or.inl ⟨by rfl, ?_⟩) (by assumption) ?_
  · intro wq hS
    have h0 := hS.1.cell 0 (v := .int .i64 (dhi c)) rfl
    have h1 := hS.1.cell 1 (v := .int .u64 (dlo c)) rfl
    have h2 := hS.1.cell 2 (v := .int .i64 s) rfl
    go_simp
  try simp only [Act.put, List.setIfInBounds_toArray, List.set_cons_zero, List.set_cons_succ]
  refine takeD 1 17 (.int .i64 (i : Int)) (by exact rfl) rfl (by kernel_rfl) (by kernel_rfl) (by kernel_rfl) (fun _ _ _ h => h) (Or.inl ⟨by rfl, ?_⟩) (by assumption) ?_
  · intro wq hS
    go_simp
  try simp only [Act.put, List.setIfInBounds_toArray, List.set_cons_zero, List.set_cons_succ]
  refine takeD 2 18 (.pointer (some ⟨0, i * 2, none⟩)) (by exact rfl) rfl (by kernel_rfl) (by kernel_rfl) (by kernel_rfl) (fun _ _ _ h => h) (Or.inl ⟨by rfl, ?_⟩) (by assumption) ?_
  · intro wq hS
    go_simp
    intro h; omega
  try simp only [Act.put, List.setIfInBounds_toArray, List.set_cons_zero, List.set_cons_succ]
  refine takeD 3 19 (.pointer (some ⟨0, i * 2 + 1, none⟩)) (by exact rfl) rfl (by kernel_rfl) (by kernel_rfl) (by kernel_rfl) (fun _ _ _ h => h) (Or.inl ⟨by rfl, ?_⟩) (by assumption) ?_
  · intro wq hS
    go_simp
  try simp only [Act.put, List.setIfInBounds_toArray, List.set_cons_zero, List.set_cons_succ]
  refine takeD 4 20 (.int .i64 (cdg i : Int)) (by exact rfl) rfl (by kernel_rfl) (by kernel_rfl) (by kernel_rfl) (fun _ _ _ h => h) (Or.inl ⟨by rfl, ?_⟩) (by assumption) ?_
  · intro wq hS
    have h1 := hS.2.row i hi
    go_simp
  try simp only [Act.put, List.setIfInBounds_toArray, List.set_cons_zero, List.set_cons_succ]
  refine takeD 5 21 (.int .i64 (mode : Int)) (by exact rfl) rfl (by kernel_rfl) (by kernel_rfl) (by kernel_rfl) (fun _ _ _ h => h) (Or.inl ⟨by rfl, ?_⟩) (by assumption) ?_
  · intro wq hS
    go_simp
  try simp only [Act.put, List.setIfInBounds_toArray, List.set_cons_zero, List.set_cons_succ]
  clear hHeld
  have VD_z := (show Hid _ from VD_0.out.drew)
  have VR_z := (show Hid _ from VR_0.out.drew)
  have CU_z := (show Hid _ from CU_0.out.drew)
  have BB_z := (show Hid _ from BB_0.out.drew)
  clear VD_0 VR_0 CU_0 BB_0
  generalize W.drew = wz at *
  refine wpAnyH_ready (rs := [6, 10]) (by kernel_rfl) (by simp) ?_
  refine AllReadyH.cons (by exact rfl) (fun K hK => ?_) (AllReadyH.cons (by exact rfl) (fun K hK => ?_) AllReadyH.nil)
  · go_simp
    refine (HRS.out _ IC.out HS.out HD.out HM.out IR.out).mono ?_
    rintro e w1 ⟨rfl, b1⟩
    have VD_1 := (show Hid _ from VD_z.out.step b1)
    have VR_1 := (show Hid _ from VR_z.out.step b1)
    have CU_1 := (show Hid _ from CU_z.out.step b1)
    have BB_1 := (show Hid _ from BB_z.out.trans (b1.mono BB_z.out.size))
    clear b1
    go_wp2_with fail
    refine hK.out _ _ (⟨VD_1.out, CU_1.out⟩) (fun hHeld => ?_)
    try simp only [Act.put, List.setIfInBounds_toArray, List.set_cons_zero, List.set_cons_succ]
    clear hK K
    clear VD_z VR_z CU_z BB_z
    refine takeD 7 15 (.tuple #[.agg #[.int .i64 (dhi R), .int .u64 (dlo R), .int .i64 (cdg i)], .int .i64 0]) (by exact rfl) rfl (by kernel_rfl) (by kernel_rfl) (by kernel_rfl) (fun _ _ _ h => h) (Or.inl ⟨by rfl, ?_⟩) (by assumption) ?_
    · intro wq hS
      go_simp
    try simp only [Act.put, List.setIfInBounds_toArray, List.set_cons_zero, List.set_cons_succ]
    refine takeD 8 23 (.agg (dcs R (cdg i)).toArray) (by exact rfl) rfl (by kernel_rfl) (by kernel_rfl) (by kernel_rfl) (fun _ _ _ h => h) (Or.inl ⟨by rfl, ?_⟩) (by assumption) ?_
    · intro wq hS
      go_simp
      rfl
    try simp only [Act.put, List.setIfInBounds_toArray, List.set_cons_zero, List.set_cons_succ]
    refine takeD 9 24 (.int .i64 0) (by exact rfl) rfl (by kernel_rfl) (by kernel_rfl) (by kernel_rfl) (fun _ _ _ h => h) (Or.inl ⟨by rfl, ?_⟩) (by assumption) ?_
    · intro wq hS
      go_simp
    try simp only [Act.put, List.setIfInBounds_toArray, List.set_cons_zero, List.set_cons_succ]
    clear hHeld
    refine wpAnyH_ready (rs := [10]) (by kernel_rfl) (by simp) ?_
    refine AllReadyH.cons (by exact rfl) (fun K hK => ?_) AllReadyH.nil
    go_simp
    have VD_2 := (show Hid _ from VD_1.out.alloc (.cells zdl.toArray 41))
    have VR_2 := (show Hid _ from VR_1.out.alloc (.cells zdl.toArray 41))
    have CU_2 := (show Hid _ from CU_1.out.alloc (.cells zdl.toArray 41))
    have BB_2 := (show Hid _ from BB_1.out.alloc BB_1.out.size (.cells zdl.toArray 41))
    have XV_2 := (show Hid _ from va_new w1 zdl 41)
    have HQ : Hid (w.heap.size + 1 < w1.heap.size) := VR_1.out.lt
    refine hK.out _ _ ⟨VD_2.out, CU_2.out⟩ (fun hHeld => ?_)
    try simp only [Act.put, List.setIfInBounds_toArray, List.set_cons_zero, List.set_cons_succ]
    clear hK K hHeld VD_1 VR_1 CU_1 BB_1
    change wpAnyH _ _ _ _ _ _ _ _ (w1.alloc (.cells zdl.toArray 41))
    generalize w1.alloc (.cells zdl.toArray 41) = w2 at *
    generalize w1.heap.size = q at *
    refine wpAnyH_ready (rs := [11]) (by kernel_rfl) (by simp) ?_
    refine AllReadyH.cons (by exact rfl) (fun K hK => ?_) AllReadyH.nil
    refine stAn (by rfl) (by rfl) 41 _ _ (by rfl) q (by rfl) zdl (dcs R (cdg i)) (by rfl) 41 XV_2.out infoD rfl (dcs_one _ _) ?_
    intro w9 v9 u9
    have VD_9 := (show Hid _ from VD_2.out.upd u9 (by have := HQ.out; omega))
    have CU_9 := (show Hid _ from CU_2.out.upd u9 (by have := HQ.out; omega))
    refine hK.out _ _ ⟨VD_9.out, CU_9.out⟩ (fun hHeld => ?_)
    clear hK K
    refine takeD 12 9 (.int .i64 0) (by exact rfl) rfl (by kernel_rfl) (by kernel_rfl) (by kernel_rfl) (fun _ _ _ h => h) (Or.inl ⟨by rfl, ?_⟩) (by assumption) ?_
    · intro wq hS
      go_simp
    try simp only [Act.put, List.setIfInBounds_toArray, List.set_cons_zero, List.set_cons_succ]
    clear hHeld
    refine wpAnyH_done (by kernel_rfl) ?_ _
    refine NoPanic.normal ?_
    have XV_9 := (show Hid _ from v9)
    have VR_9 := (show Hid _ from VR_2.out.upd u9 (by have := HQ.out; omega))
    have BB_9 := (show Hid _ from u9.bel BB_2.out (by have := HQ.out; omega))
    clear v9 u9 VD_2 CU_2 VR_2 BB_2 XV_2 VD_9 CU_9
    have x2 := XV_9.out.cell 2 (v := .int .i64 (cdg i : Int)) rfl
    have f2 := XV_9.out.free 2
    go_upto_region 7 with fail
    clear x2 f2
    have X : Hid (VA (w9.setCell ⟨q, 2, none⟩ (.int .i64 0)) q (dcs R 0) 41) := XV_9.out.set 2 (.int .i64 0)
    have VRA := (show Hid _ from VR_9.out.set_other (q := q) (by have := HQ.out; omega) 2 (.int .i64 0))
    have BBA := (show Hid _ from BB_9.out.setCell (p := ⟨q, 2, none⟩) (by have := HQ.out; show _ ≤ q; omega) (.int .i64 0))
    clear XV_9 VR_9 BB_9
    generalize w9.setCell ⟨q, 2, none⟩ (.int .i64 0) = wa at *
    go_wp2_with (refine ldA rfl 41 _ rfl q (by rfl) (dcs R 0) _ X.out _ Tryz.underlying41 rfl infoD ?_)
    refine (int_near R _ IR.out (by have := HR0.out; omega) (by have := HR0.out; omega)).mono ?_
    rintro e wb ⟨rfl, bb⟩
    have VRB := (show Hid _ from VRA.out.step bb)
    have BBB := (show Hid _ from BBA.out.trans (bb.mono BBA.out.size))
    clear bb VRA BBA X
    go_wp2_with fail
    refine (amount_no (i : Int) R _ HWI.out).mono ?_
    rintro e wc ⟨rfl, bc⟩
    have VRX := (show Hid _ from VRB.out.step bc)
    have BBX := (show Hid _ from BBB.out.trans (bc.mono BBB.out.size))
    clear bc VRB BBB
    go_wp2_with (refine stA rfl 23 _ _ rfl (w.heap.size + 1) (by rfl) (mcl 0 0) (mcl 0 0) (by rfl) 23 VRX.out infoM rfl (mcl_one _ _) ?_; intro wf vf uf)
    have hld := run_loadVar_row (P := Tryz.prog) wf (w.heap.size + 1) 23 23 _ (0, 0) _ vf.blk Tryz.underlying23 rfl infoM
    exact bodyPost_ret (v := .tuple #[.agg (mcl 0 0).toArray, .int .i64 4]) (by simp [results, Tryz.results21, asAddr, hld]) rfl ⟨rfl, uf.bel BBX.out (by omega)⟩
  · go_simp
    have VD_1 := (show Hid _ from VD_z.out.alloc (.cells zdl.toArray 41))
    have VR_1 := (show Hid _ from VR_z.out.alloc (.cells zdl.toArray 41))
    have CU_1 := (show Hid _ from CU_z.out.alloc (.cells zdl.toArray 41))
    have BB_1 := (show Hid _ from BB_z.out.alloc BB_z.out.size (.cells zdl.toArray 41))
    have XV_1 := (show Hid _ from va_new wz zdl 41)
    have HQ : Hid (w.heap.size + 1 < wz.heap.size) := VR_z.out.lt
    refine hK.out _ _ ⟨VD_1.out, CU_1.out⟩ (fun hHeld => ?_)
    try simp only [Act.put, List.setIfInBounds_toArray, List.set_cons_zero, List.set_cons_succ]
    clear hK K hHeld VD_z VR_z CU_z BB_z
    change wpAnyH _ _ _ _ _ _ _ _ (wz.alloc (.cells zdl.toArray 41))
    generalize wz.alloc (.cells zdl.toArray 41) = w1 at *
    generalize wz.heap.size = q at *
    refine wpAnyH_ready (rs := [6]) (by kernel_rfl) (by simp) ?_
    refine AllReadyH.cons (by exact rfl) (fun K hK => ?_) AllReadyH.nil
    go_simp
    refine (HRS.out _ IC.out HS.out HD.out HM.out IR.out).mono ?_
    rintro e w2 ⟨rfl, b2⟩
    have VD_2 := (show Hid _ from VD_1.out.step b2)
    have VR_2 := (show Hid _ from VR_1.out.step b2)
    have CU_2 := (show Hid _ from CU_1.out.step b2)
    have XV_2 := (show Hid _ from XV_1.out.step b2)
    have BB_2 := (show Hid _ from BB_1.out.trans (b2.mono BB_1.out.size))
    clear b2
    go_wp2_with fail
    refine hK.out _ _ (⟨VD_2.out, CU_2.out⟩) (fun hHeld => ?_)
    try simp only [Act.put, List.setIfInBounds_toArray, List.set_cons_zero, List.set_cons_succ]
    clear hK K
    clear VD_1 VR_1 CU_1 BB_1 XV_1
    refine takeD 7 15 (.tuple #[.agg #[.int .i64 (dhi R), .int .u64 (dlo R), .int .i64 (cdg i)], .int .i64 0]) (by exact rfl) rfl (by kernel_rfl) (by kernel_rfl) (by kernel_rfl) (fun _ _ _ h => h) (Or.inl ⟨by rfl, ?_⟩) (by assumption) ?_
    · intro wq hS
      go_simp
    try simp only [Act.put, List.setIfInBounds_toArray, List.set_cons_zero, List.set_cons_succ]
    refine takeD 8 23 (.agg (dcs R (cdg i)).toArray) (by exact rfl) rfl (by kernel_rfl) (by kernel_rfl) (by kernel_rfl) (fun _ _ _ h => h) (Or.inl ⟨by rfl, ?_⟩) (by assumption) ?_
    · intro wq hS
      go_simp
      rfl
    try simp only [Act.put, List.setIfInBounds_toArray, List.set_cons_zero, List.set_cons_succ]
    refine takeD 9 24 (.int .i64 0) (by exact rfl) rfl (by kernel_rfl) (by kernel_rfl) (by kernel_rfl) (fun _ _ _ h => h) (Or.inl ⟨by rfl, ?_⟩) (by assumption) ?_
    · intro wq hS
      go_simp
    try simp only [Act.put, List.setIfInBounds_toArray, List.set_cons_zero, List.set_cons_succ]
    clear hHeld
    refine wpAnyH_ready (rs := [11]) (by kernel_rfl) (by simp) ?_
    refine AllReadyH.cons (by exact rfl) (fun K hK => ?_) AllReadyH.nil
    refine stAn (by rfl) (by rfl) 41 _ _ (by rfl) q (by rfl) zdl (dcs R (cdg i)) (by rfl) 41 XV_2.out infoD rfl (dcs_one _ _) ?_
    intro w9 v9 u9
    have VD_9 := (show Hid _ from VD_2.out.upd u9 (by have := HQ.out; omega))
    have CU_9 := (show Hid _ from CU_2.out.upd u9 (by have := HQ.out; omega))
    refine hK.out _ _ ⟨VD_9.out, CU_9.out⟩ (fun hHeld => ?_)
    clear hK K
    refine takeD 12 9 (.int .i64 0) (by exact rfl) rfl (by kernel_rfl) (by kernel_rfl) (by kernel_rfl) (fun _ _ _ h => h) (Or.inl ⟨by rfl, ?_⟩) (by assumption) ?_
    · intro wq hS
      go_simp
    try simp only [Act.put, List.setIfInBounds_toArray, List.set_cons_zero, List.set_cons_succ]
    clear hHeld
    refine wpAnyH_done (by kernel_rfl) ?_ _
    refine NoPanic.normal ?_
    have XV_9 := (show Hid _ from v9)
    have VR_9 := (show Hid _ from VR_2.out.upd u9 (by have := HQ.out; omega))
    have BB_9 := (show Hid _ from u9.bel BB_2.out (by have := HQ.out; omega))
    clear v9 u9 VD_2 CU_2 VR_2 BB_2 XV_2 VD_9 CU_9
    have x2 := XV_9.out.cell 2 (v := .int .i64 (cdg i : Int)) rfl
    have f2 := XV_9.out.free 2
    go_upto_region 7 with fail
    clear x2 f2
    have X : Hid (VA (w9.setCell ⟨q, 2, none⟩ (.int .i64 0)) q (dcs R 0) 41) := XV_9.out.set 2 (.int .i64 0)
    have VRA := (show Hid _ from VR_9.out.set_other (q := q) (by have := HQ.out; omega) 2 (.int .i64 0))
    have BBA := (show Hid _ from BB_9.out.setCell (p := ⟨q, 2, none⟩) (by have := HQ.out; show _ ≤ q; omega) (.int .i64 0))
    clear XV_9 VR_9 BB_9
    generalize w9.setCell ⟨q, 2, none⟩ (.int .i64 0) = wa at *
    go_wp2_with (refine ldA rfl 41 _ rfl q (by rfl) (dcs R 0) _ X.out _ Tryz.underlying41 rfl infoD ?_)
    refine (int_near R _ IR.out (by have := HR0.out; omega) (by have := HR0.out; omega)).mono ?_
    rintro e wb ⟨rfl, bb⟩
    have VRB := (show Hid _ from VRA.out.step bb)
    have BBB := (show Hid _ from BBA.out.trans (bb.mono BBA.out.size))
    clear bb VRA BBA X
    go_wp2_with fail
    refine (amount_no (i : Int) R _ HWI.out).mono ?_
    rintro e wc ⟨rfl, bc⟩
    have VRX := (show Hid _ from VRB.out.step bc)
    have BBX := (show Hid _ from BBB.out.trans (bc.mono BBB.out.size))
    clear bc VRB BBB
    go_wp2_with (refine stA rfl 23 _ _ rfl (w.heap.size + 1) (by rfl) (mcl 0 0) (mcl 0 0) (by rfl) 23 VRX.out infoM rfl (mcl_one _ _) ?_; intro wf vf uf)
    have hld := run_loadVar_row (P := Tryz.prog) wf (w.heap.size + 1) 23 23 _ (0, 0) _ vf.blk Tryz.underlying23 rfl infoM
    exact bodyPost_ret (v := .tuple #[.agg (mcl 0 0).toArray, .int .i64 4]) (by simp [results, Tryz.results21, asAddr, hld]) rfl ⟨rfl, uf.bel BBX.out (by omega)⟩
set_option maxHeartbeats 4000000 in
set_option maxRecDepth 100000 in
theorem MOf_far (c : Int) (s i mode : Nat) (R : Int) (w : World) (T : Cu w) (ic : InR c) (hs : (s : Int) ≤ 18) (hi : i < 4) (hm : (mode : Int) ≤ 6) (hR : R = rv c s (cdg i) mode) (iR : InR R) (h64 : ¬ (-9223372036854775808 ≤ R ∧ R ≤ 9223372036854775807)) :
    Calls Tryz.prog 21 #[.agg (dcs c s).toArray, .int .i64 i, .int .i64 mode] w fun e w' => e = .returned (.tuple #[.agg (mcl 0 0).toArray, .int .i64 4]) ∧ Below w.heap.size w w' := by
  have hd18 : (cdg i : Int) ≤ 18 := by have := cdg_le i; omega
  have RS : ∀ w, InR c → (s : Int) ≤ 18 → (cdg i : Int) ≤ 18 → (mode : Int) ≤ 6 → InR R → Calls Tryz.prog 44 #[.agg #[.int .i64 (dhi c), .int .u64 (dlo c), .int .i64 s], .int .i64 (cdg i), .int .i64 mode] w fun e w' => e = .returned (.tuple #[.agg #[.int .i64 (dhi R), .int .u64 (dlo R), .int .i64 (cdg i)], .int .i64 0]) ∧ Below w.heap.size w w' := by
    intro w h1 h2 h3 h4 h5
    rw [hR] at h5 ⊢
    exact rescale_yes c s (cdg i) mode w h1 h2 h3 h4 h5
  have HRS := (show Hid _ from RS)
  have IC : Hid (InR c) := ic
  have HS := (show Hid _ from hs)
  have HD := (show Hid _ from hd18)
  have HM := (show Hid _ from hm)
  have IR : Hid (InR R) := iR
  have HR0 := (show Hid _ from h64)
  clear h64
  have VD_0 := (show Hid _ from (va_new w (dcs c s) 41).alloc (.cells (mcl 0 0).toArray 23))
  have VR_0 := (show Hid _ from va_new (w.alloc (.cells (dcs c s).toArray 41)) (mcl 0 0) 23)
  rw [show (w.alloc (.cells (dcs c s).toArray 41)).heap.size = w.heap.size + 1 by simp] at VR_0
  have BB_0 := (show Hid _ from ((Below.refl w.heap.size w).alloc (Nat.le_refl _) (.cells (dcs c s).toArray 41)).alloc (by simp) (.cells (mcl 0 0).toArray 23))
  have CU_0 := (show Hid _ from (T.alloc (.cells (dcs c s).toArray 41)).alloc (.cells (mcl 0 0).toArray 23))
  have hp : 0 < w.heap.size := T.lt
  have hw := wi_yes (n := (i : Int)) (l := 0) (g := 3) (by omega) (by omega)
  clear T RS ic hs hd18 hm iR hR
  go_enter Tryz.func21, Tryz.ntmps21
  go_wp2_with fail
  refine (mcur_ok i _).mono ?_
  rintro e w1 ⟨rfl, hq⟩
  obtain rfl := hq.symm
  rw [hw]
  clear hw
  go_upto_region 3 with fail
  change Code.wp _ _ _ _ (w.alloc (.cells (dcs c s).toArray 41) |>.alloc (.cells (mcl 0 0).toArray 23))
  generalize (w.alloc (.cells (dcs c s).toArray 41) |>.alloc (.cells (mcl 0 0).toArray 23)) = W at *
  refine wp_region_noPanic ?_
  refine wp_region_held_drew (S := fun w' => VA w' w.heap.size (dcs c s) 41 ∧ Cu w') (by kernel_rfl) ⟨VD_0.out.drew, CU_0.out.drew⟩ (fun hHeld => ?_)
  refine takeD 0 16 (.agg #[.int .i64 (dhi c), .int .u64 (dlo c), .int .i64 s]) (by exact rfl) rfl (by kernel_rfl) (by kernel_rfl) (by kernel_rfl) (fun _ _ _ h => h) (Or.inl ⟨by rfl, ?_⟩) (by assumption) ?_
  · intro wq hS
    have h0 := hS.1.cell 0 (v := .int .i64 (dhi c)) rfl
    have h1 := hS.1.cell 1 (v := .int .u64 (dlo c)) rfl
    have h2 := hS.1.cell 2 (v := .int .i64 s) rfl
    go_simp
  try simp only [Act.put, List.setIfInBounds_toArray, List.set_cons_zero, List.set_cons_succ]
  refine takeD 1 17 (.int .i64 (i : Int)) (by exact rfl) rfl (by kernel_rfl) (by kernel_rfl) (by kernel_rfl) (fun _ _ _ h => h) (Or.inl ⟨by rfl, ?_⟩) (by assumption) ?_
  · intro wq hS
    go_simp
  try simp only [Act.put, List.setIfInBounds_toArray, List.set_cons_zero, List.set_cons_succ]
  refine takeD 2 18 (.pointer (some ⟨0, i * 2, none⟩)) (by exact rfl) rfl (by kernel_rfl) (by kernel_rfl) (by kernel_rfl) (fun _ _ _ h => h) (Or.inl ⟨by rfl, ?_⟩) (by assumption) ?_
  · intro wq hS
    go_simp
    intro h; omega
  try simp only [Act.put, List.setIfInBounds_toArray, List.set_cons_zero, List.set_cons_succ]
  refine takeD 3 19 (.pointer (some ⟨0, i * 2 + 1, none⟩)) (by exact rfl) rfl (by kernel_rfl) (by kernel_rfl) (by kernel_rfl) (fun _ _ _ h => h) (Or.inl ⟨by rfl, ?_⟩) (by assumption) ?_
  · intro wq hS
    go_simp
  try simp only [Act.put, List.setIfInBounds_toArray, List.set_cons_zero, List.set_cons_succ]
  refine takeD 4 20 (.int .i64 (cdg i : Int)) (by exact rfl) rfl (by kernel_rfl) (by kernel_rfl) (by kernel_rfl) (fun _ _ _ h => h) (Or.inl ⟨by rfl, ?_⟩) (by assumption) ?_
  · intro wq hS
    have h1 := hS.2.row i hi
    go_simp
  try simp only [Act.put, List.setIfInBounds_toArray, List.set_cons_zero, List.set_cons_succ]
  refine takeD 5 21 (.int .i64 (mode : Int)) (by exact rfl) rfl (by kernel_rfl) (by kernel_rfl) (by kernel_rfl) (fun _ _ _ h => h) (Or.inl ⟨by rfl, ?_⟩) (by assumption) ?_
  · intro wq hS
    go_simp
  try simp only [Act.put, List.setIfInBounds_toArray, List.set_cons_zero, List.set_cons_succ]
  clear hHeld
  have VD_z := (show Hid _ from VD_0.out.drew)
  have VR_z := (show Hid _ from VR_0.out.drew)
  have CU_z := (show Hid _ from CU_0.out.drew)
  have BB_z := (show Hid _ from BB_0.out.drew)
  clear VD_0 VR_0 CU_0 BB_0
  generalize W.drew = wz at *
  refine wpAnyH_ready (rs := [6, 10]) (by kernel_rfl) (by simp) ?_
  refine AllReadyH.cons (by exact rfl) (fun K hK => ?_) (AllReadyH.cons (by exact rfl) (fun K hK => ?_) AllReadyH.nil)
  · go_simp
    refine (HRS.out _ IC.out HS.out HD.out HM.out IR.out).mono ?_
    rintro e w1 ⟨rfl, b1⟩
    have VD_1 := (show Hid _ from VD_z.out.step b1)
    have VR_1 := (show Hid _ from VR_z.out.step b1)
    have CU_1 := (show Hid _ from CU_z.out.step b1)
    have BB_1 := (show Hid _ from BB_z.out.trans (b1.mono BB_z.out.size))
    clear b1
    go_wp2_with fail
    refine hK.out _ _ (⟨VD_1.out, CU_1.out⟩) (fun hHeld => ?_)
    try simp only [Act.put, List.setIfInBounds_toArray, List.set_cons_zero, List.set_cons_succ]
    clear hK K
    clear VD_z VR_z CU_z BB_z
    refine takeD 7 15 (.tuple #[.agg #[.int .i64 (dhi R), .int .u64 (dlo R), .int .i64 (cdg i)], .int .i64 0]) (by exact rfl) rfl (by kernel_rfl) (by kernel_rfl) (by kernel_rfl) (fun _ _ _ h => h) (Or.inl ⟨by rfl, ?_⟩) (by assumption) ?_
    · intro wq hS
      go_simp
    try simp only [Act.put, List.setIfInBounds_toArray, List.set_cons_zero, List.set_cons_succ]
    refine takeD 8 23 (.agg (dcs R (cdg i)).toArray) (by exact rfl) rfl (by kernel_rfl) (by kernel_rfl) (by kernel_rfl) (fun _ _ _ h => h) (Or.inl ⟨by rfl, ?_⟩) (by assumption) ?_
    · intro wq hS
      go_simp
      rfl
    try simp only [Act.put, List.setIfInBounds_toArray, List.set_cons_zero, List.set_cons_succ]
    refine takeD 9 24 (.int .i64 0) (by exact rfl) rfl (by kernel_rfl) (by kernel_rfl) (by kernel_rfl) (fun _ _ _ h => h) (Or.inl ⟨by rfl, ?_⟩) (by assumption) ?_
    · intro wq hS
      go_simp
    try simp only [Act.put, List.setIfInBounds_toArray, List.set_cons_zero, List.set_cons_succ]
    clear hHeld
    refine wpAnyH_ready (rs := [10]) (by kernel_rfl) (by simp) ?_
    refine AllReadyH.cons (by exact rfl) (fun K hK => ?_) AllReadyH.nil
    go_simp
    have VD_2 := (show Hid _ from VD_1.out.alloc (.cells zdl.toArray 41))
    have VR_2 := (show Hid _ from VR_1.out.alloc (.cells zdl.toArray 41))
    have CU_2 := (show Hid _ from CU_1.out.alloc (.cells zdl.toArray 41))
    have BB_2 := (show Hid _ from BB_1.out.alloc BB_1.out.size (.cells zdl.toArray 41))
    have XV_2 := (show Hid _ from va_new w1 zdl 41)
    have HQ : Hid (w.heap.size + 1 < w1.heap.size) := VR_1.out.lt
    refine hK.out _ _ ⟨VD_2.out, CU_2.out⟩ (fun hHeld => ?_)
    try simp only [Act.put, List.setIfInBounds_toArray, List.set_cons_zero, List.set_cons_succ]
    clear hK K hHeld VD_1 VR_1 CU_1 BB_1
    change wpAnyH _ _ _ _ _ _ _ _ (w1.alloc (.cells zdl.toArray 41))
    generalize w1.alloc (.cells zdl.toArray 41) = w2 at *
    generalize w1.heap.size = q at *
    refine wpAnyH_ready (rs := [11]) (by kernel_rfl) (by simp) ?_
    refine AllReadyH.cons (by exact rfl) (fun K hK => ?_) AllReadyH.nil
    refine stAn (by rfl) (by rfl) 41 _ _ (by rfl) q (by rfl) zdl (dcs R (cdg i)) (by rfl) 41 XV_2.out infoD rfl (dcs_one _ _) ?_
    intro w9 v9 u9
    have VD_9 := (show Hid _ from VD_2.out.upd u9 (by have := HQ.out; omega))
    have CU_9 := (show Hid _ from CU_2.out.upd u9 (by have := HQ.out; omega))
    refine hK.out _ _ ⟨VD_9.out, CU_9.out⟩ (fun hHeld => ?_)
    clear hK K
    refine takeD 12 9 (.int .i64 0) (by exact rfl) rfl (by kernel_rfl) (by kernel_rfl) (by kernel_rfl) (fun _ _ _ h => h) (Or.inl ⟨by rfl, ?_⟩) (by assumption) ?_
    · intro wq hS
      go_simp
    try simp only [Act.put, List.setIfInBounds_toArray, List.set_cons_zero, List.set_cons_succ]
    clear hHeld
    refine wpAnyH_done (by kernel_rfl) ?_ _
    refine NoPanic.normal ?_
    have XV_9 := (show Hid _ from v9)
    have VR_9 := (show Hid _ from VR_2.out.upd u9 (by have := HQ.out; omega))
    have BB_9 := (show Hid _ from u9.bel BB_2.out (by have := HQ.out; omega))
    clear v9 u9 VD_2 CU_2 VR_2 BB_2 XV_2 VD_9 CU_9
    have x2 := XV_9.out.cell 2 (v := .int .i64 (cdg i : Int)) rfl
    have f2 := XV_9.out.free 2
    go_upto_region 7 with fail
    clear x2 f2
    have X : Hid (VA (w9.setCell ⟨q, 2, none⟩ (.int .i64 0)) q (dcs R 0) 41) := XV_9.out.set 2 (.int .i64 0)
    have VRA := (show Hid _ from VR_9.out.set_other (q := q) (by have := HQ.out; omega) 2 (.int .i64 0))
    have BBA := (show Hid _ from BB_9.out.setCell (p := ⟨q, 2, none⟩) (by have := HQ.out; show _ ≤ q; omega) (.int .i64 0))
    clear XV_9 VR_9 BB_9
    generalize w9.setCell ⟨q, 2, none⟩ (.int .i64 0) = wa at *
    go_wp2_with (refine ldA rfl 41 _ rfl q (by rfl) (dcs R 0) _ X.out _ Tryz.underlying41 rfl infoD ?_)
    refine (int_away R _ IR.out HR0.out).mono ?_
    rintro e wb ⟨rfl, bb⟩
    have VRX := (show Hid _ from VRA.out.step bb)
    have BBX := (show Hid _ from BBA.out.trans (bb.mono BBA.out.size))
    clear bb VRA BBA X
    go_wp2_with (refine stA rfl 23 _ _ rfl (w.heap.size + 1) (by rfl) (mcl 0 0) (mcl 0 0) (by rfl) 23 VRX.out infoM rfl (mcl_one _ _) ?_; intro wf vf uf)
    have hld := run_loadVar_row (P := Tryz.prog) wf (w.heap.size + 1) 23 23 _ (0, 0) _ vf.blk Tryz.underlying23 rfl infoM
    exact bodyPost_ret (v := .tuple #[.agg (mcl 0 0).toArray, .int .i64 4]) (by simp [results, Tryz.results21, asAddr, hld]) rfl ⟨rfl, uf.bel BBX.out (by omega)⟩
  · go_simp
    have VD_1 := (show Hid _ from VD_z.out.alloc (.cells zdl.toArray 41))
    have VR_1 := (show Hid _ from VR_z.out.alloc (.cells zdl.toArray 41))
    have CU_1 := (show Hid _ from CU_z.out.alloc (.cells zdl.toArray 41))
    have BB_1 := (show Hid _ from BB_z.out.alloc BB_z.out.size (.cells zdl.toArray 41))
    have XV_1 := (show Hid _ from va_new wz zdl 41)
    have HQ : Hid (w.heap.size + 1 < wz.heap.size) := VR_z.out.lt
    refine hK.out _ _ ⟨VD_1.out, CU_1.out⟩ (fun hHeld => ?_)
    try simp only [Act.put, List.setIfInBounds_toArray, List.set_cons_zero, List.set_cons_succ]
    clear hK K hHeld VD_z VR_z CU_z BB_z
    change wpAnyH _ _ _ _ _ _ _ _ (wz.alloc (.cells zdl.toArray 41))
    generalize wz.alloc (.cells zdl.toArray 41) = w1 at *
    generalize wz.heap.size = q at *
    refine wpAnyH_ready (rs := [6]) (by kernel_rfl) (by simp) ?_
    refine AllReadyH.cons (by exact rfl) (fun K hK => ?_) AllReadyH.nil
    go_simp
    refine (HRS.out _ IC.out HS.out HD.out HM.out IR.out).mono ?_
    rintro e w2 ⟨rfl, b2⟩
    have VD_2 := (show Hid _ from VD_1.out.step b2)
    have VR_2 := (show Hid _ from VR_1.out.step b2)
    have CU_2 := (show Hid _ from CU_1.out.step b2)
    have XV_2 := (show Hid _ from XV_1.out.step b2)
    have BB_2 := (show Hid _ from BB_1.out.trans (b2.mono BB_1.out.size))
    clear b2
    go_wp2_with fail
    refine hK.out _ _ (⟨VD_2.out, CU_2.out⟩) (fun hHeld => ?_)
    try simp only [Act.put, List.setIfInBounds_toArray, List.set_cons_zero, List.set_cons_succ]
    clear hK K
    clear VD_1 VR_1 CU_1 BB_1 XV_1
    refine takeD 7 15 (.tuple #[.agg #[.int .i64 (dhi R), .int .u64 (dlo R), .int .i64 (cdg i)], .int .i64 0]) (by exact rfl) rfl (by kernel_rfl) (by kernel_rfl) (by kernel_rfl) (fun _ _ _ h => h) (Or.inl ⟨by rfl, ?_⟩) (by assumption) ?_
    · intro wq hS
      go_simp
    try simp only [Act.put, List.setIfInBounds_toArray, List.set_cons_zero, List.set_cons_succ]
    refine takeD 8 23 (.agg (dcs R (cdg i)).toArray) (by exact rfl) rfl (by kernel_rfl) (by kernel_rfl) (by kernel_rfl) (fun _ _ _ h => h) (Or.inl ⟨by rfl, ?_⟩) (by assumption) ?_
    · intro wq hS
      go_simp
      rfl
    try simp only [Act.put, List.setIfInBounds_toArray, List.set_cons_zero, List.set_cons_succ]
    refine takeD 9 24 (.int .i64 0) (by exact rfl) rfl (by kernel_rfl) (by kernel_rfl) (by kernel_rfl) (fun _ _ _ h => h) (Or.inl ⟨by rfl, ?_⟩) (by assumption) ?_
    · intro wq hS
      go_simp
    try simp only [Act.put, List.setIfInBounds_toArray, List.set_cons_zero, List.set_cons_succ]
    clear hHeld
    refine wpAnyH_ready (rs := [11]) (by kernel_rfl) (by simp) ?_
    refine AllReadyH.cons (by exact rfl) (fun K hK => ?_) AllReadyH.nil
    refine stAn (by rfl) (by rfl) 41 _ _ (by rfl) q (by rfl) zdl (dcs R (cdg i)) (by rfl) 41 XV_2.out infoD rfl (dcs_one _ _) ?_
    intro w9 v9 u9
    have VD_9 := (show Hid _ from VD_2.out.upd u9 (by have := HQ.out; omega))
    have CU_9 := (show Hid _ from CU_2.out.upd u9 (by have := HQ.out; omega))
    refine hK.out _ _ ⟨VD_9.out, CU_9.out⟩ (fun hHeld => ?_)
    clear hK K
    refine takeD 12 9 (.int .i64 0) (by exact rfl) rfl (by kernel_rfl) (by kernel_rfl) (by kernel_rfl) (fun _ _ _ h => h) (Or.inl ⟨by rfl, ?_⟩) (by assumption) ?_
    · intro wq hS
      go_simp
    try simp only [Act.put, List.setIfInBounds_toArray, List.set_cons_zero, List.set_cons_succ]
    clear hHeld
    refine wpAnyH_done (by kernel_rfl) ?_ _
    refine NoPanic.normal ?_
    have XV_9 := (show Hid _ from v9)
    have VR_9 := (show Hid _ from VR_2.out.upd u9 (by have := HQ.out; omega))
    have BB_9 := (show Hid _ from u9.bel BB_2.out (by have := HQ.out; omega))
    clear v9 u9 VD_2 CU_2 VR_2 BB_2 XV_2 VD_9 CU_9
    have x2 := XV_9.out.cell 2 (v := .int .i64 (cdg i : Int)) rfl
    have f2 := XV_9.out.free 2
    go_upto_region 7 with fail
    clear x2 f2
    have X : Hid (VA (w9.setCell ⟨q, 2, none⟩ (.int .i64 0)) q (dcs R 0) 41) := XV_9.out.set 2 (.int .i64 0)
    have VRA := (show Hid _ from VR_9.out.set_other (q := q) (by have := HQ.out; omega) 2 (.int .i64 0))
    have BBA := (show Hid _ from BB_9.out.setCell (p := ⟨q, 2, none⟩) (by have := HQ.out; show _ ≤ q; omega) (.int .i64 0))
    clear XV_9 VR_9 BB_9
    generalize w9.setCell ⟨q, 2, none⟩ (.int .i64 0) = wa at *
    go_wp2_with (refine ldA rfl 41 _ rfl q (by rfl) (dcs R 0) _ X.out _ Tryz.underlying41 rfl infoD ?_)
    refine (int_away R _ IR.out HR0.out).mono ?_
    rintro e wb ⟨rfl, bb⟩
    have VRX := (show Hid _ from VRA.out.step bb)
    have BBX := (show Hid _ from BBA.out.trans (bb.mono BBA.out.size))
    clear bb VRA BBA X
    go_wp2_with (refine stA rfl 23 _ _ rfl (w.heap.size + 1) (by rfl) (mcl 0 0) (mcl 0 0) (by rfl) 23 VRX.out infoM rfl (mcl_one _ _) ?_; intro wf vf uf)
    have hld := run_loadVar_row (P := Tryz.prog) wf (w.heap.size + 1) 23 23 _ (0, 0) _ vf.blk Tryz.underlying23 rfl infoM
    exact bodyPost_ret (v := .tuple #[.agg (mcl 0 0).toArray, .int .i64 4]) (by simp [results, Tryz.results21, asAddr, hld]) rfl ⟨rfl, uf.bel BBX.out (by omega)⟩
/-- Of, whatever is rounded -/
theorem MOf_no (c : Int) (s i mode : Nat) (R : Int) (w : World) (T : Cu w) (ic : InR c) (hs : (s : Int) ≤ 18) (hi : i < 4) (hm : (mode : Int) ≤ 6) (hR : R = rv c s (cdg i) mode) (iR : InR R) (hr : ¬ (-10000000000000 ≤ R ∧ R ≤ 10000000000000)) :
    Calls Tryz.prog 21 #[.agg (dcs c s).toArray, .int .i64 i, .int .i64 mode] w fun e w' => e = .returned (.tuple #[.agg (mcl 0 0).toArray, .int .i64 4]) ∧ Below w.heap.size w w' := by
  by_cases h64 : -9223372036854775808 ≤ R ∧ R ≤ 9223372036854775807
  · exact MOf_big c s i mode R w T ic hs hi hm hR iR hr h64
  · exact MOf_far c s i mode R w T ic hs hi hm hR iR h64
end Go.Proofs.YteohncnjjgoemaaGreatDoor
