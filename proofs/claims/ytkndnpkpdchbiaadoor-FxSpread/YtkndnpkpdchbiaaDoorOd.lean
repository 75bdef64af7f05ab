/- fx: the contract of Convert. -/
import Derived.Test.YtkndnpkpdchbiaaDoorOc
namespace Go.Proofs.YtkndnpkpdchbiaaDoor
open Go.RowKit
set_option linter.unusedVariables false
attribute [local go_sem] ext_cell ext_frozen ext_drew ext_of_drew ext_of_drewN ext_setCell ext_lt ext_lt1 ext_lt2 ext_lt3 lt_n2 lt_n3 lt_n4 lt_n5 lt_n6

/-- the whole minor units of the other currency, and the residue -/
def gt (o C : Nat) : Nat := C / 10 ^ (12 - cdg o)
def rsd (o C : Nat) : Nat := C % 10 ^ (12 - cdg o) * 10 ^ cdg o
theorem ten12 (o : Nat) : 10 ^ (12 - cdg o) * 10 ^ cdg o = 1000000000000 := by
  have := cdg_le o
  rw [← Nat.pow_add, show 12 - cdg o + cdg o = 12 by omega]
theorem rv_gt (o C : Nat) : rv (C : Int) 12 (cdg o) 2 = ((gt o C : Nat) : Int) := by
  have e := rnd_shift false C 1 (cdg o) 12 2
  rw [Nat.one_mul, (rnd_flo _ _).2] at e
  have hd := cdg_le o
  unfold rv sv
  rw [decide_eq_false (show ¬ (C : Int) < 0 by omega), Int.natAbs_natCast]
  simp only [Bool.false_eq_true, if_false]
  rw [show (((cdg o : Nat) : Int) - ((12 : Nat) : Int)) = ((cdg o : Nat) : Int) - ((12 : Nat) : Int) from rfl, ← e]
  unfold gt
  rw [show (10 : Nat) ^ 12 = 10 ^ (12 - cdg o) * 10 ^ cdg o by rw [ten12], Nat.mul_div_mul_right _ _ (Nat.pow_pos (by decide))]
theorem rsd_bd (o C : Nat) : rsd o C ≤ 1000000000000 ∧ C % 10 ^ (12 - cdg o) ≤ 1000000000000 := by
  have h1 := Nat.mod_lt C (Nat.pow_pos (n := 12 - cdg o) (show 0 < 10 by decide))
  have h2 := ten12 o
  have h3 : C % 10 ^ (12 - cdg o) * 10 ^ cdg o ≤ 10 ^ (12 - cdg o) * 10 ^ cdg o := Nat.mul_le_mul_right _ (Nat.le_of_lt h1)
  have h4 : 10 ^ (12 - cdg o) ≤ 10 ^ 12 := Nat.pow_le_pow_right (by decide) (by omega)
  unfold rsd
  omega
theorem gt_sub (o C : Nat) : (C : Int) - ((gt o C : Nat) : Int) * 10 ^ (12 - cdg o) = ((C % 10 ^ (12 - cdg o) : Nat) : Int) := by
  have e := Nat.div_add_mod C (10 ^ (12 - cdg o))
  have e2 : ((10 ^ (12 - cdg o) : Nat) : Int) = (10 : Int) ^ (12 - cdg o) := by rw [Int.natCast_pow]; rfl
  unfold gt
  have e3 : (C : Int) = (10 : Int) ^ (12 - cdg o) * ((C / 10 ^ (12 - cdg o) : Nat) : Int) + ((C % 10 ^ (12 - cdg o) : Nat) : Int) := by rw [← e2, ← Int.natCast_mul, ← Int.natCast_add, e]
  rw [Int.mul_comm]
  omega
theorem worth_lit (i a r : Nat) (w : World) (T : Cu w) (hi : i < 4) (ha : a ≤ 10000000000000) (hr : r ≤ 1000000000000) :
    Calls Tryd.prog 18 #[.agg #[.int .i64 i, .int .i64 a], .int .i64 r] w fun e w' => e = .returned (.agg #[.int .i64 (dhi ((wor i a r : Nat) : Int)), .int .u64 (dlo ((wor i a r : Nat) : Int)), .int .i64 12]) ∧ Below w.heap.size w w' := worth_ok i a r w T hi ha hr
set_option maxHeartbeats 4000000 in
set_option maxRecDepth 100000 in
theorem conv_range (i o r a : Nat) (w : World) (T : Cu w) (hi : i < 4) (ho : o < 4) (hr : 1 ≤ r ∧ r ≤ 1000000000000) (ha : 1 ≤ a ∧ a ≤ 10000000000000) (hG : ¬ gt o (wor i a r) ≤ 10000000000000) :
    Calls Tryd.prog 11 #[.int .i64 i, .int .i64 o, .int .i64 r, .int .i64 a] w fun e w' => e = .returned (.tuple #[.int .i64 0, .agg zdl.toArray, .int .i64 4]) ∧ Below w.heap.size w w' := by
  have wr : wi r 1 1000000000000 = true := wi_yes (by omega) (by omega)
  have wa : wi a 1 10000000000000 = true := wi_yes (by omega) (by omega)
  have hC := wor_bd (i := i) ha.2 hr.2
  obtain ⟨C, hC0⟩ : ∃ C, C = wor i a r := ⟨_, rfl⟩
  have WO0 : ∀ w, Cu w → Calls Tryd.prog 18 #[.agg #[.int .i64 i, .int .i64 a], .int .i64 r] w fun e w' => e = .returned (.agg #[.int .i64 (dhi (C : Int)), .int .u64 (dlo (C : Int)), .int .i64 12]) ∧ Below w.heap.size w w' := by
    intro w T
    have h := worth_lit i a r w T hi ha.2 hr.2
    rw [← hC0] at h
    exact h
  rw [← hC0] at hG hC
  clear hC0
  have eR := rv_gt o C
  have eS := gt_sub o C
  have bS := rsd_bd o C
  have eR2 : ((rsd o C : Nat) : Int) = ((C : Int) - ((gt o C : Nat) : Int) * 10 ^ (12 - cdg o)) * 10 ^ cdg o := by
    rw [eS]; unfold rsd; rw [Int.natCast_mul, Int.natCast_pow]; rfl
  generalize rsd o C = Rs at *
  obtain ⟨G, hG0⟩ : ∃ G, G = gt o C := ⟨_, rfl⟩
  rw [← hG0] at eR eS eR2 hG
  have hGle : G ≤ 1000000000000000000000000000000 := by rw [hG0]; unfold gt; exact Nat.le_trans (Nat.div_le_self _ _) (by omega)
  clear hG0
  have iC : InR (C : Int) := in_small (by omega) (by omega)
  have iG : InR (G : Int) := in_small (by omega) (by omega)
  have MO0 : ∀ w, Cu w → Calls Tryd.prog 19 #[.agg #[.int .i64 (dhi (C : Int)), .int .u64 (dlo (C : Int)), .int .i64 12], .int .i64 o, .int .i64 2] w fun e w' => e = .returned (.tuple #[.agg #[.int .i64 0, .int .i64 0], .int .i64 4]) ∧ Below w.heap.size w w' := fun w T =>
    MOf_no (C : Int) 12 o 2 (G : Int) w T iC (by decide) ho (by decide) eR.symm iG (by omega)
  have RS0 : ∀ w, Cu w → G ≤ 10000000000000 → Calls Tryd.prog 20 #[.agg #[.int .i64 (dhi (C : Int)), .int .u64 (dlo (C : Int)), .int .i64 12], .agg #[.int .i64 o, .int .i64 G]] w fun e w' => e = .returned (.agg (dcs (Rs : Int) 12).toArray) ∧ Below w.heap.size w w' := fun w T hG =>
    residue_ok (C : Int) o (G : Int) (Rs : Int) w T ho ⟨by omega, by omega⟩ ⟨by omega, by omega⟩ (by rw [eS]; omega) (by rw [eS]; omega) eR2 (by omega)
  have WO := (show Hid _ from WO0)
  have MO := (show Hid _ from MO0)
  have RS := (show Hid _ from RS0)
  have HG := (show Hid _ from hG)
  have VR_0 := (show Hid _ from va_new w zdl 35)
  have BB_0 := (show Hid _ from (Below.refl w.heap.size w).alloc (Nat.le_refl _) (.cells zdl.toArray 35))
  have CU_0 := (show Hid _ from T.alloc (.cells zdl.toArray 35))
  have hp : 0 < w.heap.size := T.lt
  clear T WO0 MO0 RS0 eR eS eR2 iC iG hG hC hGle bS hr ha
  go_enter Tryd.func11, Tryd.ntmps11
  go_wp2_with fail
  refine (fcur_yes i _ CU_0.out hi).mono ?_
  rintro e w7 ⟨rfl, hq⟩
  obtain rfl := hq.symm
  go_wp2_with fail
  refine (fcur_yes o _ CU_0.out ho).mono ?_
  rintro e w7 ⟨rfl, hq⟩
  obtain rfl := hq.symm
  go_wp2_with fail
  refine (frate_ok r _).mono ?_
  rintro e w7 ⟨rfl, hq⟩
  obtain rfl := hq.symm
  rw [wr]
  go_wp2_with fail
  refine (famount_ok a _).mono ?_
  rintro e w7 ⟨rfl, hq⟩
  obtain rfl := hq.symm
  rw [wa]
  clear wr wa
  go_wp2_with fail
  refine (WO.out _ CU_0.out).mono ?_
  rintro e w1 ⟨rfl, b1⟩
  have VR_1 := (show Hid _ from VR_0.out.step b1)
  have CU_1 := (show Hid _ from CU_0.out.step b1)
  have BB_1 := (show Hid _ from BB_0.out.trans (b1.mono BB_0.out.size))
  clear b1 VR_0 CU_0 BB_0
  go_wp2_with fail
  refine (MO.out _ (CU_1.out.alloc _)).mono ?_
  rintro e w2 ⟨rfl, b2⟩
  have VU_2 := (show Hid _ from (va_new w1 (dcs (C : Int) 12) 35).step b2)
  have VR_2 := (show Hid _ from (VR_1.out.alloc (.cells (dcs (C : Int) 12).toArray 35)).step b2)
  have CU_2 := (show Hid _ from (CU_1.out.alloc (.cells (dcs (C : Int) 12).toArray 35)).step b2)
  have BB_2 := (show Hid _ from BB_1.out.trans ((below_over b2).mono BB_1.out.size))
  have HL : Hid (w.heap.size < w1.heap.size) := VR_1.out.lt
  clear b2 VR_1 CU_1 BB_1 WO MO
  generalize w1.heap.size = pu at *
  have VR_3 := (show Hid _ from VR_2.out.alloc (.cells (mcl 0 0).toArray 48))
  have BB_3 := (show Hid _ from BB_2.out.alloc BB_2.out.size (.cells (mcl 0 0).toArray 48))
  go_wp2_with (refine stA rfl 35 _ _ rfl w.heap.size (by rfl) zdl zdl (by rfl) 35 VR_3.out infoD rfl (by decide) ?_; intro wf vf uf)
  have hld := run_loadVar_row (P := Tryd.prog) wf w.heap.size 35 35 _ (0, 0) _ vf.blk Tryd.underlying35 rfl infoD
  exact bodyPost_ret (v := .tuple #[.int .i64 0, .agg zdl.toArray, .int .i64 4]) (by simp [results, Tryd.results11, asAddr, hld]) rfl ⟨rfl, uf.bel BB_3.out (Nat.le_refl _)⟩
set_option maxHeartbeats 4000000 in
set_option maxRecDepth 100000 in
theorem conv_cur (i o r a : Nat) (w : World) (T : Cu w) (hi : i < 4) (ho : o < 4) (hr : 1 ≤ r ∧ r ≤ 1000000000000) (ha : 1 ≤ a ∧ a ≤ 10000000000000) (hG : gt o (wor i a r) ≤ 10000000000000) (hio : i = o) :
    Calls Tryd.prog 11 #[.int .i64 i, .int .i64 o, .int .i64 r, .int .i64 a] w fun e w' => e = .returned (.tuple #[.int .i64 0, .agg zdl.toArray, .int .i64 10]) ∧ Below w.heap.size w w' := by
  subst hio
  have wr : wi r 1 1000000000000 = true := wi_yes (by omega) (by omega)
  have wa : wi a 1 10000000000000 = true := wi_yes (by omega) (by omega)
  have hC := wor_bd (i := i) ha.2 hr.2
  obtain ⟨C, hC0⟩ : ∃ C, C = wor i a r := ⟨_, rfl⟩
  have WO0 : ∀ w, Cu w → Calls Tryd.prog 18 #[.agg #[.int .i64 i, .int .i64 a], .int .i64 r] w fun e w' => e = .returned (.agg #[.int .i64 (dhi (C : Int)), .int .u64 (dlo (C : Int)), .int .i64 12]) ∧ Below w.heap.size w w' := by
    intro w T
    have h := worth_lit i a r w T hi ha.2 hr.2
    rw [← hC0] at h
    exact h
  rw [← hC0] at hG hC
  clear hC0
  have eR := rv_gt i C
  have eS := gt_sub i C
  have bS := rsd_bd i C
  have eR2 : ((rsd i C : Nat) : Int) = ((C : Int) - ((gt i C : Nat) : Int) * 10 ^ (12 - cdg i)) * 10 ^ cdg i := by
    rw [eS]; unfold rsd; rw [Int.natCast_mul, Int.natCast_pow]; rfl
  generalize rsd i C = Rs at *
  obtain ⟨G, hG0⟩ : ∃ G, G = gt i C := ⟨_, rfl⟩
  rw [← hG0] at eR eS eR2 hG
  have hGle : G ≤ 1000000000000000000000000000000 := by rw [hG0]; unfold gt; exact Nat.le_trans (Nat.div_le_self _ _) (by omega)
  clear hG0
  have iC : InR (C : Int) := in_small (by omega) (by omega)
  have iG : InR (G : Int) := in_small (by omega) (by omega)
  have MO0 : ∀ w, Cu w → Calls Tryd.prog 19 #[.agg #[.int .i64 (dhi (C : Int)), .int .u64 (dlo (C : Int)), .int .i64 12], .int .i64 i, .int .i64 2] w fun e w' => e = .returned (.tuple #[.agg #[.int .i64 i, .int .i64 G], .int .i64 0]) ∧ Below w.heap.size w w' := fun w T =>
    MOf_yes (C : Int) 12 i 2 (G : Int) w T iC (by decide) hi (by decide) eR.symm iG (by omega)
  have RS0 : ∀ w, Cu w → G ≤ 10000000000000 → Calls Tryd.prog 20 #[.agg #[.int .i64 (dhi (C : Int)), .int .u64 (dlo (C : Int)), .int .i64 12], .agg #[.int .i64 i, .int .i64 G]] w fun e w' => e = .returned (.agg (dcs (Rs : Int) 12).toArray) ∧ Below w.heap.size w w' := fun w T hG =>
    residue_ok (C : Int) i (G : Int) (Rs : Int) w T hi ⟨by omega, by omega⟩ ⟨by omega, by omega⟩ (by rw [eS]; omega) (by rw [eS]; omega) eR2 (by omega)
  have WO := (show Hid _ from WO0)
  have MO := (show Hid _ from MO0)
  have RS := (show Hid _ from RS0)
  have HG := (show Hid _ from hG)
  have VR_0 := (show Hid _ from va_new w zdl 35)
  have BB_0 := (show Hid _ from (Below.refl w.heap.size w).alloc (Nat.le_refl _) (.cells zdl.toArray 35))
  have CU_0 := (show Hid _ from T.alloc (.cells zdl.toArray 35))
  have hp : 0 < w.heap.size := T.lt
  clear T WO0 MO0 RS0 eR eS eR2 iC iG hG hC hGle bS hr ha
  go_enter Tryd.func11, Tryd.ntmps11
  go_wp2_with fail
  refine (fcur_yes i _ CU_0.out hi).mono ?_
  rintro e w7 ⟨rfl, hq⟩
  obtain rfl := hq.symm
  go_wp2_with fail
  refine (fcur_yes i _ CU_0.out hi).mono ?_
  rintro e w7 ⟨rfl, hq⟩
  obtain rfl := hq.symm
  go_wp2_with fail
  refine (frate_ok r _).mono ?_
  rintro e w7 ⟨rfl, hq⟩
  obtain rfl := hq.symm
  rw [wr]
  go_wp2_with fail
  refine (famount_ok a _).mono ?_
  rintro e w7 ⟨rfl, hq⟩
  obtain rfl := hq.symm
  rw [wa]
  clear wr wa
  go_wp2_with fail
  refine (WO.out _ CU_0.out).mono ?_
  rintro e w1 ⟨rfl, b1⟩
  have VR_1 := (show Hid _ from VR_0.out.step b1)
  have CU_1 := (show Hid _ from CU_0.out.step b1)
  have BB_1 := (show Hid _ from BB_0.out.trans (b1.mono BB_0.out.size))
  clear b1 VR_0 CU_0 BB_0
  go_wp2_with fail
  refine (MO.out _ (CU_1.out.alloc _)).mono ?_
  rintro e w2 ⟨rfl, b2⟩
  have VU_2 := (show Hid _ from (va_new w1 (dcs (C : Int) 12) 35).step b2)
  have VR_2 := (show Hid _ from (VR_1.out.alloc (.cells (dcs (C : Int) 12).toArray 35)).step b2)
  have CU_2 := (show Hid _ from (CU_1.out.alloc (.cells (dcs (C : Int) 12).toArray 35)).step b2)
  have BB_2 := (show Hid _ from BB_1.out.trans ((below_over b2).mono BB_1.out.size))
  have HL : Hid (w.heap.size < w1.heap.size) := VR_1.out.lt
  clear b2 VR_1 CU_1 BB_1 WO MO
  generalize w1.heap.size = pu at *
  have hio2 : ((i : Int) == (i : Int)) = true := beq_self_eq_true _
  have VR_3 := (show Hid _ from VR_2.out.alloc (.cells (mcl i G).toArray 48))
  have BB_3 := (show Hid _ from BB_2.out.alloc BB_2.out.size (.cells (mcl i G).toArray 48))
  go_wp2_with (refine stA rfl 35 _ _ rfl w.heap.size (by rfl) zdl zdl (by rfl) 35 VR_3.out infoD rfl (by decide) ?_; intro wf vf uf)
  have hld := run_loadVar_row (P := Tryd.prog) wf w.heap.size 35 35 _ (0, 0) _ vf.blk Tryd.underlying35 rfl infoD
  exact bodyPost_ret (v := .tuple #[.int .i64 0, .agg zdl.toArray, .int .i64 10]) (by simp [results, Tryd.results11, asAddr, hld]) rfl ⟨rfl, uf.bel BB_3.out (Nat.le_refl _)⟩
set_option maxHeartbeats 4000000 in
set_option maxRecDepth 100000 in
theorem conv_yes (i o r a : Nat) (w : World) (T : Cu w) (hi : i < 4) (ho : o < 4) (hr : 1 ≤ r ∧ r ≤ 1000000000000) (ha : 1 ≤ a ∧ a ≤ 10000000000000) (hG : gt o (wor i a r) ≤ 10000000000000) (hio : i ≠ o) :
    Calls Tryd.prog 11 #[.int .i64 i, .int .i64 o, .int .i64 r, .int .i64 a] w fun e w' => e = .returned (.tuple #[.int .i64 (gt o (wor i a r) : Nat), .agg (dcs (rsd o (wor i a r) : Nat) 12).toArray, .int .i64 0]) ∧ Below w.heap.size w w' := by
  have wr : wi r 1 1000000000000 = true := wi_yes (by omega) (by omega)
  have wa : wi a 1 10000000000000 = true := wi_yes (by omega) (by omega)
  have hC := wor_bd (i := i) ha.2 hr.2
  obtain ⟨C, hC0⟩ : ∃ C, C = wor i a r := ⟨_, rfl⟩
  have WO0 : ∀ w, Cu w → Calls Tryd.prog 18 #[.agg #[.int .i64 i, .int .i64 a], .int .i64 r] w fun e w' => e = .returned (.agg #[.int .i64 (dhi (C : Int)), .int .u64 (dlo (C : Int)), .int .i64 12]) ∧ Below w.heap.size w w' := by
    intro w T
    have h := worth_lit i a r w T hi ha.2 hr.2
    rw [← hC0] at h
    exact h
  rw [← hC0] at hG hC ⊢
  clear hC0
  have eR := rv_gt o C
  have eS := gt_sub o C
  have bS := rsd_bd o C
  have eR2 : ((rsd o C : Nat) : Int) = ((C : Int) - ((gt o C : Nat) : Int) * 10 ^ (12 - cdg o)) * 10 ^ cdg o := by
    rw [eS]; unfold rsd; rw [Int.natCast_mul, Int.natCast_pow]; rfl
  generalize rsd o C = Rs at *
  obtain ⟨G, hG0⟩ : ∃ G, G = gt o C := ⟨_, rfl⟩
  rw [← hG0] at eR eS eR2 hG ⊢
  have hGle : G ≤ 1000000000000000000000000000000 := by rw [hG0]; unfold gt; exact Nat.le_trans (Nat.div_le_self _ _) (by omega)
  clear hG0
  have iC : InR (C : Int) := in_small (by omega) (by omega)
  have iG : InR (G : Int) := in_small (by omega) (by omega)
  have MO0 : ∀ w, Cu w → Calls Tryd.prog 19 #[.agg #[.int .i64 (dhi (C : Int)), .int .u64 (dlo (C : Int)), .int .i64 12], .int .i64 o, .int .i64 2] w fun e w' => e = .returned (.tuple #[.agg #[.int .i64 o, .int .i64 G], .int .i64 0]) ∧ Below w.heap.size w w' := fun w T =>
    MOf_yes (C : Int) 12 o 2 (G : Int) w T iC (by decide) ho (by decide) eR.symm iG (by omega)
  have RS0 : ∀ w, Cu w → G ≤ 10000000000000 → Calls Tryd.prog 20 #[.agg #[.int .i64 (dhi (C : Int)), .int .u64 (dlo (C : Int)), .int .i64 12], .agg #[.int .i64 o, .int .i64 G]] w fun e w' => e = .returned (.agg (dcs (Rs : Int) 12).toArray) ∧ Below w.heap.size w w' := fun w T hG =>
    residue_ok (C : Int) o (G : Int) (Rs : Int) w T ho ⟨by omega, by omega⟩ ⟨by omega, by omega⟩ (by rw [eS]; omega) (by rw [eS]; omega) eR2 (by omega)
  have WO := (show Hid _ from WO0)
  have MO := (show Hid _ from MO0)
  have RS := (show Hid _ from RS0)
  have HG := (show Hid _ from hG)
  have VR_0 := (show Hid _ from va_new w zdl 35)
  have BB_0 := (show Hid _ from (Below.refl w.heap.size w).alloc (Nat.le_refl _) (.cells zdl.toArray 35))
  have CU_0 := (show Hid _ from T.alloc (.cells zdl.toArray 35))
  have hp : 0 < w.heap.size := T.lt
  clear T WO0 MO0 RS0 eR eS eR2 iC iG hG hC hGle bS hr ha
  go_enter Tryd.func11, Tryd.ntmps11
  go_wp2_with fail
  refine (fcur_yes i _ CU_0.out hi).mono ?_
  rintro e w7 ⟨rfl, hq⟩
  obtain rfl := hq.symm
  go_wp2_with fail
  refine (fcur_yes o _ CU_0.out ho).mono ?_
  rintro e w7 ⟨rfl, hq⟩
  obtain rfl := hq.symm
  go_wp2_with fail
  refine (frate_ok r _).mono ?_
  rintro e w7 ⟨rfl, hq⟩
  obtain rfl := hq.symm
  rw [wr]
  go_wp2_with fail
  refine (famount_ok a _).mono ?_
  rintro e w7 ⟨rfl, hq⟩
  obtain rfl := hq.symm
  rw [wa]
  clear wr wa
  go_wp2_with fail
  refine (WO.out _ CU_0.out).mono ?_
  rintro e w1 ⟨rfl, b1⟩
  have VR_1 := (show Hid _ from VR_0.out.step b1)
  have CU_1 := (show Hid _ from CU_0.out.step b1)
  have BB_1 := (show Hid _ from BB_0.out.trans (b1.mono BB_0.out.size))
  clear b1 VR_0 CU_0 BB_0
  go_wp2_with fail
  refine (MO.out _ (CU_1.out.alloc _)).mono ?_
  rintro e w2 ⟨rfl, b2⟩
  have VU_2 := (show Hid _ from (va_new w1 (dcs (C : Int) 12) 35).step b2)
  have VR_2 := (show Hid _ from (VR_1.out.alloc (.cells (dcs (C : Int) 12).toArray 35)).step b2)
  have CU_2 := (show Hid _ from (CU_1.out.alloc (.cells (dcs (C : Int) 12).toArray 35)).step b2)
  have BB_2 := (show Hid _ from BB_1.out.trans ((below_over b2).mono BB_1.out.size))
  have HL : Hid (w.heap.size < w1.heap.size) := VR_1.out.lt
  clear b2 VR_1 CU_1 BB_1 WO MO
  generalize w1.heap.size = pu at *
  have hio2 : ((i : Int) == (o : Int)) = false := by rw [beq_eq_false_iff_ne]; omega
  go_upto_region 9 with fail
  clear hio2
  change Code.wp _ _ _ _ (w2.alloc (.cells (mcl o G).toArray 48))
  have VG_3 := (show Hid _ from va_new w2 (mcl o G) 48)
  have VU_3 := (show Hid _ from VU_2.out.alloc (.cells (mcl o G).toArray 48))
  have VR_3 := (show Hid _ from VR_2.out.alloc (.cells (mcl o G).toArray 48))
  have CU_3 := (show Hid _ from CU_2.out.alloc (.cells (mcl o G).toArray 48))
  have BB_3 := (show Hid _ from BB_2.out.alloc BB_2.out.size (.cells (mcl o G).toArray 48))
  have HL2 : Hid (pu < w2.heap.size) := VU_2.out.lt
  clear VU_2 VR_2 CU_2 BB_2
  generalize w2.alloc (.cells (mcl o G).toArray 48) = w3 at *
  generalize w2.heap.size = pg at *
  refine wp_region_noPanic ?_
  refine wp_region_held_drew (S := fun w' => VA w' pu (dcs (C : Int) 12) 35 ∧ VA w' pg (mcl o G) 48) (by kernel_rfl) ⟨VU_3.out.drew, VG_3.out.drew⟩ (fun hHeld => ?_)
  refine takeD 0 52 (.pointer (some ⟨pg, 1, none⟩)) (by exact rfl) rfl (by kernel_rfl) (by kernel_rfl) (by kernel_rfl) (fun _ _ _ h => h) (Or.inl ⟨by rfl, ?_⟩) (by assumption) ?_
  · intro wq hS
    go_simp
  try simp only [Act.put, List.setIfInBounds_toArray, List.set_cons_zero, List.set_cons_succ]
  refine takeD 1 53 (.int .i64 (G : Int)) (by exact rfl) rfl (by kernel_rfl) (by kernel_rfl) (by kernel_rfl) (fun _ _ _ h => h) (Or.inl ⟨by rfl, ?_⟩) (by assumption) ?_
  · intro wq hS
    have h1 := hS.2.cell 1 (v := .int .i64 (G : Int)) rfl
    go_simp
  try simp only [Act.put, List.setIfInBounds_toArray, List.set_cons_zero, List.set_cons_succ]
  refine takeD 2 54 (.agg #[.int .i64 (dhi (C : Int)), .int .u64 (dlo (C : Int)), .int .i64 12]) (by exact rfl) rfl (by kernel_rfl) (by kernel_rfl) (by kernel_rfl) (fun _ _ _ h => h) (Or.inl ⟨by rfl, ?_⟩) (by assumption) ?_
  · intro wq hS
    have h0 := hS.1.cell 0 (v := .int .i64 (dhi (C : Int))) rfl
    have h1 := hS.1.cell 1 (v := .int .u64 (dlo (C : Int))) rfl
    have h2 := hS.1.cell 2 (v := .int .i64 12) rfl
    go_simp
  try simp only [Act.put, List.setIfInBounds_toArray, List.set_cons_zero, List.set_cons_succ]
  refine takeD 3 55 (.agg #[.int .i64 o, .int .i64 G]) (by exact rfl) rfl (by kernel_rfl) (by kernel_rfl) (by kernel_rfl) (fun _ _ _ h => h) (Or.inl ⟨by rfl, ?_⟩) (by assumption) ?_
  · intro wq hS
    have h0 := hS.2.cell 0 (v := .int .i64 (o : Int)) rfl
    have h1 := hS.2.cell 1 (v := .int .i64 (G : Int)) rfl
    go_simp
  try simp only [Act.put, List.setIfInBounds_toArray, List.set_cons_zero, List.set_cons_succ]
  clear hHeld
  have VU_z := (show Hid _ from VU_3.out.drew)
  have VG_z := (show Hid _ from VG_3.out.drew)
  have VR_z := (show Hid _ from VR_3.out.drew)
  have CU_z := (show Hid _ from CU_3.out.drew)
  have BB_z := (show Hid _ from BB_3.out.drew)
  clear VU_3 VG_3 VR_3 CU_3 BB_3
  generalize w3.drew = wz at *
  refine wpAnyH_ready (rs := [4]) (by kernel_rfl) (by simp) ?_
  refine AllReadyH.cons (by exact rfl) (fun K hK => ?_) AllReadyH.nil
  go_simp
  refine (RS.out _ CU_z.out HG.out).mono ?_
  rintro e w4 ⟨rfl, b4⟩
  have VU_4 := (show Hid _ from VU_z.out.step b4)
  have VG_4 := (show Hid _ from VG_z.out.step b4)
  have VR_4 := (show Hid _ from VR_z.out.step b4)
  have BB_4 := (show Hid _ from BB_z.out.trans (b4.mono BB_z.out.size))
  clear b4
  go_wp2_with fail
  refine hK.out _ _ (⟨VU_4.out, VG_4.out⟩) (fun hHeld => ?_)
  try simp only [Act.put, List.setIfInBounds_toArray, List.set_cons_zero, List.set_cons_succ]
  clear hK K
  clear VU_z VG_z VR_z CU_z BB_z
  refine takeD 5 8 (.int .i64 (G : Int)) (by exact rfl) rfl (by kernel_rfl) (by kernel_rfl) (by kernel_rfl) (fun _ _ _ h => h) (Or.inl ⟨by rfl, ?_⟩) (by assumption) ?_
  · intro wq hS
    go_simp
  try simp only [Act.put, List.setIfInBounds_toArray, List.set_cons_zero, List.set_cons_succ]
  clear hHeld
  refine wpAnyH_ready (rs := [6]) (by kernel_rfl) (by simp) ?_
  refine AllReadyH.cons (by exact rfl) (fun K hK => ?_) AllReadyH.nil
  refine stAn (by rfl) (by rfl) 35 _ _ (by rfl) w.heap.size (by rfl) zdl (dcs (Rs : Int) 12) (by rfl) 35 VR_4.out infoD rfl (dcs_one _ _) ?_
  intro wf vf uf
  refine hK.out _ _ ⟨VU_4.out.upd uf (by have := HL.out; omega), VG_4.out.upd uf (by have := HL.out; have := HL2.out; omega)⟩ (fun hHeld => ?_)
  clear hK K
  refine takeD 7 10 (.int .i64 0) (by exact rfl) rfl (by kernel_rfl) (by kernel_rfl) (by kernel_rfl) (fun _ _ _ h => h) (Or.inl ⟨by rfl, ?_⟩) (by assumption) ?_
  · intro wq hS
    go_simp
  try simp only [Act.put, List.setIfInBounds_toArray, List.set_cons_zero, List.set_cons_succ]
  clear hHeld
  refine wpAnyH_done (by kernel_rfl) ?_ _
  refine NoPanic.normal ?_
  have BB_3 := BB_4
  go_wp2_with fail
  have hld := run_loadVar_row (P := Tryd.prog) wf w.heap.size 35 35 _ (0, 0) _ vf.blk Tryd.underlying35 rfl infoD
  exact bodyPost_ret (v := .tuple #[.int .i64 (G : Int), .agg (dcs (Rs : Int) 12).toArray, .int .i64 0]) (by simp [results, Tryd.results11, asAddr, hld]) rfl ⟨rfl, uf.bel BB_3.out (Nat.le_refl _)⟩
end Go.Proofs.YtkndnpkpdchbiaaDoor
