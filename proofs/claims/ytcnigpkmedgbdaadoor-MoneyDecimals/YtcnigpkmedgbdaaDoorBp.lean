/- money: To beside the document's; the walk of MoneyDecimals. -/
import Derived.Test.YtcnigpkmedgbdaaDoorBo
namespace Go.Proofs.YtcnigpkmedgbdaaDoor
open Go.RowKit
set_option linter.unusedVariables false

set_option maxRecDepth 100000 in
theorem to_no (c n : Int) (w : World) (h : mform c n = false) : Calls Tryd.prog 27 #[.agg (mcl c n).toArray] w fun e w' => e = .returned (.tuple #[.agg zdl.toArray, .int .i64 3]) ∧ Below w.heap.size w w' := by
  have VM_0 := (show Hid _ from (va_new w (mcl c n) 23).alloc (.cells zdl.toArray 60))
  have VR_0 := (show Hid _ from va_new (w.alloc (.cells (mcl c n).toArray 23)) zdl 60)
  rw [show (w.alloc (.cells (mcl c n).toArray 23)).heap.size = w.heap.size + 1 by simp] at VR_0
  have BB_0 := (show Hid _ from ((Below.refl w.heap.size w).alloc (Nat.le_refl _) (.cells (mcl c n).toArray 23)).alloc (by simp) (.cells zdl.toArray 60))
  go_enter Tryd.func27, Tryd.ntmps27
  go_wp2_with (refine ldA rfl 23 _ rfl w.heap.size (by rfl) (mcl c n) _ VM_0.out _ Tryd.underlying23 rfl infoM ?_)
  refine (chk_no c n _ h).mono ?_
  rintro e w1 ⟨rfl, b1⟩
  have VM_1 := (show Hid _ from VM_0.out.step b1)
  have VR_1 := (show Hid _ from VR_0.out.step b1)
  have BB_1 := (show Hid _ from BB_0.out.trans (b1.mono BB_0.out.size))
  clear b1 VM_0 VR_0 BB_0
  go_wp2_with (refine stA rfl 60 _ _ rfl (w.heap.size + 1) (by rfl) zdl zdl (by rfl) 60 VR_1.out infoD rfl (by decide) ?_; intro wf vf uf)
  have hld := run_loadVar_row (P := Tryd.prog) wf (w.heap.size + 1) 60 60 _ (0, 0) _ vf.blk Tryd.underlying60 rfl infoD
  exact bodyPost_ret (v := .tuple #[.agg (zdl).toArray, .int .i64 3]) (by simp [results, Tryd.results27, asAddr, hld]) rfl ⟨rfl, uf.bel BB_1.out (by omega)⟩
set_option maxRecDepth 100000 in
theorem dto_no (c n : Int) (w : World) (h : mform c n = false) : Calls Tryd.prog 28 #[.agg (mcl c n).toArray] w fun e w' => e = .returned (.tuple #[.agg zdl.toArray, .int .i64 3]) ∧ Below w.heap.size w w' := by
  have VM_0 := (show Hid _ from (va_new w (mcl c n) 23).alloc (.cells zdl.toArray 60))
  have VR_0 := (show Hid _ from va_new (w.alloc (.cells (mcl c n).toArray 23)) zdl 60)
  rw [show (w.alloc (.cells (mcl c n).toArray 23)).heap.size = w.heap.size + 1 by simp] at VR_0
  have BB_0 := (show Hid _ from ((Below.refl w.heap.size w).alloc (Nat.le_refl _) (.cells (mcl c n).toArray 23)).alloc (by simp) (.cells zdl.toArray 60))
  go_enter Tryd.func28, Tryd.ntmps28
  go_wp2_with (refine ldA rfl 23 _ rfl w.heap.size (by rfl) (mcl c n) _ VM_0.out _ Tryd.underlying23 rfl infoM ?_)
  refine (rform_ok c n _).mono ?_
  rintro e w1 ⟨rfl, b1⟩
  have VM_1 := (show Hid _ from VM_0.out.step b1)
  have VR_1 := (show Hid _ from VR_0.out.step b1)
  have BB_1 := (show Hid _ from BB_0.out.trans (b1.mono BB_0.out.size))
  clear b1 VM_0 VR_0 BB_0
  rw [h]
  go_wp2_with (refine stA rfl 60 _ _ rfl (w.heap.size + 1) (by rfl) zdl zdl (by rfl) 60 VR_1.out infoD rfl (by decide) ?_; intro wf vf uf)
  have hld := run_loadVar_row (P := Tryd.prog) wf (w.heap.size + 1) 60 60 _ (0, 0) _ vf.blk Tryd.underlying60 rfl infoD
  exact bodyPost_ret (v := .tuple #[.agg (zdl).toArray, .int .i64 3]) (by simp [results, Tryd.results28, asAddr, hld]) rfl ⟨rfl, uf.bel BB_1.out (by omega)⟩
set_option maxHeartbeats 4000000 in
set_option maxRecDepth 100000 in
theorem dto_ok (i : Nat) (n : Int) (w : World) (hi : i < 4) (hn : -10000000000000 ≤ n ∧ n ≤ 10000000000000) :
    Calls Tryd.prog 28 #[.agg (mcl i n).toArray] w fun e w' => e = .returned (.tuple #[.agg (dcs n (cdg i)).toArray, .int .i64 0]) ∧ Below w.heap.size w w' := by
  have hm : mform i n = true := by unfold mform; rw [wi_yes (by omega) (by omega), wi_yes hn.1 hn.2]; rfl
  have HN := (show Hid _ from hn)
  clear hn
  have VM_0 := (show Hid _ from (va_new w (mcl i n) 23).alloc (.cells zdl.toArray 60))
  have VR_0 := (show Hid _ from va_new (w.alloc (.cells (mcl i n).toArray 23)) zdl 60)
  rw [show (w.alloc (.cells (mcl i n).toArray 23)).heap.size = w.heap.size + 1 by simp] at VR_0
  have BB_0 := (show Hid _ from ((Below.refl w.heap.size w).alloc (Nat.le_refl _) (.cells (mcl i n).toArray 23)).alloc (by simp) (.cells zdl.toArray 60))
  go_enter Tryd.func28, Tryd.ntmps28
  go_wp2_with (refine ldA rfl 23 _ rfl w.heap.size (by rfl) (mcl i n) _ VM_0.out _ Tryd.underlying23 rfl infoM ?_)
  refine (rform_ok i n _).mono ?_
  rintro e w1 ⟨rfl, b1⟩
  have VM_1 := (show Hid _ from VM_0.out.step b1)
  have VR_1 := (show Hid _ from VR_0.out.step b1)
  have BB_1 := (show Hid _ from BB_0.out.trans (b1.mono BB_0.out.size))
  clear b1 VM_0 VR_0 BB_0
  rw [hm]
  clear hm
  go_upto_region 3 with fail
  refine wp_region_noPanic ?_
  refine wp_region_held_drew (S := fun w' => VA w' w.heap.size (mcl i n) 23 ∧ True) (by kernel_rfl) ⟨VM_1.out.drew, True.intro⟩ (fun hHeld => ?_)
  refine takeD 0 8 (.pointer (some ⟨w.heap.size, 1, none⟩)) (by exact rfl) rfl (by kernel_rfl) (by kernel_rfl) (by kernel_rfl) (fun _ _ _ h => h) (Or.inl ⟨by rfl, ?_⟩) (by assumption) ?_
  · intro wq hS
    go_simp
  try simp only [Act.put, List.setIfInBounds_toArray, List.set_cons_zero, List.set_cons_succ]
  refine takeD 1 9 (.int .i64 n) (by exact rfl) rfl (by kernel_rfl) (by kernel_rfl) (by kernel_rfl) (fun _ _ _ h => h) (Or.inl ⟨by rfl, ?_⟩) (by assumption) ?_
  · intro wq hS
    have h1 := hS.1.cell 1 (v := .int .i64 n) rfl
    go_simp
  try simp only [Act.put, List.setIfInBounds_toArray, List.set_cons_zero, List.set_cons_succ]
  refine takeD 3 11 (.pointer (some ⟨w.heap.size, 0, none⟩)) (by exact rfl) rfl (by kernel_rfl) (by kernel_rfl) (by kernel_rfl) (fun _ _ _ h => h) (Or.inl ⟨by rfl, ?_⟩) (by assumption) ?_
  · intro wq hS
    go_simp
  try simp only [Act.put, List.setIfInBounds_toArray, List.set_cons_zero, List.set_cons_succ]
  refine takeD 4 12 (.int .i64 (i : Int)) (by exact rfl) rfl (by kernel_rfl) (by kernel_rfl) (by kernel_rfl) (fun _ _ _ h => h) (Or.inl ⟨by rfl, ?_⟩) (by assumption) ?_
  · intro wq hS
    have h1 := hS.1.cell 0 (v := .int .i64 (i : Int)) rfl
    go_simp
  try simp only [Act.put, List.setIfInBounds_toArray, List.set_cons_zero, List.set_cons_succ]
  clear hHeld
  have VM_z := (show Hid _ from VM_1.out.drew)
  have VR_z := (show Hid _ from VR_1.out.drew)
  have BB_z := (show Hid _ from BB_1.out.drew)
  clear VM_1 VR_1 BB_1
  generalize w1.drew = wz at *
  refine wpAnyH_ready (rs := [2]) (by kernel_rfl) (by simp) ?_
  refine AllReadyH.cons (by exact rfl) (fun K hK => ?_) AllReadyH.nil
  go_simp
  refine (made_in n _ (by have := HN.out; omega) (by have := HN.out; omega)).mono ?_
  rintro e w2 ⟨⟨v1, rfl, j1⟩, b2⟩
  have VM_2 := (show Hid _ from VM_z.out.step b2)
  have VR_2 := (show Hid _ from VR_z.out.step b2)
  have BB_2 := (show Hid _ from BB_z.out.trans (b2.mono BB_z.out.size))
  have J_2 := (show Hid _ from j1)
  clear b2 j1 VM_z VR_z BB_z
  go_wp2_with fail
  refine hK.out _ _ ⟨VM_2.out, True.intro⟩ (fun hHeld => ?_)
  try simp only [Act.put, List.setIfInBounds_toArray, List.set_cons_zero, List.set_cons_succ]
  clear hK K hHeld
  refine wpAnyH_ready (rs := [5]) (by kernel_rfl) (by simp) ?_
  refine AllReadyH.cons (by exact rfl) (fun K hK => ?_) AllReadyH.nil
  go_simp
  refine (rdigits_ok i _ hi).mono ?_
  rintro e wx ⟨rfl, hq⟩
  obtain rfl := hq.symm
  go_wp2_with fail
  refine hK.out _ _ ⟨VM_2.out, True.intro⟩ (fun hHeld => ?_)
  try simp only [Act.put, List.setIfInBounds_toArray, List.set_cons_zero, List.set_cons_succ]
  clear hK K hHeld
  refine wpAnyH_ready (rs := [6]) (by kernel_rfl) (by simp) ?_
  refine AllReadyH.cons (by exact rfl) (fun K hK => ?_) AllReadyH.nil
  go_simp
  refine (decr_ok v1 n (cdg i) _ J_2.out (i64_in (by have := HN.out; omega) (by have := HN.out; omega))).mono ?_
  rintro e w3 ⟨rfl, b3⟩
  have VM_3 := (show Hid _ from VM_2.out.step b3)
  have VR_3 := (show Hid _ from VR_2.out.step b3)
  have BB_3 := (show Hid _ from BB_2.out.trans (b3.mono BB_2.out.size))
  clear b3
  go_wp2_with fail
  refine hK.out _ _ (⟨VM_3.out, True.intro⟩) (fun hHeld => ?_)
  try simp only [Act.put, List.setIfInBounds_toArray, List.set_cons_zero, List.set_cons_succ]
  clear hK K
  clear VM_2 VR_2 BB_2 J_2
  refine takeD 7 15 (.agg (dcs n (cdg i)).toArray) (by exact rfl) rfl (by kernel_rfl) (by kernel_rfl) (by kernel_rfl) (fun _ _ _ h => h) (Or.inl ⟨by rfl, ?_⟩) (by assumption) ?_
  · intro wq hS
    go_simp
    rfl
  try simp only [Act.put, List.setIfInBounds_toArray, List.set_cons_zero, List.set_cons_succ]
  refine takeD 8 16 (.int .i64 0) (by exact rfl) rfl (by kernel_rfl) (by kernel_rfl) (by kernel_rfl) (fun _ _ _ h => h) (Or.inl ⟨by rfl, ?_⟩) (by assumption) ?_
  · intro wq hS
    go_simp
  try simp only [Act.put, List.setIfInBounds_toArray, List.set_cons_zero, List.set_cons_succ]
  clear hHeld
  refine wpAnyH_ready (rs := [9]) (by kernel_rfl) (by simp) ?_
  refine AllReadyH.cons (by exact rfl) (fun K hK => ?_) AllReadyH.nil
  refine stAn (by rfl) (by rfl) 60 _ _ (by rfl) (w.heap.size + 1) (by rfl) zdl (dcs n (cdg i)) (by rfl) 60 VR_3.out infoD rfl (dcs_one _ _) ?_
  intro wf vf uf
  refine hK.out _ _ ⟨VM_3.out.upd uf (by omega), True.intro⟩ (fun hHeld => ?_)
  clear hK K
  refine takeD 10 3 (.int .i64 0) (by exact rfl) rfl (by kernel_rfl) (by kernel_rfl) (by kernel_rfl) (fun _ _ _ h => h) (Or.inl ⟨by rfl, ?_⟩) (by assumption) ?_
  · intro wq hS
    go_simp
  try simp only [Act.put, List.setIfInBounds_toArray, List.set_cons_zero, List.set_cons_succ]
  clear hHeld
  refine wpAnyH_done (by kernel_rfl) ?_ _
  refine NoPanic.normal ?_
  go_wp2_with fail
  have hld := run_loadVar_row (P := Tryd.prog) wf (w.heap.size + 1) 60 60 _ (0, 0) _ vf.blk Tryd.underlying60 rfl infoD
  exact bodyPost_ret (v := .tuple #[.agg (dcs n (cdg i)).toArray, .int .i64 0]) (by simp [results, Tryd.results28, asAddr, hld]) rfl ⟨rfl, uf.bel BB_3.out (by omega)⟩
theorem of_both (h l s c mode : Int) (wh : (Lit.int .i64 h).wf = true) (wl : (Lit.int .u64 l).wf = true) : ∃ mc mn e : Int,
    (∀ w, Cu w → Calls Tryd.prog 25 #[.agg #[.int .i64 h, .int .u64 l, .int .i64 s], .int .i64 c, .int .i64 mode] w fun r w' => r = .returned (.tuple #[.agg #[.int .i64 mc, .int .i64 mn], .int .i64 e]) ∧ Below w.heap.size w w') ∧
    (∀ w, Calls Tryd.prog 26 #[.agg #[.int .i64 h, .int .u64 l, .int .i64 s], .int .i64 c, .int .i64 mode] w fun r w' => r = .returned (.tuple #[.agg #[.int .i64 mc, .int .i64 mn], .int .i64 e]) ∧ Below w.heap.size w w') := by
  by_cases hc : 0 ≤ c ∧ c ≤ 3
  · obtain ⟨i, rfl⟩ := Int.eq_ofNat_of_zero_le hc.1
    have hi : i < 4 := by omega
    have hd := cdg_le i
    by_cases hm : 0 ≤ mode ∧ mode ≤ 6
    · obtain ⟨md, rfl⟩ := Int.eq_ofNat_of_zero_le hm.1
      rcases form_cases h l s wh wl with hb | ⟨cc, sn, rfl, rfl, rfl, ic, hs⟩
      · exact ⟨0, 0, 3, fun w T => mof_err h l s md 3 i w T hi (by decide) (fun w => rescale_form h l s (cdg i) md w (by omega) (by omega) (by omega) hb), fun w => dof_f h l s i md w hc hm hb⟩
      · by_cases hr : -10000000000000 ≤ rv cc sn (cdg i) md ∧ rv cc sn (cdg i) md ≤ 10000000000000
        · exact ⟨i, rv cc sn (cdg i) md, 0, fun w T => MOf_yes cc sn i md _ w T ic hs hi (by omega) rfl (by constructor <;> (rw [M127_eq]; omega)) hr, fun w => dof_yes cc sn i md _ w ic hs hi (by omega) rfl hr⟩
        · refine ⟨0, 0, 4, fun w T => ?_, fun w => ?_⟩
          · by_cases iR : InR (rv cc sn (cdg i) md)
            · exact MOf_no cc sn i md _ w T ic hs hi (by omega) rfl iR hr
            · exact mof_err _ _ _ md 4 i w T hi (by decide) (fun w => rescale_no cc sn (cdg i) md w ic hs (by omega) (by omega) iR)
          · by_cases h64 : -9223372036854775808 ≤ rv cc sn (cdg i) md ∧ rv cc sn (cdg i) md ≤ 9223372036854775807
            · exact dof_big cc sn i md _ w ic hs hi (by omega) rfl hr h64
            · exact dof_far cc sn i md _ w ic hs hi (by omega) rfl h64
    · refine ⟨0, 0, 1, fun w T => mof_err h l s mode 1 i w T hi (by decide) (fun w => rescale_arg h l s (cdg i) mode w (Or.inr (by omega))), fun w => ?_⟩
      by_cases h0 : mode < 0
      · exact dof_m1 h l s i mode w hc h0
      · exact dof_m2 h l s i mode w hc (by omega)
  · exact ⟨0, 0, 1, fun w T => mof_c h l s c mode w hc, fun w => dof_c h l s c mode w hc⟩
theorem rv_same (n : Int) (s mode : Nat) : rv n s s mode = n := by
  unfold rv rquo rnum rden away
  rw [show ((s : Int) - s) = 0 by omega]
  simp [Nat.mod_one]
  exact sv_abs n
theorem eqD (w : World) (a b c : Int) : (Op.equalIn 10000 60 (.agg #[.int .i64 a, .int .u64 b, .int .i64 c]) (.agg #[.int .i64 a, .int .u64 b, .int .i64 c])).run Tryd.prog w = .ok true w := by
  go_simp
theorem eqM1 (w : World) (a b : Int) : (Op.equalIn 10000 23 (.agg #[.int .i64 a, .int .i64 b]) (.agg #[.int .i64 a, .int .i64 b])).run Tryd.prog w = .ok true w := by
  go_simp
set_option maxHeartbeats 20000000 in
set_option maxRecDepth 100000 in
theorem decs_walk (h l s cu md c n : Int) (w : World) (T : Cu w) (N : Cn w) (wh : (Lit.int .i64 h).wf = true) (wl : (Lit.int .u64 l).wf = true) : Calls Tryd.prog 6 #[.agg #[.int .i64 h, .int .u64 l, .int .i64 s], .int .i64 cu, .int .i64 md, .agg #[.int .i64 c, .int .i64 n]] w fun e w' => e = .returned (.bool true) ∧ Below w.heap.size w w' := by
  by_cases hf : mform c n = true
  · obtain ⟨⟨m1, m2⟩, m3, m4⟩ := mf_parts hf
    obtain ⟨i, rfl⟩ := Int.eq_ofNat_of_zero_le m1
    have hi : i < 4 := by omega
    obtain ⟨c, hc⟩ : ∃ c : Int, c = (i : Int) := ⟨_, rfl⟩
    obtain ⟨xh, e1⟩ : ∃ x, x = dhi n := ⟨_, rfl⟩
    obtain ⟨xl, e2⟩ : ∃ x, x = dlo n := ⟨_, rfl⟩
    obtain ⟨xs, e3⟩ : ∃ x : Int, x = (cdg i : Int) := ⟨_, rfl⟩
    have T1 : Hid (∀ w, Cu w → Calls Tryd.prog 27 #[.agg #[.int .i64 c, .int .i64 n]] w fun e w' => e = .returned (.tuple #[.agg #[.int .i64 xh, .int .u64 xl, .int .i64 xs], .int .i64 0]) ∧ Below w.heap.size w w') := fun w T => by rw [hc, e1, e2, e3]; exact To_ok i n w T hi ⟨m3, m4⟩
    have T2 : Hid (∀ w, Calls Tryd.prog 28 #[.agg #[.int .i64 c, .int .i64 n]] w fun e w' => e = .returned (.tuple #[.agg #[.int .i64 xh, .int .u64 xl, .int .i64 xs], .int .i64 0]) ∧ Below w.heap.size w w') := fun w => by rw [hc, e1, e2, e3]; exact dto_ok i n w hi ⟨m3, m4⟩
    have B : Hid (∀ k : Nat, k ≤ 6 → ∀ w, Cu w → Calls Tryd.prog 25 #[.agg #[.int .i64 xh, .int .u64 xl, .int .i64 xs], .int .i64 c, .int .i64 k] w fun e w' => e = .returned (.tuple #[.agg #[.int .i64 c, .int .i64 n], .int .i64 0]) ∧ Below w.heap.size w w') := fun k hk w T => by
      rw [hc, e1, e2, e3]
      exact MOf_yes n (cdg i) i k n w T (i64_in (by omega) (by omega)) (by have := cdg_le i; omega) hi (by omega) (rv_same n (cdg i) k).symm (i64_in (by omega) (by omega)) ⟨m3, m4⟩
    rw [← hc]
    clear hc e1 e2 e3 m1 m2 m3 m4 hf hi
    have VD_0 := (show Hid _ from (va_new w [.int .i64 h, .int .u64 l, .int .i64 s] 60).alloc (.cells (mcl c n).toArray 23))
    have VM_0 := (show Hid _ from va_new (w.alloc (.cells #[.int .i64 h, .int .u64 l, .int .i64 s] 60)) (mcl c n) 23)
    rw [show (w.alloc (.cells #[.int .i64 h, .int .u64 l, .int .i64 s] 60)).heap.size = w.heap.size + 1 by simp] at VM_0
    have CU_0 := (show Hid _ from (T.alloc (.cells #[.int .i64 h, .int .u64 l, .int .i64 s] 60)).alloc (.cells (mcl c n).toArray 23))
    have CN_0 := (show Hid _ from (N.alloc (.cells #[.int .i64 h, .int .u64 l, .int .i64 s] 60)).alloc (.cells (mcl c n).toArray 23))
    have BX := (Below.refl w.heap.size w).alloc (Nat.le_refl _) (.cells #[.int .i64 h, .int .u64 l, .int .i64 s] 60)
    have BB_0 := (show Hid _ from BX.alloc BX.size (.cells (mcl c n).toArray 23))
    obtain ⟨mc, mn, me, o1, o2⟩ := of_both h l s cu md wh wl
    have Q1 := (show Hid _ from o1)
    have Q2 := (show Hid _ from o2)
    clear o1 o2 T N BX
    go_enter Tryd.func6, Tryd.ntmps6
    go_wp2_with (refine ldA rfl 60 _ rfl w.heap.size (by rfl) [.int .i64 h, .int .u64 l, .int .i64 s] _ (VD_0.out) _ Tryd.underlying60 rfl infoD ?_)
    refine (Q1.out _ CU_0.out).mono ?_
    rintro e w1 ⟨rfl, b1⟩
    have VD_1 := (show Hid _ from (VD_0.out).step b1)
    have VM_1 := (show Hid _ from (VM_0.out).step b1)
    have CU_1 := (show Hid _ from (CU_0.out).step b1)
    have CN_1 := (show Hid _ from (CN_0.out).step b1)
    have BB_1 := (show Hid _ from BB_0.out.trans (b1.mono BB_0.out.size))
    clear b1 VD_0 VM_0 CU_0 CN_0 BB_0
    go_wp2_with (refine ldA rfl 60 _ rfl w.heap.size (by rfl) [.int .i64 h, .int .u64 l, .int .i64 s] _ (VD_1.out.alloc _) _ Tryd.underlying60 rfl infoD ?_)
    refine (Q2.out _).mono ?_
    rintro e w2 ⟨rfl, b2⟩
    have VD_2 := (show Hid _ from (VD_1.out.alloc (.cells #[.int .i64 mc, .int .i64 mn] 23)).step b2)
    have VM_2 := (show Hid _ from (VM_1.out.alloc (.cells #[.int .i64 mc, .int .i64 mn] 23)).step b2)
    have CU_2 := (show Hid _ from (CU_1.out.alloc (.cells #[.int .i64 mc, .int .i64 mn] 23)).step b2)
    have CN_2 := (show Hid _ from (CN_1.out.alloc (.cells #[.int .i64 mc, .int .i64 mn] 23)).step b2)
    have X1_2 := (show Hid _ from (va_new w1 [.int .i64 mc, .int .i64 mn] 23).step b2)
    have BB_2 := (show Hid _ from BB_1.out.trans ((below_over b2).mono BB_1.out.size))
    clear b2 VD_1 VM_1 CU_1 CN_1 BB_1
    generalize w1.heap.size = pX1 at *
    go_wp2_with (refine ldA rfl 23 _ rfl (w.heap.size + 1) (by rfl) (mcl c n) _ (VM_2.out.alloc _) _ Tryd.underlying23 rfl infoM ?_)
    refine (T1.out _ (CU_2.out.alloc _)).mono ?_
    rintro e w3 ⟨rfl, b3⟩
    have VD_3 := (show Hid _ from (VD_2.out.alloc (.cells #[.int .i64 mc, .int .i64 mn] 23)).step b3)
    have VM_3 := (show Hid _ from (VM_2.out.alloc (.cells #[.int .i64 mc, .int .i64 mn] 23)).step b3)
    have CU_3 := (show Hid _ from (CU_2.out.alloc (.cells #[.int .i64 mc, .int .i64 mn] 23)).step b3)
    have CN_3 := (show Hid _ from (CN_2.out.alloc (.cells #[.int .i64 mc, .int .i64 mn] 23)).step b3)
    have X1_3 := (show Hid _ from (X1_2.out.alloc (.cells #[.int .i64 mc, .int .i64 mn] 23)).step b3)
    have X2_3 := (show Hid _ from (va_new w2 [.int .i64 mc, .int .i64 mn] 23).step b3)
    have BB_3 := (show Hid _ from BB_2.out.trans ((below_over b3).mono BB_2.out.size))
    clear b3 VD_2 VM_2 CU_2 CN_2 X1_2 BB_2
    generalize w2.heap.size = pX2 at *
    go_wp2_with (refine ldA rfl 23 _ rfl (w.heap.size + 1) (by rfl) (mcl c n) _ (VM_3.out.alloc _) _ Tryd.underlying23 rfl infoM ?_)
    refine (T2.out _).mono ?_
    rintro e w4 ⟨rfl, b4⟩
    have VD_4 := (show Hid _ from (VD_3.out.alloc (.cells #[.int .i64 xh, .int .u64 xl, .int .i64 xs] 60)).step b4)
    have VM_4 := (show Hid _ from (VM_3.out.alloc (.cells #[.int .i64 xh, .int .u64 xl, .int .i64 xs] 60)).step b4)
    have CU_4 := (show Hid _ from (CU_3.out.alloc (.cells #[.int .i64 xh, .int .u64 xl, .int .i64 xs] 60)).step b4)
    have CN_4 := (show Hid _ from (CN_3.out.alloc (.cells #[.int .i64 xh, .int .u64 xl, .int .i64 xs] 60)).step b4)
    have X1_4 := (show Hid _ from (X1_3.out.alloc (.cells #[.int .i64 xh, .int .u64 xl, .int .i64 xs] 60)).step b4)
    have X2_4 := (show Hid _ from (X2_3.out.alloc (.cells #[.int .i64 xh, .int .u64 xl, .int .i64 xs] 60)).step b4)
    have Y1_4 := (show Hid _ from (va_new w3 [.int .i64 xh, .int .u64 xl, .int .i64 xs] 60).step b4)
    have BB_4 := (show Hid _ from BB_3.out.trans ((below_over b4).mono BB_3.out.size))
    clear b4 VD_3 VM_3 CU_3 CN_3 X1_3 X2_3 BB_3
    generalize w3.heap.size = pY1 at *
    go_wp2_with fail
    refine (awake05 _ (CU_4.out.alloc _) (CN_4.out.alloc _)).mono ?_
    rintro e w5 ⟨rfl, b5⟩
    have VD_5 := (show Hid _ from (VD_4.out.alloc (.cells #[.int .i64 xh, .int .u64 xl, .int .i64 xs] 60)).step b5)
    have VM_5 := (show Hid _ from (VM_4.out.alloc (.cells #[.int .i64 xh, .int .u64 xl, .int .i64 xs] 60)).step b5)
    have CU_5 := (show Hid _ from (CU_4.out.alloc (.cells #[.int .i64 xh, .int .u64 xl, .int .i64 xs] 60)).step b5)
    have CN_5 := (show Hid _ from (CN_4.out.alloc (.cells #[.int .i64 xh, .int .u64 xl, .int .i64 xs] 60)).step b5)
    have X1_5 := (show Hid _ from (X1_4.out.alloc (.cells #[.int .i64 xh, .int .u64 xl, .int .i64 xs] 60)).step b5)
    have X2_5 := (show Hid _ from (X2_4.out.alloc (.cells #[.int .i64 xh, .int .u64 xl, .int .i64 xs] 60)).step b5)
    have Y1_5 := (show Hid _ from (Y1_4.out.alloc (.cells #[.int .i64 xh, .int .u64 xl, .int .i64 xs] 60)).step b5)
    have Y2_5 := (show Hid _ from (va_new w4 [.int .i64 xh, .int .u64 xl, .int .i64 xs] 60).step b5)
    have BB_5 := (show Hid _ from BB_4.out.trans ((below_over b5).mono BB_4.out.size))
    clear b5 VD_4 VM_4 CU_4 CN_4 X1_4 X2_4 Y1_4 BB_4
    generalize w4.heap.size = pY2 at *
    have X10 := X1_5.out.cell 0 (v := .int .i64 mc) rfl
    have X11 := X1_5.out.cell 1 (v := .int .i64 mn) rfl
    have X20 := X2_5.out.cell 0 (v := .int .i64 mc) rfl
    have X21 := X2_5.out.cell 1 (v := .int .i64 mn) rfl
    have Y10 := Y1_5.out.cell 0 (v := .int .i64 xh) rfl
    have Y11 := Y1_5.out.cell 1 (v := .int .u64 xl) rfl
    have Y12 := Y1_5.out.cell 2 (v := .int .i64 xs) rfl
    have Y20 := Y2_5.out.cell 0 (v := .int .i64 xh) rfl
    have Y21 := Y2_5.out.cell 1 (v := .int .u64 xl) rfl
    have Y22 := Y2_5.out.cell 2 (v := .int .i64 xs) rfl
    have q1 := fun w => eqM1 w mc mn
    have q2 := fun w => eqD w xh xl xs
    go_wp2_with fail
    clear X10 X11 X20 X21 Y10 Y11 Y12 Y20 Y21 Y22 q1 q2
    have q3 := (show Hid _ from fun w => eqM1 w c n)
    go_loopw [68] (fun ix wr => ∃ k : Nat, k ≤ 7 ∧ ix = .int .i64 k ∧ Hid (VA wr pY1 [.int .i64 xh, .int .u64 xl, .int .i64 xs] 60) ∧ Hid (VA wr (w.heap.size + 1) (mcl c n) 23) ∧ Hid (Cu wr) ∧ Hid (Below w.heap.size w wr)) (fun ix _ => 7 - (intOf ix).toNat)
    case atStart => exact ⟨0, by omega, rfl, Y1_5, VM_5, CU_5, BB_5⟩
    case round =>
      obtain ⟨k, hk, rfl, y1, vm, cu, bb⟩ := hrel
      by_cases hk7 : k = 7
      · subst hk7
        go_wp2_with fail
        exact bodyPost_ret (v := .bool true) (by simp [results, Tryd.results6, go_sem]) rfl ⟨rfl, bb.out⟩
      have hk6 : k ≤ 6 := by omega
      have m0 := vm.out.cell 0 (v := .int .i64 c) rfl
      go_wp2_with (refine ldA rfl 60 _ rfl pY1 (by rfl) [.int .i64 xh, .int .u64 xl, .int .i64 xs] _ y1.out _ Tryd.underlying60 rfl infoD ?_)
      clear m0
      refine (B.out k hk6 _ cu.out).mono ?_
      rintro e wb ⟨rfl, b9⟩
      have y9 := (show Hid _ from (y1.out.step b9).alloc (.cells #[.int .i64 c, .int .i64 n] 23))
      have vm8 := (show Hid _ from vm.out.step b9)
      have vm9 := (show Hid _ from vm8.out.alloc (.cells #[.int .i64 c, .int .i64 n] 23))
      have cu9 := (show Hid _ from (cu.out.step b9).alloc (.cells #[.int .i64 c, .int .i64 n] 23))
      have bb8 := (show Hid _ from bb.out.trans (b9.mono bb.out.size))
      have bb9 := (show Hid _ from bb8.out.alloc bb8.out.size (.cells #[.int .i64 c, .int .i64 n] 23))
      have m0 := vm8.out.cell 0 (v := .int .i64 c) rfl
      have m1 := vm8.out.cell 1 (v := .int .i64 n) rfl
      have ml := vm8.out.lt
      have q4 := q3.out
      clear b9 y1 vm cu bb bb8
      go_wp2_with fail
      exact ⟨⟨k + 1, by omega, by go_num, y9, vm9, cu9, bb9⟩, by simp [intOf]; omega⟩
  · replace hf : mform c n = false := by simpa using hf
    obtain ⟨xh, e1⟩ : ∃ x : Int, x = 0 := ⟨_, rfl⟩
    obtain ⟨xl, e2⟩ : ∃ x : Int, x = 0 := ⟨_, rfl⟩
    obtain ⟨xs, e3⟩ : ∃ x : Int, x = 0 := ⟨_, rfl⟩
    have T1 : Hid (∀ w, Cu w → Calls Tryd.prog 27 #[.agg #[.int .i64 c, .int .i64 n]] w fun e w' => e = .returned (.tuple #[.agg #[.int .i64 xh, .int .u64 xl, .int .i64 xs], .int .i64 3]) ∧ Below w.heap.size w w') := fun w T => by rw [e1, e2, e3]; exact to_no c n w hf
    have T2 : Hid (∀ w, Calls Tryd.prog 28 #[.agg #[.int .i64 c, .int .i64 n]] w fun e w' => e = .returned (.tuple #[.agg #[.int .i64 xh, .int .u64 xl, .int .i64 xs], .int .i64 3]) ∧ Below w.heap.size w w') := fun w => by rw [e1, e2, e3]; exact dto_no c n w hf
    clear e1 e2 e3 hf
    have VD_0 := (show Hid _ from (va_new w [.int .i64 h, .int .u64 l, .int .i64 s] 60).alloc (.cells (mcl c n).toArray 23))
    have VM_0 := (show Hid _ from va_new (w.alloc (.cells #[.int .i64 h, .int .u64 l, .int .i64 s] 60)) (mcl c n) 23)
    rw [show (w.alloc (.cells #[.int .i64 h, .int .u64 l, .int .i64 s] 60)).heap.size = w.heap.size + 1 by simp] at VM_0
    have CU_0 := (show Hid _ from (T.alloc (.cells #[.int .i64 h, .int .u64 l, .int .i64 s] 60)).alloc (.cells (mcl c n).toArray 23))
    have CN_0 := (show Hid _ from (N.alloc (.cells #[.int .i64 h, .int .u64 l, .int .i64 s] 60)).alloc (.cells (mcl c n).toArray 23))
    have BX := (Below.refl w.heap.size w).alloc (Nat.le_refl _) (.cells #[.int .i64 h, .int .u64 l, .int .i64 s] 60)
    have BB_0 := (show Hid _ from BX.alloc BX.size (.cells (mcl c n).toArray 23))
    obtain ⟨mc, mn, me, o1, o2⟩ := of_both h l s cu md wh wl
    have Q1 := (show Hid _ from o1)
    have Q2 := (show Hid _ from o2)
    clear o1 o2 T N BX
    go_enter Tryd.func6, Tryd.ntmps6
    go_wp2_with (refine ldA rfl 60 _ rfl w.heap.size (by rfl) [.int .i64 h, .int .u64 l, .int .i64 s] _ (VD_0.out) _ Tryd.underlying60 rfl infoD ?_)
    refine (Q1.out _ CU_0.out).mono ?_
    rintro e w1 ⟨rfl, b1⟩
    have VD_1 := (show Hid _ from (VD_0.out).step b1)
    have VM_1 := (show Hid _ from (VM_0.out).step b1)
    have CU_1 := (show Hid _ from (CU_0.out).step b1)
    have CN_1 := (show Hid _ from (CN_0.out).step b1)
    have BB_1 := (show Hid _ from BB_0.out.trans (b1.mono BB_0.out.size))
    clear b1 VD_0 VM_0 CU_0 CN_0 BB_0
    go_wp2_with (refine ldA rfl 60 _ rfl w.heap.size (by rfl) [.int .i64 h, .int .u64 l, .int .i64 s] _ (VD_1.out.alloc _) _ Tryd.underlying60 rfl infoD ?_)
    refine (Q2.out _).mono ?_
    rintro e w2 ⟨rfl, b2⟩
    have VD_2 := (show Hid _ from (VD_1.out.alloc (.cells #[.int .i64 mc, .int .i64 mn] 23)).step b2)
    have VM_2 := (show Hid _ from (VM_1.out.alloc (.cells #[.int .i64 mc, .int .i64 mn] 23)).step b2)
    have CU_2 := (show Hid _ from (CU_1.out.alloc (.cells #[.int .i64 mc, .int .i64 mn] 23)).step b2)
    have CN_2 := (show Hid _ from (CN_1.out.alloc (.cells #[.int .i64 mc, .int .i64 mn] 23)).step b2)
    have X1_2 := (show Hid _ from (va_new w1 [.int .i64 mc, .int .i64 mn] 23).step b2)
    have BB_2 := (show Hid _ from BB_1.out.trans ((below_over b2).mono BB_1.out.size))
    clear b2 VD_1 VM_1 CU_1 CN_1 BB_1
    generalize w1.heap.size = pX1 at *
    go_wp2_with (refine ldA rfl 23 _ rfl (w.heap.size + 1) (by rfl) (mcl c n) _ (VM_2.out.alloc _) _ Tryd.underlying23 rfl infoM ?_)
    refine (T1.out _ (CU_2.out.alloc _)).mono ?_
    rintro e w3 ⟨rfl, b3⟩
    have VD_3 := (show Hid _ from (VD_2.out.alloc (.cells #[.int .i64 mc, .int .i64 mn] 23)).step b3)
    have VM_3 := (show Hid _ from (VM_2.out.alloc (.cells #[.int .i64 mc, .int .i64 mn] 23)).step b3)
    have CU_3 := (show Hid _ from (CU_2.out.alloc (.cells #[.int .i64 mc, .int .i64 mn] 23)).step b3)
    have CN_3 := (show Hid _ from (CN_2.out.alloc (.cells #[.int .i64 mc, .int .i64 mn] 23)).step b3)
    have X1_3 := (show Hid _ from (X1_2.out.alloc (.cells #[.int .i64 mc, .int .i64 mn] 23)).step b3)
    have X2_3 := (show Hid _ from (va_new w2 [.int .i64 mc, .int .i64 mn] 23).step b3)
    have BB_3 := (show Hid _ from BB_2.out.trans ((below_over b3).mono BB_2.out.size))
    clear b3 VD_2 VM_2 CU_2 CN_2 X1_2 BB_2
    generalize w2.heap.size = pX2 at *
    go_wp2_with (refine ldA rfl 23 _ rfl (w.heap.size + 1) (by rfl) (mcl c n) _ (VM_3.out.alloc _) _ Tryd.underlying23 rfl infoM ?_)
    refine (T2.out _).mono ?_
    rintro e w4 ⟨rfl, b4⟩
    have VD_4 := (show Hid _ from (VD_3.out.alloc (.cells #[.int .i64 xh, .int .u64 xl, .int .i64 xs] 60)).step b4)
    have VM_4 := (show Hid _ from (VM_3.out.alloc (.cells #[.int .i64 xh, .int .u64 xl, .int .i64 xs] 60)).step b4)
    have CU_4 := (show Hid _ from (CU_3.out.alloc (.cells #[.int .i64 xh, .int .u64 xl, .int .i64 xs] 60)).step b4)
    have CN_4 := (show Hid _ from (CN_3.out.alloc (.cells #[.int .i64 xh, .int .u64 xl, .int .i64 xs] 60)).step b4)
    have X1_4 := (show Hid _ from (X1_3.out.alloc (.cells #[.int .i64 xh, .int .u64 xl, .int .i64 xs] 60)).step b4)
    have X2_4 := (show Hid _ from (X2_3.out.alloc (.cells #[.int .i64 xh, .int .u64 xl, .int .i64 xs] 60)).step b4)
    have Y1_4 := (show Hid _ from (va_new w3 [.int .i64 xh, .int .u64 xl, .int .i64 xs] 60).step b4)
    have BB_4 := (show Hid _ from BB_3.out.trans ((below_over b4).mono BB_3.out.size))
    clear b4 VD_3 VM_3 CU_3 CN_3 X1_3 X2_3 BB_3
    generalize w3.heap.size = pY1 at *
    go_wp2_with fail
    refine (awake05 _ (CU_4.out.alloc _) (CN_4.out.alloc _)).mono ?_
    rintro e w5 ⟨rfl, b5⟩
    have VD_5 := (show Hid _ from (VD_4.out.alloc (.cells #[.int .i64 xh, .int .u64 xl, .int .i64 xs] 60)).step b5)
    have VM_5 := (show Hid _ from (VM_4.out.alloc (.cells #[.int .i64 xh, .int .u64 xl, .int .i64 xs] 60)).step b5)
    have CU_5 := (show Hid _ from (CU_4.out.alloc (.cells #[.int .i64 xh, .int .u64 xl, .int .i64 xs] 60)).step b5)
    have CN_5 := (show Hid _ from (CN_4.out.alloc (.cells #[.int .i64 xh, .int .u64 xl, .int .i64 xs] 60)).step b5)
    have X1_5 := (show Hid _ from (X1_4.out.alloc (.cells #[.int .i64 xh, .int .u64 xl, .int .i64 xs] 60)).step b5)
    have X2_5 := (show Hid _ from (X2_4.out.alloc (.cells #[.int .i64 xh, .int .u64 xl, .int .i64 xs] 60)).step b5)
    have Y1_5 := (show Hid _ from (Y1_4.out.alloc (.cells #[.int .i64 xh, .int .u64 xl, .int .i64 xs] 60)).step b5)
    have Y2_5 := (show Hid _ from (va_new w4 [.int .i64 xh, .int .u64 xl, .int .i64 xs] 60).step b5)
    have BB_5 := (show Hid _ from BB_4.out.trans ((below_over b5).mono BB_4.out.size))
    clear b5 VD_4 VM_4 CU_4 CN_4 X1_4 X2_4 Y1_4 BB_4
    generalize w4.heap.size = pY2 at *
    have X10 := X1_5.out.cell 0 (v := .int .i64 mc) rfl
    have X11 := X1_5.out.cell 1 (v := .int .i64 mn) rfl
    have X20 := X2_5.out.cell 0 (v := .int .i64 mc) rfl
    have X21 := X2_5.out.cell 1 (v := .int .i64 mn) rfl
    have Y10 := Y1_5.out.cell 0 (v := .int .i64 xh) rfl
    have Y11 := Y1_5.out.cell 1 (v := .int .u64 xl) rfl
    have Y12 := Y1_5.out.cell 2 (v := .int .i64 xs) rfl
    have Y20 := Y2_5.out.cell 0 (v := .int .i64 xh) rfl
    have Y21 := Y2_5.out.cell 1 (v := .int .u64 xl) rfl
    have Y22 := Y2_5.out.cell 2 (v := .int .i64 xs) rfl
    have q1 := fun w => eqM1 w mc mn
    have q2 := fun w => eqD w xh xl xs
    go_wp2_with fail
    exact bodyPost_ret (v := .bool true) (by simp [results, Tryd.results6, go_sem]) rfl ⟨rfl, BB_5.out⟩
end Go.Proofs.YtcnigpkmedgbdaaDoor
