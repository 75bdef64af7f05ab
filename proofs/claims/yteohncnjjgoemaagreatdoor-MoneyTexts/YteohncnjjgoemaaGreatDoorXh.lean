/- money: the document's Write of amounts. -/
import Derived.Test.YteohncnjjgoemaaGreatDoorXf
import Derived.Test.YteohncnjjgoemaaGreatDoorN7
import Derived.Test.YteohncnjjgoemaaGreatDoorZb
namespace Go.Proofs.YteohncnjjgoemaaGreatDoor
open Go.RowKit
set_option linter.unusedVariables false
set_option linter.unusedSimpArgs false

set_option maxHeartbeats 4000000 in
set_option maxRecDepth 100000 in
theorem rwm_ok (i : Nat) (n : Int) (w : World) (hi : i < 4) (hn : -10000000000000 ≤ n ∧ n ≤ 10000000000000) (tt : ByteArray) (hsz : tt.size ≤ 41) (hW : ∀ w, Calls Tryz.prog 17 #[.agg (dcs n (cdg i)).toArray] w fun e w' => e = .returned (.string tt) ∧ Below w.heap.size w w') :
    Calls Tryz.prog 7 #[.agg (mcl i n).toArray] w fun e w' => e = .returned (.string (nmb i ++ ⟨#[32]⟩ ++ tt)) ∧ Below w.heap.size w w' := by
  have HW := (show Hid _ from hW)
  have HT := (show Hid _ from fun w => dto_ok i n w hi hn)
  have HNM := (show Hid _ from fun w => name_ok i w hi)
  have hs3 := nmb_size hi
  have VM_0 := (show Hid _ from va_new w (mcl i n) 23)
  have BB_0 := (show Hid _ from (Below.refl w.heap.size w).alloc (Nat.le_refl _) (.cells (mcl i n).toArray 23))
  clear hW hn
  go_enter Tryz.func7, Tryz.ntmps7
  go_wp2_with (refine ldA rfl 23 _ rfl w.heap.size (by rfl) (mcl i n) _ VM_0.out _ Tryz.underlying23 rfl infoM ?_)
  refine (HT.out _).mono ?_
  rintro e w1 ⟨rfl, b1⟩
  have VM_1 := (show Hid _ from (VM_0.out.step b1).alloc (.cells (dcs n (cdg i)).toArray 41))
  have VX_1 := (show Hid _ from va_new w1 (dcs n (cdg i)) 41)
  have BB_1 := (show Hid _ from (BB_0.out.trans (b1.mono BB_0.out.size)).alloc (BB_0.out.trans (b1.mono BB_0.out.size)).size (.cells (dcs n (cdg i)).toArray 41))
  clear b1 VM_0 BB_0
  unfold dcs
  go_upto_region 2 with fail
  change Code.wp _ _ _ _ (w1.alloc (.cells (dcs n (cdg i)).toArray 41))
  change Hid (VA (w1.alloc (.cells (dcs n (cdg i)).toArray 41)) _ _ _) at VX_1
  generalize w1.alloc (.cells (dcs n (cdg i)).toArray 41) = w2 at *
  generalize w1.heap.size = q at *
  refine wp_region_noPanic ?_
  refine wp_region_held_drew (S := fun w' => VA w' w.heap.size (mcl i n) 23 ∧ VA w' q (dcs n (cdg i)) 41) (by kernel_rfl) ⟨VM_1.out.drew, VX_1.out.drew⟩ (fun hHeld => ?_)
  refine takeD 0 10 (.pointer (some ⟨w.heap.size, 0, none⟩)) (by exact rfl) rfl (by kernel_rfl) (by kernel_rfl) (by kernel_rfl) (fun _ _ _ h => h) (Or.inl ⟨by rfl, ?_⟩) (by assumption) ?_
  · intro wq hS
    go_simp
  try simp only [Act.put, List.setIfInBounds_toArray, List.set_cons_zero, List.set_cons_succ]
  refine takeD 1 11 (.int .i64 (i : Int)) (by exact rfl) rfl (by kernel_rfl) (by kernel_rfl) (by kernel_rfl) (fun _ _ _ h => h) (Or.inl ⟨by rfl, ?_⟩) (by assumption) ?_
  · intro wq hS
    have h1 := hS.1.cell 0 (v := .int .i64 (i : Int)) rfl
    go_simp
  try simp only [Act.put, List.setIfInBounds_toArray, List.set_cons_zero, List.set_cons_succ]
  refine takeD 4 14 (.agg (dcs n (cdg i)).toArray) (by exact rfl) rfl (by kernel_rfl) (by kernel_rfl) (by kernel_rfl) (fun _ _ _ h => h) (Or.inl ⟨by rfl, ?_⟩) (by assumption) ?_
  · intro wq hS
    have h0 := hS.2.cell 0 (v := .int .i64 (dhi n)) rfl
    have h1 := hS.2.cell 1 (v := .int .u64 (dlo n)) rfl
    have h2 := hS.2.cell 2 (v := .int .i64 (cdg i : Int)) rfl
    go_simp
    rfl
  try simp only [Act.put, List.setIfInBounds_toArray, List.set_cons_zero, List.set_cons_succ]
  clear hHeld
  have VM_2 := (show Hid _ from VM_1.out.drew)
  have VX_2 := (show Hid _ from VX_1.out.drew)
  have BB_2 := (show Hid _ from BB_1.out.drew)
  clear VM_1 VX_1 BB_1
  generalize w2.drew = w3 at *
  refine wpAnyH_ready (rs := [2]) (by kernel_rfl) (by simp) ?_
  refine AllReadyH.cons (by exact rfl) (fun K hK => ?_) AllReadyH.nil
  go_simp
  refine (HNM.out _).mono ?_
  rintro e wn ⟨rfl, hwn⟩
  obtain rfl := hwn.symm
  clear hwn
  go_wp2_with fail
  refine hK.out _ _ ⟨VM_2.out, VX_2.out⟩ (fun hHeld => ?_)
  try simp only [Act.put, List.setIfInBounds_toArray, List.set_cons_zero, List.set_cons_succ]
  clear hK K
  refine takeD 3 13 (.string (nmb i ++ ⟨#[32]⟩)) (by exact rfl) rfl (by kernel_rfl) (by kernel_rfl) (by kernel_rfl) (fun _ _ _ h => h) (Or.inl ⟨by rfl, ?_⟩) (by assumption) ?_
  · intro wq hS
    go_simp
  try simp only [Act.put, List.setIfInBounds_toArray, List.set_cons_zero, List.set_cons_succ]
  clear hHeld
  refine wpAnyH_ready (rs := [5]) (by kernel_rfl) (by simp) ?_
  refine AllReadyH.cons (by exact rfl) (fun K hK => ?_) AllReadyH.nil
  go_simp
  refine (HW.out _).mono ?_
  rintro e w4 ⟨rfl, b4⟩
  have VM_4 := (show Hid _ from VM_2.out.step b4)
  have VX_4 := (show Hid _ from VX_2.out.step b4)
  have BB_4 := (show Hid _ from BB_2.out.trans (b4.mono BB_2.out.size))
  clear b4
  go_wp2_with fail
  refine hK.out _ _ ⟨VM_4.out, VX_4.out⟩ (fun hHeld => ?_)
  try simp only [Act.put, List.setIfInBounds_toArray, List.set_cons_zero, List.set_cons_succ]
  clear hK K
  refine takeD 6 16 (.string (nmb i ++ ⟨#[32]⟩ ++ tt)) (by exact rfl) rfl (by kernel_rfl) (by kernel_rfl) (by kernel_rfl) (fun _ _ _ h => h) (Or.inl ⟨by rfl, ?_⟩) (by assumption) ?_
  · intro wq hS
    go_simp
    omega
  try simp only [Act.put, List.setIfInBounds_toArray, List.set_cons_zero, List.set_cons_succ]
  refine takeD 7 2 (.string (nmb i ++ ⟨#[32]⟩ ++ tt)) (by exact rfl) rfl (by kernel_rfl) (by kernel_rfl) (by kernel_rfl) (fun _ _ _ h => h) (Or.inl ⟨by rfl, ?_⟩) (by assumption) ?_
  · intro wq hS
    go_simp
  try simp only [Act.put, List.setIfInBounds_toArray, List.set_cons_zero, List.set_cons_succ]
  clear hHeld
  refine wpAnyH_done (by kernel_rfl) ?_ _
  refine NoPanic.normal ?_
  go_wp2_with fail
  go_ret
  exact ⟨rfl, BB_4.out⟩
end Go.Proofs.YteohncnjjgoemaaGreatDoor
