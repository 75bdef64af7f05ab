/- money: the contracts of To and Of. -/
import Derived.Test.YtbgglghapjfdeaaDoorBa
import Derived.Test.YtbgglghapjfdeaaDoorVc
import Derived.Deep.DeepCutAuto
namespace Go.Proofs.YtbgglghapjfdeaaDoor
open Go.RowKit
set_option linter.unusedVariables false
attribute [local go_sem] ext_cell ext_frozen ext_drew ext_of_drew ext_of_drewN ext_setCell ext_lt ext_lt1 ext_lt2 ext_lt3 lt_n2 lt_n3 lt_n4 lt_n5 lt_n6

/-- a decimal's cells -/
def dcs (c : Int) (s : Nat) : List Value := [.int .i64 (dhi c), .int .u64 (dlo c), .int .i64 s]
theorem infoD : (Tryd.prog.info? 65).map (·.size) = some 3 := by kernel_rfl
theorem dcs_one (c : Int) (s : Nat) : ∀ v ∈ dcs c s, v.oneCell' = true := by intro v hv; simp [dcs] at hv; rcases hv with rfl | rfl | rfl <;> rfl
def zdl : List Value := [.int .i64 0, .int .u64 0, .int .i64 0]
/-- all of a struct is stored, in a drawn region -/
theorem stAw {w : World} {y : Nat → Option Bool} {o : Oper} {a : Act} {Q : Exit → Act → World → Prop} {K : Act → World → Prop} {k0 : Prop} (hgd : Region.wanted o y = true) (t : TypeId) (x z : Operand) (ho : o.op = .store t x z)
    (p : Nat) (hx : a.eval x = .pointer (some ⟨p, 0, none⟩)) (cs ds : List Value) (hy : a.eval z = .agg ds.toArray) (T : TypeId) (h : VA w p cs T) (hi : (Tryd.prog.info? t).map (·.size) = some ds.length) (hl : cs.length = ds.length) (h1 : ∀ v ∈ ds, v.oneCell' = true)
    (k : ∀ w', VA w' p ds T → Upd p w w' → K (a.put o.dst undef) w') : if Region.wanted o y = true then o.wp Tryd.prog a w K Q else k0 := by
  rw [if_pos hgd]
  have hrun := run_storeVar_row (P := Tryd.prog) w p T t cs.toArray ds.toArray h.blk (by simpa using hi) (by simpa using hl) (Array.all_eq_true_iff_forall_mem.2 (fun v hv => h1 v (by simpa using hv)))
  unfold Oper.wp execOp
  simp only [ho, hx, hy, Instr.storeAt, Instr.sureAddr, Sem.run_bind, Sem.run_pure, Result.andThen_ok, hrun]
  exact k _ ⟨setRow_heap w p _ _ _ _ h.blk⟩ (upd_setRow w p _)
theorem stAn {w : World} {y : Nat → Option Bool} {o : Oper} {a : Act} {Q : Exit → Act → World → Prop} {K : Act → World → Prop} {k0 : Prop} (hgd : Region.wanted o y = true) (hd : o.dst = none) (t : TypeId) (x z : Operand) (ho : o.op = .store t x z)
    (p : Nat) (hx : a.eval x = .pointer (some ⟨p, 0, none⟩)) (cs ds : List Value) (hy : a.eval z = .agg ds.toArray) (T : TypeId) (h : VA w p cs T) (hi : (Tryd.prog.info? t).map (·.size) = some ds.length) (hl : cs.length = ds.length) (h1 : ∀ v ∈ ds, v.oneCell' = true)
    (k : ∀ w', VA w' p ds T → Upd p w w' → K a w') : if Region.wanted o y = true then o.wp Tryd.prog a w K Q else k0 := by
  refine stAw hgd t x z ho p hx cs ds hy T h hi hl h1 (fun w' v u => ?_)
  rw [hd]
  exact k w' v u
set_option maxHeartbeats 1000000 in
set_option maxRecDepth 100000 in
theorem To_ok (i : Nat) (n : Int) (w : World) (T : Cu w) (hi : i < 4) (hn : -10000000000000 ≤ n ∧ n ≤ 10000000000000) :
    Calls Tryd.prog 26 #[.agg (mcl i n).toArray] w fun e w' => e = .returned (.tuple #[.agg (dcs n (cdg i)).toArray, .int .i64 0]) ∧ Below w.heap.size w w' := by
  have hm : mform i n = true := by unfold mform; rw [wi_yes (by omega) (by omega), wi_yes hn.1 hn.2]; rfl
  have VM_0 := (show Hid _ from (va_new w (mcl i n) 23).alloc (.cells zdl.toArray 65))
  have VR_0 := (show Hid _ from va_new (w.alloc (.cells (mcl i n).toArray 23)) zdl 65)
  rw [show (w.alloc (.cells (mcl i n).toArray 23)).heap.size = w.heap.size + 1 by simp] at VR_0
  have BB_0 := (show Hid _ from ((Below.refl w.heap.size w).alloc (Nat.le_refl _) (.cells (mcl i n).toArray 23)).alloc (by simp) (.cells zdl.toArray 65))
  have CU_0 := (show Hid _ from (T.alloc (.cells (mcl i n).toArray 23)).alloc (.cells zdl.toArray 65))
  have HP : Hid (0 < w.heap.size) := T.lt
  have HN := (show Hid _ from hn)
  have HD : Hid ((cdg i : Int) ≤ 18) := (by have := cdg_le i; omega : (cdg i : Int) ≤ 18)
  clear T hn
  go_enter Tryd.func26, Tryd.ntmps26
  go_wp2_with (refine ldA rfl 23 _ rfl w.heap.size (by rfl) (mcl i n) _ VM_0.out _ Tryd.underlying23 rfl infoM ?_)
  refine (mcheck_ok i n _).mono ?_
  rintro e w1 ⟨rfl, b1⟩
  have VM_1 := (show Hid _ from VM_0.out.step b1)
  have VR_1 := (show Hid _ from VR_0.out.step b1)
  have CU_1 := (show Hid _ from CU_0.out.step b1)
  have BB_1 := (show Hid _ from BB_0.out.trans (b1.mono BB_0.out.size))
  clear b1 VM_0 VR_0 CU_0 BB_0
  rw [hm]
  clear hm
  go_upto_region 4 with fail
  refine wp_region_noPanic ?_
  refine wp_region_held_drew (S := fun w' => VA w' w.heap.size (mcl i n) 23 ∧ Cu w') (by kernel_rfl) ⟨VM_1.out.drew, CU_1.out.drew⟩ (fun hHeld => ?_)
  refine takeD 0 11 (.pointer (some ⟨w.heap.size, 1, none⟩)) (by exact rfl) rfl (by kernel_rfl) (by kernel_rfl) (by kernel_rfl) (fun _ _ _ h => h) (Or.inl ⟨by rfl, ?_⟩) (by assumption) ?_
  · intro wq hS
    go_simp
  try simp only [Act.put, List.setIfInBounds_toArray, List.set_cons_zero, List.set_cons_succ]
  refine takeD 1 12 (.int .i64 n) (by exact rfl) rfl (by kernel_rfl) (by kernel_rfl) (by kernel_rfl) (fun _ _ _ h => h) (Or.inl ⟨by rfl, ?_⟩) (by assumption) ?_
  · intro wq hS
    have h1 := hS.1.cell 1 (v := .int .i64 n) rfl
    go_simp
  try simp only [Act.put, List.setIfInBounds_toArray, List.set_cons_zero, List.set_cons_succ]
  refine takeD 2 13 (.pointer (some ⟨w.heap.size, 0, none⟩)) (by exact rfl) rfl (by kernel_rfl) (by kernel_rfl) (by kernel_rfl) (fun _ _ _ h => h) (Or.inl ⟨by rfl, ?_⟩) (by assumption) ?_
  · intro wq hS
    go_simp
  try simp only [Act.put, List.setIfInBounds_toArray, List.set_cons_zero, List.set_cons_succ]
  refine takeD 3 14 (.int .i64 (i : Int)) (by exact rfl) rfl (by kernel_rfl) (by kernel_rfl) (by kernel_rfl) (fun _ _ _ h => h) (Or.inl ⟨by rfl, ?_⟩) (by assumption) ?_
  · intro wq hS
    have h1 := hS.1.cell 0 (v := .int .i64 (i : Int)) rfl
    go_simp
  try simp only [Act.put, List.setIfInBounds_toArray, List.set_cons_zero, List.set_cons_succ]
  refine takeD 4 15 (.pointer (some ⟨0, i * 2, none⟩)) (by exact rfl) rfl (by kernel_rfl) (by kernel_rfl) (by kernel_rfl) (fun _ _ _ h => h) (Or.inl ⟨by rfl, ?_⟩) (by assumption) ?_
  · intro wq hS
    go_simp
    intro h; omega
  try simp only [Act.put, List.setIfInBounds_toArray, List.set_cons_zero, List.set_cons_succ]
  refine takeD 5 16 (.pointer (some ⟨0, i * 2 + 1, none⟩)) (by exact rfl) rfl (by kernel_rfl) (by kernel_rfl) (by kernel_rfl) (fun _ _ _ h => h) (Or.inl ⟨by rfl, ?_⟩) (by assumption) ?_
  · intro wq hS
    go_simp
  try simp only [Act.put, List.setIfInBounds_toArray, List.set_cons_zero, List.set_cons_succ]
  refine takeD 6 17 (.int .i64 (cdg i : Int)) (by exact rfl) rfl (by kernel_rfl) (by kernel_rfl) (by kernel_rfl) (fun _ _ _ h => h) (Or.inl ⟨by rfl, ?_⟩) (by assumption) ?_
  · intro wq hS
    have h1 := hS.2.row i hi
    go_simp
  try simp only [Act.put, List.setIfInBounds_toArray, List.set_cons_zero, List.set_cons_succ]
  have VM_z := (show Hid _ from VM_1.out.drew)
  have VR_z := (show Hid _ from VR_1.out.drew)
  have CU_z := (show Hid _ from CU_1.out.drew)
  have BB_z := (show Hid _ from BB_1.out.drew)
  clear VM_1 VR_1 CU_1 BB_1 hHeld
  generalize w1.drew = wz at *
  refine wpAnyH_ready (rs := [7]) (by kernel_rfl) (by simp) ?_
  refine AllReadyH.cons (by exact rfl) (fun K hK => ?_) AllReadyH.nil
  go_simp
  refine (of_ok n (cdg i) _ (by have := HN.out; omega) (by have := HN.out; omega) HD.out).mono ?_
  rintro e w2 ⟨rfl, b2⟩
  have VM_2 := (show Hid _ from VM_z.out.step b2)
  have VR_2 := (show Hid _ from VR_z.out.step b2)
  have CU_2 := (show Hid _ from CU_z.out.step b2)
  have BB_2 := (show Hid _ from BB_z.out.trans (b2.mono BB_z.out.size))
  clear b2
  go_wp2_with fail
  refine hK.out _ _ (⟨VM_2.out, CU_2.out⟩) (fun hHeld => ?_)
  try simp only [Act.put, List.setIfInBounds_toArray, List.set_cons_zero, List.set_cons_succ]
  clear hK K
  refine takeD 8 19 (.agg (dcs n (cdg i)).toArray) (by exact rfl) rfl (by kernel_rfl) (by kernel_rfl) (by kernel_rfl) (fun _ _ _ h => h) (Or.inl ⟨by rfl, ?_⟩) (by assumption) ?_
  · intro wq hS
    go_simp
    rfl
  try simp only [Act.put, List.setIfInBounds_toArray, List.set_cons_zero, List.set_cons_succ]
  refine takeD 9 20 (.int .i64 0) (by exact rfl) rfl (by kernel_rfl) (by kernel_rfl) (by kernel_rfl) (fun _ _ _ h => h) (Or.inl ⟨by rfl, ?_⟩) (by assumption) ?_
  · intro wq hS
    go_simp
  try simp only [Act.put, List.setIfInBounds_toArray, List.set_cons_zero, List.set_cons_succ]
  clear hHeld
  refine wpAnyH_ready (rs := [10]) (by kernel_rfl) (by simp) ?_
  refine AllReadyH.cons (by exact rfl) (fun K hK => ?_) AllReadyH.nil
  refine stAn (by rfl) (by rfl) 65 _ _ (by rfl) (w.heap.size + 1) (by rfl) zdl (dcs n (cdg i)) (by rfl) 65 VR_2.out infoD rfl (dcs_one _ _) ?_
  intro w9 v9 u9
  refine hK.out _ _ ⟨VM_2.out.upd u9 (by omega), CU_2.out.upd u9 (by omega)⟩ (fun hHeld => ?_)
  clear hK K
  refine takeD 11 3 (.int .i64 0) (by exact rfl) rfl (by kernel_rfl) (by kernel_rfl) (by kernel_rfl) (fun _ _ _ h => h) (Or.inl ⟨by rfl, ?_⟩) (by assumption) ?_
  · intro wq hS
    go_simp
  try simp only [Act.put, List.setIfInBounds_toArray, List.set_cons_zero, List.set_cons_succ]
  clear hHeld
  refine wpAnyH_done (by kernel_rfl) ?_ _
  refine NoPanic.normal ?_
  have hld := run_loadVar_row (P := Tryd.prog) w9 (w.heap.size + 1) 65 65 _ (0, 0) _ v9.blk Tryd.underlying65 rfl infoD
  go_wp2_with fail
  exact bodyPost_ret (v := .tuple #[.agg (dcs n (cdg i)).toArray, .int .i64 0]) (by simp [results, Tryd.results26, asAddr, hld]) rfl ⟨rfl, u9.bel BB_2.out (by omega)⟩
end Go.Proofs.YtbgglghapjfdeaaDoor
