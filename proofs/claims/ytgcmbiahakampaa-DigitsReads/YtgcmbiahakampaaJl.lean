/- digits: read, where it answers. -/
import Derived.Test.YtgcmbiahakampaaJk
namespace Go.Proofs.Ytgcmbiahakampaa
open Go.RowKit
set_option linter.unusedVariables false
set_option linter.unusedSimpArgs false

def zdl : List Value := [.int .i64 0, .int .u64 0, .int .i64 0]
def dml (m0 m1 sc : Nat) : List Value := [.int .i64 (m1 : Int), .int .u64 (m0 : Int), .int .i64 (sc : Int)]
theorem dml_one (a b c : Nat) : ∀ v ∈ dml a b c, v.oneCell' = true := by intro v hv; simp [dml] at hv; rcases hv with rfl | rfl | rfl <;> rfl
/-- all of a struct is stored, in a drawn region -/
theorem stAw {w : World} {y : Nat → Option Bool} {o : Oper} {a : Act} {Q : Exit → Act → World → Prop} {K : Act → World → Prop} {k0 : Prop} (hgd : Region.wanted o y = true) (t : TypeId) (x z : Operand) (ho : o.op = .store t x z)
    (p : Nat) (hx : a.eval x = .pointer (some ⟨p, 0, none⟩)) (cs ds : List Value) (hy : a.eval z = .agg ds.toArray) (T : TypeId) (h : VA w p cs T) (hi : (Try.prog.info? t).map (·.size) = some ds.length) (hl : cs.length = ds.length) (h1 : ∀ v ∈ ds, v.oneCell' = true)
    (k : ∀ w', VA w' p ds T → Upd p w w' → K (a.put o.dst undef) w') : if Region.wanted o y = true then o.wp Try.prog a w K Q else k0 := by
  rw [if_pos hgd]
  have hrun := run_storeVar_row (P := Try.prog) w p T t cs.toArray ds.toArray h.blk (by simpa using hi) (by simpa using hl) (Array.all_eq_true_iff_forall_mem.2 (fun v hv => h1 v (by simpa using hv)))
  unfold Oper.wp execOp
  simp only [ho, hx, hy, Instr.storeAt, Instr.sureAddr, Sem.run_bind, Sem.run_pure, Result.andThen_ok, hrun]
  exact k _ ⟨setRow_heap w p _ _ _ _ h.blk⟩ (upd_setRow w p _)
theorem stAn {w : World} {y : Nat → Option Bool} {o : Oper} {a : Act} {Q : Exit → Act → World → Prop} {K : Act → World → Prop} {k0 : Prop} (hgd : Region.wanted o y = true) (hd : o.dst = none) (t : TypeId) (x z : Operand) (ho : o.op = .store t x z)
    (p : Nat) (hx : a.eval x = .pointer (some ⟨p, 0, none⟩)) (cs ds : List Value) (hy : a.eval z = .agg ds.toArray) (T : TypeId) (h : VA w p cs T) (hi : (Try.prog.info? t).map (·.size) = some ds.length) (hl : cs.length = ds.length) (h1 : ∀ v ∈ ds, v.oneCell' = true)
    (k : ∀ w', VA w' p ds T → Upd p w w' → K a w') : if Region.wanted o y = true then o.wp Try.prog a w K Q else k0 := by
  refine stAw hgd t x z ho p hx cs ds hy T h hi hl h1 (fun w' v u => ?_)
  rw [hd]
  exact k w' v u
set_option maxHeartbeats 4000000 in
set_option maxRecDepth 100000 in
theorem read_pos (s : ByteArray) (neg : Bool) (i j M1 f M sc : Nat) (b1 b : Bool) (w : World) (hP : Parts s neg i j M1 f M sc b1 b) (h : f = s.size) (hn : neg = false) (hb : b = false) (hM : M < 170141183460469231731687303715884105728) (hsc : (sc : Int) ≤ 18) :
    Calls Try.prog 20 #[.string s] w fun e w' => e = .returned (.agg (dcs ((M : Int)) sc).toArray) ∧ Below w.heap.size w w' := by
  subst hn
  subst hb
  have P : Hid (Parts s false i j M1 f M sc b1 false) := hP
  clear hP
  have hf : ¬ (f : Int) < s.size := by omega
  obtain ⟨m0, hm0⟩ : ∃ x, x = M % 18446744073709551616 := ⟨_, rfl⟩
  obtain ⟨m1, hm1⟩ : ∃ x, x = M / 18446744073709551616 := ⟨_, rfl⟩
  have HM : Hid (m0 = M % 18446744073709551616 ∧ m1 = M / 18446744073709551616) := ⟨hm0, hm1⟩
  have hm1b : m1 < 9223372036854775808 := by omega
  have hid : IsD (M : Int) (m1 : Int) (m0 : Int) := ⟨by unfold dhi; omega, by unfold dlo; omega⟩
  have hir : InR (M : Int) := ⟨by rw [M127_eq]; omega, by rw [M127_eq]; omega⟩
  have ev : dcs (M : Int) sc = dml m0 m1 sc := by unfold dcs dml; rw [← hid.eh, ← hid.el]
  rw [ev]
  clear ev
  clear hm0 hm1 hid hir hM
  have ez : (w.alloc (.cells #[.int .i64 0, .int .u64 0, .int .i64 0] 24)).heap.size = w.heap.size + 1 := by simp
  have V0 := va_new (w.alloc (.cells #[.int .i64 0, .int .u64 0, .int .i64 0] 24)) (rc s 0 0 0 false) 85
  rw [ez] at V0
  have B0 := ((Below.refl w.heap.size w).alloc (Nat.le_refl _) (.cells #[.int .i64 0, .int .u64 0, .int .i64 0] 24)).alloc (by simp) (.cells (rc s 0 0 0 false).toArray 85)
  have VZ := (va_new w [.int .i64 0, .int .u64 0, .int .i64 0] 24).alloc (.cells (rc s 0 0 0 false).toArray 85)
  go_enter Try.func20, Try.ntmps20
  go_upto_region 2 with fail
  change Code.wp _ _ _ _ ((w.alloc (.cells #[.int .i64 0, .int .u64 0, .int .i64 0] 24)).alloc (.cells (rc s 0 0 0 false).toArray 85))
  change VA ((w.alloc (.cells #[.int .i64 0, .int .u64 0, .int .i64 0] 24)).alloc (.cells (rc s 0 0 0 false).toArray 85)) w.heap.size _ _ at VZ
  obtain ⟨r, hr⟩ : ∃ r, r = w.heap.size + 1 := ⟨_, rfl⟩
  rw [← hr] at V0
  rw [← hr]
  have HRr : Hid (w.heap.size < r) := (by omega : w.heap.size < r)
  have HV0 : Hid (RD ((w.alloc (.cells #[.int .i64 0, .int .u64 0, .int .i64 0] 24)).alloc (.cells (rc s 0 0 0 false).toArray 85)) r s 0 0 false) := V0
  have HB0 := (show Hid _ from B0)
  have HZ0 := (show Hid _ from VZ)
  clear V0 B0 VZ ez hr
  generalize (w.alloc (.cells #[.int .i64 0, .int .u64 0, .int .i64 0] 24)).alloc (.cells (rc s 0 0 0 false).toArray 85) = w0 at *
  go_wp2_with fail
  refine (P.out.tk r _ HV0.out).mono ?_
  rintro e w1 ⟨rfl, v, bb⟩
  have HV1 : Hid (RD w1 r s i 0 false) := v
  have HB1 := (show Hid _ from HB0.out.trans (bb.mono (Nat.le_of_lt HRr.out)))
  have HZ1 : Hid (VA w1 w.heap.size [.int .i64 0, .int .u64 0, .int .i64 0] 24) := ⟨by rw [bb.block w.heap.size HRr.out]; exact HZ0.out.blk⟩
  clear v bb HV0 HB0 HZ0
  go_wp2_with fail
  refine (P.out.wh r _ HV1.out).mono ?_
  rintro e w2 ⟨rfl, v, bb⟩
  have HV2 : Hid (RD w2 r s j M1 b1) := v
  have HB2 := (show Hid _ from HB1.out.trans (bb.mono (Nat.le_of_lt HRr.out)))
  have HZ2 : Hid (VA w2 w.heap.size [.int .i64 0, .int .u64 0, .int .i64 0] 24) := ⟨by rw [bb.block w.heap.size HRr.out]; exact HZ1.out.blk⟩
  clear v bb HV1 HB1 HZ1
  go_wp2_with fail
  refine (P.out.fr r _ HV2.out).mono ?_
  rintro e w3 ⟨rfl, v, bb⟩
  have HV3 : Hid (RD w3 r s f M false) := v
  have HB3 := (show Hid _ from HB2.out.trans (bb.mono (Nat.le_of_lt HRr.out)))
  have HZ3 : Hid (VA w3 w.heap.size [.int .i64 0, .int .u64 0, .int .i64 0] 24) := ⟨by rw [bb.block w.heap.size HRr.out]; exact HZ2.out.blk⟩
  clear v bb HV2 HB2 HZ2
  have a1 := VA.cell HV3.out 1 (v := .int .i64 (f : Int)) rfl
  have HV4 : Hid (VA w3 r (rc s f m0 m1 false) 85) := (show VA w3 r (rc s f m0 m1 false) 85 by
    have := HV3.out
    unfold RD at this
    rw [← HM.out.1, ← HM.out.2] at this
    exact this)
  clear HV3
  have s4 := VA.cell HV4.out 4 (v := .bool false) rfl
  have V4 := VA.cell HV4.out 2 (v := .int .u64 (m0 : Int)) rfl
  have V5 := VA.cell HV4.out 3 (v := .int .u64 (m1 : Int)) rfl
  go_upto_region 11 with fail
  clear s4 V4 V5 a1
  refine wp_region_noPanic ?_
  refine wp_region_held_drew (S := fun w' => VA w' r (rc s f m0 m1 false) 85) (by kernel_rfl) HV4.out.drew (fun hHeld => ?_)
  refine takeD 0 44 (.pointer (some ⟨r, 0, none⟩)) (by exact rfl) rfl (by kernel_rfl) (by kernel_rfl) (by kernel_rfl) (fun _ _ _ h => h) (Or.inl ⟨by rfl, ?_⟩) (by assumption) ?_
  · intro wq hS
    go_simp
  try simp only [Act.put, List.setIfInBounds_toArray, List.set_cons_zero, List.set_cons_succ]
  refine takeD 1 45 (.pointer (some ⟨r, 0, none⟩)) (by exact rfl) rfl (by kernel_rfl) (by kernel_rfl) (by kernel_rfl) (fun _ _ _ h => h) (Or.inl ⟨by rfl, ?_⟩) (by assumption) ?_
  · intro wq hS
    go_simp
  try simp only [Act.put, List.setIfInBounds_toArray, List.set_cons_zero, List.set_cons_succ]
  refine takeD 2 46 (.pointer (some ⟨r, 2, none⟩)) (by exact rfl) rfl (by kernel_rfl) (by kernel_rfl) (by kernel_rfl) (fun _ _ _ h => h) (Or.inl ⟨by rfl, ?_⟩) (by assumption) ?_
  · intro wq hS
    go_simp
  try simp only [Act.put, List.setIfInBounds_toArray, List.set_cons_zero, List.set_cons_succ]
  refine takeD 3 47 (.pointer (some ⟨r, 3, none⟩)) (by exact rfl) rfl (by kernel_rfl) (by kernel_rfl) (by kernel_rfl) (fun _ _ _ h => h) (Or.inl ⟨by rfl, ?_⟩) (by assumption) ?_
  · intro wq hS
    go_simp
  try simp only [Act.put, List.setIfInBounds_toArray, List.set_cons_zero, List.set_cons_succ]
  refine takeD 4 48 (.int .u64 (m1 : Int)) (by exact rfl) rfl (by kernel_rfl) (by kernel_rfl) (by kernel_rfl) (fun _ _ _ h => h) (Or.inl ⟨by rfl, ?_⟩) (by assumption) ?_
  · intro wq hS
    have h1 := hS.cell 3 (v := .int .u64 (m1 : Int)) rfl
    go_simp
  try simp only [Act.put, List.setIfInBounds_toArray, List.set_cons_zero, List.set_cons_succ]
  refine takeD 5 49 (.int .i64 (m1 : Int)) (by exact rfl) rfl (by kernel_rfl) (by kernel_rfl) (by kernel_rfl) (fun _ _ _ h => h) (Or.inl ⟨by rfl, ?_⟩) (by assumption) ?_
  · intro wq hS
    go_simp
    rw [IntKind.wrap_i64]
    omega
  try simp only [Act.put, List.setIfInBounds_toArray, List.set_cons_zero, List.set_cons_succ]
  refine takeD 6 50 (.pointer (some ⟨r, 0, none⟩)) (by exact rfl) rfl (by kernel_rfl) (by kernel_rfl) (by kernel_rfl) (fun _ _ _ h => h) (Or.inl ⟨by rfl, ?_⟩) (by assumption) ?_
  · intro wq hS
    go_simp
  try simp only [Act.put, List.setIfInBounds_toArray, List.set_cons_zero, List.set_cons_succ]
  refine takeD 7 51 (.pointer (some ⟨r, 0, none⟩)) (by exact rfl) rfl (by kernel_rfl) (by kernel_rfl) (by kernel_rfl) (fun _ _ _ h => h) (Or.inl ⟨by rfl, ?_⟩) (by assumption) ?_
  · intro wq hS
    go_simp
  try simp only [Act.put, List.setIfInBounds_toArray, List.set_cons_zero, List.set_cons_succ]
  refine takeD 8 52 (.pointer (some ⟨r, 2, none⟩)) (by exact rfl) rfl (by kernel_rfl) (by kernel_rfl) (by kernel_rfl) (fun _ _ _ h => h) (Or.inl ⟨by rfl, ?_⟩) (by assumption) ?_
  · intro wq hS
    go_simp
  try simp only [Act.put, List.setIfInBounds_toArray, List.set_cons_zero, List.set_cons_succ]
  refine takeD 9 53 (.pointer (some ⟨r, 2, none⟩)) (by exact rfl) rfl (by kernel_rfl) (by kernel_rfl) (by kernel_rfl) (fun _ _ _ h => h) (Or.inl ⟨by rfl, ?_⟩) (by assumption) ?_
  · intro wq hS
    go_simp
  try simp only [Act.put, List.setIfInBounds_toArray, List.set_cons_zero, List.set_cons_succ]
  refine takeD 10 54 (.int .u64 (m0 : Int)) (by exact rfl) rfl (by kernel_rfl) (by kernel_rfl) (by kernel_rfl) (fun _ _ _ h => h) (Or.inl ⟨by rfl, ?_⟩) (by assumption) ?_
  · intro wq hS
    have h1 := hS.cell 2 (v := .int .u64 (m0 : Int)) rfl
    go_simp
  try simp only [Act.put, List.setIfInBounds_toArray, List.set_cons_zero, List.set_cons_succ]
  refine takeD 11 55 (.int .i64 (sc : Int)) (by exact rfl) rfl (by kernel_rfl) (by kernel_rfl) (by kernel_rfl) (fun _ _ _ h => h) (Or.inl ⟨by rfl, ?_⟩) (by assumption) ?_
  · intro wq hS
    go_simp
  try simp only [Act.put, List.setIfInBounds_toArray, List.set_cons_zero, List.set_cons_succ]
  refine takeD 12 56 (.agg (dml m0 m1 sc).toArray) (by exact rfl) rfl (by kernel_rfl) (by kernel_rfl) (by kernel_rfl) (fun _ _ _ h => h) (Or.inl ⟨by rfl, ?_⟩) (by assumption) ?_
  · intro wq hS
    go_simp
    rfl
  try simp only [Act.put, List.setIfInBounds_toArray, List.set_cons_zero, List.set_cons_succ]
  clear hHeld
  have V_z := (show Hid _ from HV4.out.drew)
  have Z_z := (show Hid _ from HZ3.out.drew)
  have BB_z := (show Hid _ from HB3.out.drew)
  clear HV4 HZ3 HB3
  generalize w3.drew = wz at *
  refine wpAnyH_ready (rs := [13]) (by kernel_rfl) (by simp) ?_
  refine AllReadyH.cons (by exact rfl) (fun K hK => ?_) AllReadyH.nil
  go_simp
  have V_1 := (show Hid _ from V_z.out.alloc (.cells zdl.toArray 24))
  have Z_1 := (show Hid _ from Z_z.out.alloc (.cells zdl.toArray 24))
  have BB_1 := (show Hid _ from BB_z.out.alloc BB_z.out.size (.cells zdl.toArray 24))
  have XV_1 := (show Hid _ from va_new wz zdl 24)
  have HQ : Hid (r < wz.heap.size ∧ w.heap.size < wz.heap.size) := ⟨V_z.out.lt, Z_z.out.lt⟩
  refine hK.out _ _ V_1.out (fun hHeld => ?_)
  try simp only [Act.put, List.setIfInBounds_toArray, List.set_cons_zero, List.set_cons_succ]
  clear hK K hHeld V_z Z_z BB_z
  change wpAnyH _ _ _ _ _ _ _ _ (wz.alloc (.cells zdl.toArray 24))
  generalize wz.alloc (.cells zdl.toArray 24) = w5 at *
  generalize wz.heap.size = q at *
  refine wpAnyH_ready (rs := [14]) (by kernel_rfl) (by simp) ?_
  refine AllReadyH.cons (by exact rfl) (fun K hK => ?_) AllReadyH.nil
  refine stAn (by rfl) (by rfl) 24 _ _ (by rfl) q (by rfl) zdl (dml m0 m1 sc) (by rfl) 24 XV_1.out infoD rfl (dml_one _ _ _) ?_
  intro w9 v9 u9
  have V_9 := (show Hid _ from V_1.out.upd u9 (by have := HQ.out; omega))
  have Z_9 := (show Hid _ from Z_1.out.upd u9 (by have := HQ.out; omega))
  refine hK.out _ _ V_9.out (fun hHeld => ?_)
  clear hK K hHeld
  refine wpAnyH_done (by kernel_rfl) ?_ _
  refine NoPanic.normal ?_
  have XV_9 := (show Hid _ from v9)
  have BB_9 := (show Hid _ from u9.bel BB_1.out (by have := HQ.out; omega))
  clear v9 u9 V_1 Z_1 BB_1 XV_1 V_9
  go_wp2_with (first | (refine ldA rfl 24 _ rfl q (by rfl) (dml m0 m1 sc) _ XV_9.out _ Try.underlying24 rfl infoD ?_) | (refine stA rfl 24 _ _ rfl w.heap.size (by rfl) [.int .i64 0, .int .u64 0, .int .i64 0] (dml m0 m1 sc) (by rfl) 24 Z_9.out infoD rfl (dml_one _ _ _) ?_; intro wf vf uf))
  have hld := run_loadVar_row (P := Try.prog) wf w.heap.size 24 24 _ (0, 0) _ vf.blk Try.underlying24 rfl infoD
  exact bodyPost_ret (v := .agg (dml m0 m1 sc).toArray) (by simp [results, Try.results20, Act.put, asAddr, hld]) rfl ⟨rfl, uf.bel BB_9.out (by omega)⟩
set_option maxHeartbeats 4000000 in
set_option maxRecDepth 100000 in
theorem read_neg (s : ByteArray) (neg : Bool) (i j M1 f M sc : Nat) (b1 b : Bool) (w : World) (hP : Parts s neg i j M1 f M sc b1 b) (h : f = s.size) (hn : neg = true) (hb : b = false) (hM0 : M ≠ 0) (hM : M < 170141183460469231731687303715884105728) (hsc : (sc : Int) ≤ 18) :
    Calls Try.prog 20 #[.string s] w fun e w' => e = .returned (.agg (dcs (-(M : Int)) sc).toArray) ∧ Below w.heap.size w w' := by
  subst hn
  subst hb
  have P : Hid (Parts s true i j M1 f M sc b1 false) := hP
  clear hP
  have hf : ¬ (f : Int) < s.size := by omega
  obtain ⟨m0, hm0⟩ : ∃ x, x = M % 18446744073709551616 := ⟨_, rfl⟩
  obtain ⟨m1, hm1⟩ : ∃ x, x = M / 18446744073709551616 := ⟨_, rfl⟩
  have HM : Hid (m0 = M % 18446744073709551616 ∧ m1 = M / 18446744073709551616) := ⟨hm0, hm1⟩
  have hm1b : m1 < 9223372036854775808 := by omega
  have hid : IsD (M : Int) (m1 : Int) (m0 : Int) := ⟨by unfold dhi; omega, by unfold dlo; omega⟩
  have hir : InR (M : Int) := ⟨by rw [M127_eq]; omega, by rw [M127_eq]; omega⟩
  have HNG := (show Hid _ from fun w => neg_ok (M : Int) (m1 : Int) (m0 : Int) sc w hid hir hsc)
  have E1 : ∀ w, (Op.equalIn 10000 48 (.agg #[.int .u64 (m0 : Int), .int .u64 (m1 : Int)]) (.agg #[.int .u64 0, .int .u64 0])).run Try.prog w = .ok false w := fun w => by
    rw [eq_size]
    congr 1
    simp
    omega
  clear hm0 hm1 hid hir hM
  have ez : (w.alloc (.cells #[.int .i64 0, .int .u64 0, .int .i64 0] 24)).heap.size = w.heap.size + 1 := by simp
  have V0 := va_new (w.alloc (.cells #[.int .i64 0, .int .u64 0, .int .i64 0] 24)) (rc s 0 0 0 false) 85
  rw [ez] at V0
  have B0 := ((Below.refl w.heap.size w).alloc (Nat.le_refl _) (.cells #[.int .i64 0, .int .u64 0, .int .i64 0] 24)).alloc (by simp) (.cells (rc s 0 0 0 false).toArray 85)
  have VZ := (va_new w [.int .i64 0, .int .u64 0, .int .i64 0] 24).alloc (.cells (rc s 0 0 0 false).toArray 85)
  go_enter Try.func20, Try.ntmps20
  go_upto_region 2 with fail
  change Code.wp _ _ _ _ ((w.alloc (.cells #[.int .i64 0, .int .u64 0, .int .i64 0] 24)).alloc (.cells (rc s 0 0 0 false).toArray 85))
  change VA ((w.alloc (.cells #[.int .i64 0, .int .u64 0, .int .i64 0] 24)).alloc (.cells (rc s 0 0 0 false).toArray 85)) w.heap.size _ _ at VZ
  obtain ⟨r, hr⟩ : ∃ r, r = w.heap.size + 1 := ⟨_, rfl⟩
  rw [← hr] at V0
  rw [← hr]
  have HRr : Hid (w.heap.size < r) := (by omega : w.heap.size < r)
  have HV0 : Hid (RD ((w.alloc (.cells #[.int .i64 0, .int .u64 0, .int .i64 0] 24)).alloc (.cells (rc s 0 0 0 false).toArray 85)) r s 0 0 false) := V0
  have HB0 := (show Hid _ from B0)
  have HZ0 := (show Hid _ from VZ)
  clear V0 B0 VZ ez hr
  generalize (w.alloc (.cells #[.int .i64 0, .int .u64 0, .int .i64 0] 24)).alloc (.cells (rc s 0 0 0 false).toArray 85) = w0 at *
  go_wp2_with fail
  refine (P.out.tk r _ HV0.out).mono ?_
  rintro e w1 ⟨rfl, v, bb⟩
  have HV1 : Hid (RD w1 r s i 0 false) := v
  have HB1 := (show Hid _ from HB0.out.trans (bb.mono (Nat.le_of_lt HRr.out)))
  have HZ1 : Hid (VA w1 w.heap.size [.int .i64 0, .int .u64 0, .int .i64 0] 24) := ⟨by rw [bb.block w.heap.size HRr.out]; exact HZ0.out.blk⟩
  clear v bb HV0 HB0 HZ0
  go_wp2_with fail
  refine (P.out.wh r _ HV1.out).mono ?_
  rintro e w2 ⟨rfl, v, bb⟩
  have HV2 : Hid (RD w2 r s j M1 b1) := v
  have HB2 := (show Hid _ from HB1.out.trans (bb.mono (Nat.le_of_lt HRr.out)))
  have HZ2 : Hid (VA w2 w.heap.size [.int .i64 0, .int .u64 0, .int .i64 0] 24) := ⟨by rw [bb.block w.heap.size HRr.out]; exact HZ1.out.blk⟩
  clear v bb HV1 HB1 HZ1
  go_wp2_with fail
  refine (P.out.fr r _ HV2.out).mono ?_
  rintro e w3 ⟨rfl, v, bb⟩
  have HV3 : Hid (RD w3 r s f M false) := v
  have HB3 := (show Hid _ from HB2.out.trans (bb.mono (Nat.le_of_lt HRr.out)))
  have HZ3 : Hid (VA w3 w.heap.size [.int .i64 0, .int .u64 0, .int .i64 0] 24) := ⟨by rw [bb.block w.heap.size HRr.out]; exact HZ2.out.blk⟩
  clear v bb HV2 HB2 HZ2
  have a1 := VA.cell HV3.out 1 (v := .int .i64 (f : Int)) rfl
  have HV4 : Hid (VA w3 r (rc s f m0 m1 false) 85) := (show VA w3 r (rc s f m0 m1 false) 85 by
    have := HV3.out
    unfold RD at this
    rw [← HM.out.1, ← HM.out.2] at this
    exact this)
  clear HV3
  have s4 := VA.cell HV4.out 4 (v := .bool false) rfl
  have V4 := VA.cell HV4.out 2 (v := .int .u64 (m0 : Int)) rfl
  have V5 := VA.cell HV4.out 3 (v := .int .u64 (m1 : Int)) rfl
  go_upto_region 11 with fail
  clear s4 V4 V5 a1
  refine wp_region_noPanic ?_
  refine wp_region_held_drew (S := fun w' => VA w' r (rc s f m0 m1 false) 85) (by kernel_rfl) HV4.out.drew (fun hHeld => ?_)
  refine takeD 0 44 (.pointer (some ⟨r, 0, none⟩)) (by exact rfl) rfl (by kernel_rfl) (by kernel_rfl) (by kernel_rfl) (fun _ _ _ h => h) (Or.inl ⟨by rfl, ?_⟩) (by assumption) ?_
  · intro wq hS
    go_simp
  try simp only [Act.put, List.setIfInBounds_toArray, List.set_cons_zero, List.set_cons_succ]
  refine takeD 1 45 (.pointer (some ⟨r, 0, none⟩)) (by exact rfl) rfl (by kernel_rfl) (by kernel_rfl) (by kernel_rfl) (fun _ _ _ h => h) (Or.inl ⟨by rfl, ?_⟩) (by assumption) ?_
  · intro wq hS
    go_simp
  try simp only [Act.put, List.setIfInBounds_toArray, List.set_cons_zero, List.set_cons_succ]
  refine takeD 2 46 (.pointer (some ⟨r, 2, none⟩)) (by exact rfl) rfl (by kernel_rfl) (by kernel_rfl) (by kernel_rfl) (fun _ _ _ h => h) (Or.inl ⟨by rfl, ?_⟩) (by assumption) ?_
  · intro wq hS
    go_simp
  try simp only [Act.put, List.setIfInBounds_toArray, List.set_cons_zero, List.set_cons_succ]
  refine takeD 3 47 (.pointer (some ⟨r, 3, none⟩)) (by exact rfl) rfl (by kernel_rfl) (by kernel_rfl) (by kernel_rfl) (fun _ _ _ h => h) (Or.inl ⟨by rfl, ?_⟩) (by assumption) ?_
  · intro wq hS
    go_simp
  try simp only [Act.put, List.setIfInBounds_toArray, List.set_cons_zero, List.set_cons_succ]
  refine takeD 4 48 (.int .u64 (m1 : Int)) (by exact rfl) rfl (by kernel_rfl) (by kernel_rfl) (by kernel_rfl) (fun _ _ _ h => h) (Or.inl ⟨by rfl, ?_⟩) (by assumption) ?_
  · intro wq hS
    have h1 := hS.cell 3 (v := .int .u64 (m1 : Int)) rfl
    go_simp
  try simp only [Act.put, List.setIfInBounds_toArray, List.set_cons_zero, List.set_cons_succ]
  refine takeD 5 49 (.int .i64 (m1 : Int)) (by exact rfl) rfl (by kernel_rfl) (by kernel_rfl) (by kernel_rfl) (fun _ _ _ h => h) (Or.inl ⟨by rfl, ?_⟩) (by assumption) ?_
  · intro wq hS
    go_simp
    rw [IntKind.wrap_i64]
    omega
  try simp only [Act.put, List.setIfInBounds_toArray, List.set_cons_zero, List.set_cons_succ]
  refine takeD 6 50 (.pointer (some ⟨r, 0, none⟩)) (by exact rfl) rfl (by kernel_rfl) (by kernel_rfl) (by kernel_rfl) (fun _ _ _ h => h) (Or.inl ⟨by rfl, ?_⟩) (by assumption) ?_
  · intro wq hS
    go_simp
  try simp only [Act.put, List.setIfInBounds_toArray, List.set_cons_zero, List.set_cons_succ]
  refine takeD 7 51 (.pointer (some ⟨r, 0, none⟩)) (by exact rfl) rfl (by kernel_rfl) (by kernel_rfl) (by kernel_rfl) (fun _ _ _ h => h) (Or.inl ⟨by rfl, ?_⟩) (by assumption) ?_
  · intro wq hS
    go_simp
  try simp only [Act.put, List.setIfInBounds_toArray, List.set_cons_zero, List.set_cons_succ]
  refine takeD 8 52 (.pointer (some ⟨r, 2, none⟩)) (by exact rfl) rfl (by kernel_rfl) (by kernel_rfl) (by kernel_rfl) (fun _ _ _ h => h) (Or.inl ⟨by rfl, ?_⟩) (by assumption) ?_
  · intro wq hS
    go_simp
  try simp only [Act.put, List.setIfInBounds_toArray, List.set_cons_zero, List.set_cons_succ]
  refine takeD 9 53 (.pointer (some ⟨r, 2, none⟩)) (by exact rfl) rfl (by kernel_rfl) (by kernel_rfl) (by kernel_rfl) (fun _ _ _ h => h) (Or.inl ⟨by rfl, ?_⟩) (by assumption) ?_
  · intro wq hS
    go_simp
  try simp only [Act.put, List.setIfInBounds_toArray, List.set_cons_zero, List.set_cons_succ]
  refine takeD 10 54 (.int .u64 (m0 : Int)) (by exact rfl) rfl (by kernel_rfl) (by kernel_rfl) (by kernel_rfl) (fun _ _ _ h => h) (Or.inl ⟨by rfl, ?_⟩) (by assumption) ?_
  · intro wq hS
    have h1 := hS.cell 2 (v := .int .u64 (m0 : Int)) rfl
    go_simp
  try simp only [Act.put, List.setIfInBounds_toArray, List.set_cons_zero, List.set_cons_succ]
  refine takeD 11 55 (.int .i64 (sc : Int)) (by exact rfl) rfl (by kernel_rfl) (by kernel_rfl) (by kernel_rfl) (fun _ _ _ h => h) (Or.inl ⟨by rfl, ?_⟩) (by assumption) ?_
  · intro wq hS
    go_simp
  try simp only [Act.put, List.setIfInBounds_toArray, List.set_cons_zero, List.set_cons_succ]
  refine takeD 12 56 (.agg (dml m0 m1 sc).toArray) (by exact rfl) rfl (by kernel_rfl) (by kernel_rfl) (by kernel_rfl) (fun _ _ _ h => h) (Or.inl ⟨by rfl, ?_⟩) (by assumption) ?_
  · intro wq hS
    go_simp
    rfl
  try simp only [Act.put, List.setIfInBounds_toArray, List.set_cons_zero, List.set_cons_succ]
  clear hHeld
  have V_z := (show Hid _ from HV4.out.drew)
  have Z_z := (show Hid _ from HZ3.out.drew)
  have BB_z := (show Hid _ from HB3.out.drew)
  clear HV4 HZ3 HB3
  generalize w3.drew = wz at *
  refine wpAnyH_ready (rs := [13]) (by kernel_rfl) (by simp) ?_
  refine AllReadyH.cons (by exact rfl) (fun K hK => ?_) AllReadyH.nil
  go_simp
  have V_1 := (show Hid _ from V_z.out.alloc (.cells zdl.toArray 24))
  have Z_1 := (show Hid _ from Z_z.out.alloc (.cells zdl.toArray 24))
  have BB_1 := (show Hid _ from BB_z.out.alloc BB_z.out.size (.cells zdl.toArray 24))
  have XV_1 := (show Hid _ from va_new wz zdl 24)
  have HQ : Hid (r < wz.heap.size ∧ w.heap.size < wz.heap.size) := ⟨V_z.out.lt, Z_z.out.lt⟩
  refine hK.out _ _ V_1.out (fun hHeld => ?_)
  try simp only [Act.put, List.setIfInBounds_toArray, List.set_cons_zero, List.set_cons_succ]
  clear hK K hHeld V_z Z_z BB_z
  change wpAnyH _ _ _ _ _ _ _ _ (wz.alloc (.cells zdl.toArray 24))
  generalize wz.alloc (.cells zdl.toArray 24) = w5 at *
  generalize wz.heap.size = q at *
  refine wpAnyH_ready (rs := [14]) (by kernel_rfl) (by simp) ?_
  refine AllReadyH.cons (by exact rfl) (fun K hK => ?_) AllReadyH.nil
  refine stAn (by rfl) (by rfl) 24 _ _ (by rfl) q (by rfl) zdl (dml m0 m1 sc) (by rfl) 24 XV_1.out infoD rfl (dml_one _ _ _) ?_
  intro w9 v9 u9
  have V_9 := (show Hid _ from V_1.out.upd u9 (by have := HQ.out; omega))
  have Z_9 := (show Hid _ from Z_1.out.upd u9 (by have := HQ.out; omega))
  refine hK.out _ _ V_9.out (fun hHeld => ?_)
  clear hK K hHeld
  refine wpAnyH_done (by kernel_rfl) ?_ _
  refine NoPanic.normal ?_
  have XV_9 := (show Hid _ from v9)
  have BB_9 := (show Hid _ from u9.bel BB_1.out (by have := HQ.out; omega))
  clear v9 u9 V_1 Z_1 BB_1 XV_1 V_9
  go_wp2_with (refine ldA rfl 24 _ rfl q (by rfl) (dml m0 m1 sc) _ XV_9.out _ Try.underlying24 rfl infoD ?_)
  refine (HNG.out _).mono ?_
  rintro e wa ⟨rfl, ba⟩
  have XV_a := (show Hid _ from XV_9.out.step ba)
  have Z_a := (show Hid _ from Z_9.out.step ba)
  have BB_a := (show Hid _ from BB_9.out.trans (ba.mono BB_9.out.size))
  clear ba XV_9 Z_9 BB_9
  go_upto_region 14 with (refine stA rfl 24 _ _ rfl q (by rfl) (dml m0 m1 sc) (dcs (-(M : Int)) sc) (by rfl) 24 XV_a.out infoD rfl (dcs_one _ _) ?_; intro wb vb ub)
  have XV_b := (show Hid _ from vb)
  have Z_b := (show Hid _ from Z_a.out.upd ub (by have := HQ.out; omega))
  have BB_b := (show Hid _ from ub.bel BB_a.out (by have := HQ.out; omega))
  clear vb ub XV_a Z_a BB_a
  go_wp2_with (first | (refine ldA rfl 24 _ rfl q (by rfl) (dcs (-(M : Int)) sc) _ XV_b.out _ Try.underlying24 rfl infoD ?_) | (refine stA rfl 24 _ _ rfl w.heap.size (by rfl) [.int .i64 0, .int .u64 0, .int .i64 0] (dcs (-(M : Int)) sc) (by rfl) 24 Z_b.out infoD rfl (dcs_one _ _) ?_; intro wf vf uf))
  have hld := run_loadVar_row (P := Try.prog) wf w.heap.size 24 24 _ (0, 0) _ vf.blk Try.underlying24 rfl infoD
  exact bodyPost_ret (v := .agg (dcs (-(M : Int)) sc).toArray) (by simp [results, Try.results20, Act.put, asAddr, hld]) rfl ⟨rfl, uf.bel BB_b.out (by omega)⟩
end Go.Proofs.Ytgcmbiahakampaa
