/- chart: after. -/
import Derived.Test.YtlgcbbnnldlooaaDoorCtf
namespace Go.Proofs.YtlgcbbnnldlooaaDoor
open Go.RowKit Go.Maps
set_option linter.unusedVariables false

theorem zeroD (w : World) : (zeroValue 37).run Tryd.prog w = .ok (.agg #[.int .i64 0, .int .u64 0, .int .i64 0]) w := by kernel_rfl
theorem infoDe : (Tryd.prog.info? 37).map (·.size) = some 3 := by kernel_rfl
/-- all of a struct is stored, in a region that draws its order -/
theorem stD {w : World} {y : Nat → Option Bool} {o : Oper} {a : Act} {Q : Exit → Act → World → Prop} {K : Act → World → Prop} {k0 : Prop} (hgd : Region.wanted o y = true) (hd : o.dst = none) (t : TypeId) (x z : Operand) (ho : o.op = .store t x z)
    (p : Nat) (hx : a.eval x = .pointer (some ⟨p, 0, none⟩)) (cs ds : List Value) (hy : a.eval z = .agg ds.toArray) (T : TypeId) (h : VA w p cs T) (hi : (Tryd.prog.info? t).map (·.size) = some ds.length) (hl : cs.length = ds.length) (h1 : ∀ v ∈ ds, v.oneCell' = true)
    (k : ∀ w', VA w' p ds T → Upd p w w' → K a w') : if Region.wanted o y = true then o.wp Tryd.prog a w K Q else k0 := by
  have k : ∀ w', VA w' p ds T → Upd p w w' → K (a.put o.dst undef) w' := fun w' v u => by rw [hd]; exact k w' v u
  rw [if_pos hgd]
  have hrun := run_storeVar_row (P := Tryd.prog) w p T t cs.toArray ds.toArray h.blk (by simpa using hi) (by simpa using hl) (Array.all_eq_true_iff_forall_mem.2 (fun v hv => h1 v (by simpa using hv)))
  unfold Oper.wp execOp
  simp only [ho, hx, hy, Instr.storeAt, Instr.sureAddr, Sem.run_bind, Sem.run_pure, Result.andThen_ok, hrun]
  exact k _ ⟨setRow_heap w p _ _ _ _ h.blk⟩ (upd_setRow w p _)
theorem dec_one (z : Int) : ∀ v ∈ ([.int .i64 (dhi z), .int .u64 (dlo z), .int .i64 12] : List Value), v.oneCell' = true := by
  intro v hv
  simp at hv
  rcases hv with rfl | rfl | rfl <;> rfl
theorem Ln.va {x : Ln} (h : x.pl = true) : Va x.code x.cur := by
  unfold Ln.pl wi at h
  simp only [Bool.and_eq_true, decide_eq_true_eq] at h
  exact ⟨h.1.1, h.1.2, h.2.1, h.2.2⟩
set_option maxHeartbeats 4000000 in
set_option maxRecDepth 100000 in
theorem after_ok (p m : Nat) (b : Int → Int → Int) (nn : Int) (v : Value) (ls : List Ln) (w : World) (L : Led w p m b nn) (h : Sl LN w v ls) (hg : ∀ x ∈ ls, x.wf ∧ x.pl = true ∧ x.ok = true) (hl : ls.length ≤ 16) :
    Calls Tryd.prog 26 #[.pointer (some ⟨p, 0, none⟩), v] w fun e w' => e = .returned (.map (some w.heap.size)) ∧ AMap w' w.heap.size 16 (tch ls) (fun c u => b c u + sat ls c u) ∧ Below w.heap.size w w' := by
  obtain ⟨n, hn⟩ : ∃ n, n = ls.length := ⟨_, rfl⟩
  have H := (show Hid _ from h)
  obtain ⟨ta, tc, rfl, g1, g2⟩ : ∃ a c, v = .slice a n c ∧ n ≤ c ∧ c ≤ 9223372036854775807 := by obtain ⟨a, c, e, h1, h2, _⟩ := h; exact ⟨a, c, by rw [hn]; exact e, by rw [hn]; exact h1, h2⟩
  have HN := (show Hid _ from hn)
  have HL16 := (show Hid _ from hl)
  have HG := (show Hid _ from hg)
  have HLd := (show Hid _ from L)
  clear h hn hl hg L
  have hmm := @run_makeMap Tryd.prog
  have HM0 := (show Hid _ from amap_made w b)
  have HB0 := (show Hid _ from (Below.refl w.heap.size w).alloc (Nat.le_refl _) (.map #[] 0))
  go_enter Tryd.func26, Tryd.ntmps26
  go_wp2_with fail
  generalize hq : w.heap.size = q at *
  have HQ := (show Hid _ from hq)
  clear hq
  go_loopw [14] (fun i wr => ∃ k : Nat, k ≤ n ∧ i = .int .i64 (k : Int) ∧ Hid (AMap wr q k (tch (ls.take k)) (fun c u => b c u + sat (ls.take k) c u)) ∧ Hid (Below q w wr)) (fun i _ => n - (intOf i).toNat)
  case atStart => exact ⟨0, by omega, rfl, HM0.out.congr (fun c u _ => rfl) (fun c u _ h => by simp at h), HB0.out⟩
  case round =>
    obtain ⟨k, hk, rfl, HM, HB⟩ := hrel
    by_cases hkn : k = n
    · subst hkn
      go_wp2_with fail
      go_ret
      refine ⟨by rw [HQ.out]; rfl, ?_, by rw [HQ.out]; exact HB.out⟩
      have hm := HM.out
      rw [HN.out, List.take_length] at hm
      rw [HQ.out]
      obtain ⟨f, m1, m2⟩ := hm.ex
      exact ⟨f, m1.mono HL16.out, m2⟩
    have hk' : k < n := by omega
    obtain ⟨x, hx⟩ : ∃ x, ls[k]? = some x := ⟨ls[k]'(by have := HN.out; omega), by simp⟩
    have hgx := HG.out x (List.mem_of_getElem? hx)
    obtain ⟨bb, off, e, hb, hc⟩ := (H.out.step (w' := wr) (by rw [HQ.out]; exact HB.out)).at k x hx
    cases e
    have hva := Ln.va hgx.2.1
    have HPL := (show Hid _ from fun z hz w => plus_ln x hgx.1 hgx.2.2 z hz w)
    have hts := take_snoc hx
    have HS : Hid (∀ c u, Va c u → sat (ls.take (k + 1)) c u = sat (ls.take k) c u + if x.code = c ∧ x.cur = u then x.un else 0) := fun c u _ => by rw [hts, sat_snoc]
    have HT : Hid (∀ c u, Va c u → tch (ls.take (k + 1)) c u = (tch (ls.take k) c u || decide (x.code = c ∧ x.cur = u))) := fun c u _ => by rw [hts, tch_snoc]
    have HSB : Hid (∀ c u, Va c u → -(2 * M36) ≤ b c u + sat (ls.take k) c u ∧ b c u + sat (ls.take k) c u ≤ 2 * M36) := fun c u hv => by
      have h1 := HLd.out.rng c u hv
      have h2 := sat_bd (ls := ls.take k) (fun y hy => by have := HG.out y (List.mem_of_mem_take hy); exact ⟨this.1, this.2.2⟩) c u
      have h3 : (ls.take k).length ≤ 16 := by rw [List.length_take]; have := HL16.out; omega
      have h4 : (((ls.take k).length : Int)) * M32 ≤ 16 * M32 := Int.mul_le_mul_of_nonneg_right (by omega) (by decide)
      unfold M36 M32 at *
      omega
    obtain ⟨x0, x1, x2, x3, x4⟩ := x
    simp only at hva HPL HS HT
    have c0 : wr.cell? ⟨bb, off + k * 5, none⟩ = some (.int .i64 x0) := hc 0 _ rfl
    have c1 : wr.cell? ⟨bb, off + k * 5 + 1, none⟩ = some (.int .i64 x1) := hc 1 _ rfl
    have c2 : wr.cell? ⟨bb, off + k * 5 + 2, none⟩ = some (.int .i64 x2) := hc 2 _ rfl
    have c3 : wr.cell? ⟨bb, off + k * 5 + 3, none⟩ = some (.int .u64 x3) := hc 3 _ rfl
    have c4 : wr.cell? ⟨bb, off + k * 5 + 4, none⟩ = some (.int .i64 x4) := hc 4 _ rfl
    have HVA : Hid (Va x0 x1) := hva
    clear hc hb hx hgx hva hts
    have d1 : (0 : Int) ≤ (k : Int) := by omega
    have d2 : (k : Int) < (n : Int) := by omega
    obtain ⟨f, m1, m2, m3⟩ := HM.out.ex
    have mf := m2 x0 x1 HVA.out
    have HM1 : Hid (MapF wr 64 q k f) := m1
    have HM2 := (show Hid _ from m2)
    have HM3 := (show Hid _ from m3)
    clear m1 m2 m3 HM
    obtain ⟨z, hz⟩ : ∃ z, z = b x0 x1 + sat (ls.take k) x0 x1 := ⟨_, rfl⟩
    rw [← hz] at mf
    have HZ := (show Hid _ from hz)
    have HZB : Hid (-(2 * M36) ≤ z ∧ z ≤ 2 * M36) := by rw [hz]; exact HSB.out x0 x1 HVA.out
    clear hz HSB
    have BA := ((Below.refl wr.heap.size wr).alloc (Nat.le_refl _) (.cells #[.int .i64 x0, .int .i64 x1, .int .i64 x2, .int .u64 x3, .int .i64 x4] 39)).alloc (by simp) (.cells #[.int .i64 x0, .int .i64 x1] 64)
    have HBA := (show Hid _ from BA)
    clear BA
    cases ht : tch (ls.take k) x0 x1
    · rw [ht] at mf
      have HTT := (show Hid _ from ht)
      have HMF := (show Hid _ from mf)
      clear ht mf
      go_upto_region 8 with (refine lkN rfl _ _ 60 rfl 64 37 keyedA Tryd.underlying60 _ (zeroD _) q k f (by rfl) (HM1.out.step HBA.out) (.agg #[.int .i64 x0, .int .i64 x1]) (la x0 x1) (by rfl) HVA.out.key HMF.out ?_)
      have V7 := ((va_new wr [.int .i64 x0, .int .i64 x1, .int .i64 x2, .int .u64 x3, .int .i64 x4] 39).alloc (.cells #[.int .i64 x0, .int .i64 x1] 64)).alloc (.cells #[.int .i64 0, .int .u64 0, .int .i64 0] 37)
      have V8 := (va_new (wr.alloc (.cells #[.int .i64 x0, .int .i64 x1, .int .i64 x2, .int .u64 x3, .int .i64 x4] 39)) [.int .i64 x0, .int .i64 x1] 64).alloc (.cells #[.int .i64 0, .int .u64 0, .int .i64 0] 37)
      have V9 := va_new ((wr.alloc (.cells #[.int .i64 x0, .int .i64 x1, .int .i64 x2, .int .u64 x3, .int .i64 x4] 39)).alloc (.cells #[.int .i64 x0, .int .i64 x1] 64)) [.int .i64 0, .int .u64 0, .int .i64 0] 37
      rw [World.size_alloc] at V8
      rw [World.size_alloc, World.size_alloc] at V9
      have BB := HBA.out.alloc HBA.out.size (.cells #[.int .i64 0, .int .u64 0, .int .i64 0] 37)
      have HMX : Hid (MapF _ 64 q k f) := HM1.out.step BB
      have HBX := (show Hid _ from HB.out.trans (BB.mono (by have := HB.out.size; have := HQ.out; omega)))
      have HLX := (show Hid _ from HLd.out.step (by rw [HQ.out]; exact HBX.out))
      have hqq : q ≤ wr.heap.size := (by have := HB.out.size; have := HQ.out; omega)
      have HQQ := (show Hid _ from hqq)
      clear hqq
      clear BB HBA HM1 HB c0 c1 c2 c3 c4
      generalize wr.heap.size = q7 at *
      generalize ((wr.alloc (.cells #[.int .i64 x0, .int .i64 x1, .int .i64 x2, .int .u64 x3, .int .i64 x4] 39)).alloc (.cells #[.int .i64 x0, .int .i64 x1] 64)).alloc (.cells #[.int .i64 0, .int .u64 0, .int .i64 0] 37) = w2 at *
      have HV7 := (show Hid _ from V7)
      have HV8 := (show Hid _ from V8)
      have HV9 := (show Hid _ from V9)
      clear V7 V8 V9
      obtain ⟨rng, lva, lmap⟩ := HLX.out
      obtain ⟨g, l1, l2, l3⟩ := lmap.ex
      have lg : g (la x0 x1) = some (.agg #[.int .i64 (dhi (b x0 x1)), .int .u64 (dlo (b x0 x1)), .int .i64 12]) := l2 x0 x1 HVA.out
      have hzb : b x0 x1 = z := by rw [HZ.out, sat_none HTT.out, Int.add_zero]
      rw [hzb] at lg
      have HLG := (show Hid _ from lg)
      have HL1 : Hid (MapF w2 64 m 32 g) := l1
      have HLV := (show Hid _ from lva)
      have hpm := (show Hid _ from HLX.out.ne)
      have hp9 : Hid (p ≠ q7 + 1 + 1) := by
        rintro rfl
        have h1 := lva.blk
        rw [HV9.out.blk] at h1
        cases h1
      have hm9 : Hid (m ≠ q7 + 1 + 1) := fun e => (HV9.out.notM lmap) e.symm
      clear rng lva lmap l1 l2 l3 lg hzb
      refine wp_region_noPanic ?_
      refine wp_region_held_drew (S := fun w' => VA w' p [.map (some m), .int .i64 nn] 67 ∧ VA w' (q7 + 1) [.int .i64 x0, .int .i64 x1] 64 ∧ MapF w' 64 m 32 g) (by kernel_rfl) ⟨HLV.out.drew, HV8.out.drew, HL1.out.step (Below.refl _ _).drew⟩ (fun hHeld => ?_)
      refine takeD 0 31 (.pointer (some ⟨p, 0, none⟩)) (by exact rfl) rfl (by kernel_rfl) (by kernel_rfl) (by kernel_rfl) (fun _ _ _ h => h) (Or.inl ⟨by rfl, ?_⟩) (by assumption) ?_
      · intro wq hS
        go_simp
      try simp only [Act.put, List.setIfInBounds_toArray, List.set_cons_zero, List.set_cons_succ]
      refine takeD 1 32 (.pointer (some ⟨p, 0, none⟩)) (by exact rfl) rfl (by kernel_rfl) (by kernel_rfl) (by kernel_rfl) (fun _ _ _ h => h) (Or.inl ⟨by rfl, ?_⟩) (by assumption) ?_
      · intro wq hS
        go_simp
      try simp only [Act.put, List.setIfInBounds_toArray, List.set_cons_zero, List.set_cons_succ]
      refine takeD 2 33 (.pointer (some ⟨p, 0, none⟩)) (by exact rfl) rfl (by kernel_rfl) (by kernel_rfl) (by kernel_rfl) (fun _ _ _ h => h) (Or.inl ⟨by rfl, ?_⟩) (by assumption) ?_
      · intro wq hS
        go_simp
      try simp only [Act.put, List.setIfInBounds_toArray, List.set_cons_zero, List.set_cons_succ]
      refine takeD 3 34 (.map (some m)) (by exact rfl) rfl (by kernel_rfl) (by kernel_rfl) (by kernel_rfl) (fun _ _ _ h => h) (Or.inl ⟨by rfl, ?_⟩) (by assumption) ?_
      · intro wq hS
        have e0 := hS.1.cell 0 (v := .map (some m)) rfl
        go_simp
      try simp only [Act.put, List.setIfInBounds_toArray, List.set_cons_zero, List.set_cons_succ]
      refine takeD 4 35 (.agg #[.int .i64 x0, .int .i64 x1]) (by exact rfl) rfl (by kernel_rfl) (by kernel_rfl) (by kernel_rfl) (fun _ _ _ h => h) (Or.inl ⟨by rfl, ?_⟩) (by assumption) ?_
      · intro wq hS
        have e0 := hS.2.1.cell 0 (v := .int .i64 x0) rfl
        have e1 := hS.2.1.cell 1 (v := .int .i64 x1) rfl
        go_simp
      try simp only [Act.put, List.setIfInBounds_toArray, List.set_cons_zero, List.set_cons_succ]
      refine takeD 5 36 (.agg #[.int .i64 (dhi z), .int .u64 (dlo z), .int .i64 12]) (by exact rfl) rfl (by kernel_rfl) (by kernel_rfl) (by kernel_rfl) (fun _ _ _ h => h) (Or.inl ⟨by rfl, ?_⟩) (by assumption) ?_
      · intro wq hS
        have e0 := hS.2.2.look keyedA Tryd.underlying60 (zeroD wq) HVA.out.key
        rw [HLG.out] at e0
        unfold ka at e0
        go_simp
      try simp only [Act.put, List.setIfInBounds_toArray, List.set_cons_zero, List.set_cons_succ]
      clear hHeld
      refine wpAnyH_ready (rs := [6]) (by kernel_rfl) (by simp) ?_
      refine AllReadyH.cons (by exact rfl) (fun K hK => ?_) AllReadyH.nil
      skip
      refine stD (by rfl) (by rfl) 37 _ _ (by rfl) (q7 + 1 + 1) (by rfl) [.int .i64 0, .int .u64 0, .int .i64 0] [.int .i64 (dhi z), .int .u64 (dlo z), .int .i64 12] (by rfl) 37 HV9.out.drew infoDe rfl (dec_one z) ?_
      intro w3 v3 u3
      have U3 := u3.but
      have HMY : Hid (MapF w3 64 q k f) := (HMX.out.step (Below.refl _ _).drew).but U3 (fun e => (HV9.out.notM (m := q) (n := k) (T := fun c u => tch (ls.take k) c u) (b := fun c u => b c u + sat (ls.take k) c u) ⟨f, HMX.out, HM2.out, HM3.out⟩) e.symm)
      have HX7 := (show Hid _ from (HV7.out.drew).but U3 (by omega))
      have HX8 := (show Hid _ from (HV8.out.drew).but U3 (by omega))
      have HX9 := (show Hid _ from v3)
      have HBY := (show Hid _ from HBX.out.trans ((((Below.refl w2.heap.size w2).drew).mono (by have := HBX.out.size; have := HQ.out; omega)).trans (U3.below (by have := HBX.out.size; have := HQ.out; simp; omega) (fun i (hi : i = q7 + 1 + 1) => by have := HQQ.out; omega))))
      have HLY := (show Hid _ from (HLX.out.step (Below.refl _ _).drew).but U3 hp9.out hm9.out)
      refine hK.out _ _ ⟨HLY.out.va, HX8.out, (HL1.out.step (Below.refl _ _).drew).but U3 hm9.out⟩ (fun hHeld => ?_)
      clear hK K hHeld u3 U3 v3 HLY HLX HL1 HLV HMX HV7 HV8 HV9 HBX hpm hp9 hm9
      refine wpAnyH_done (by kernel_rfl) ?_ _
      refine NoPanic.normal ?_
      go_upto_region 9 with fail
      refine wp_region_noPanic ?_
      refine wp_region_held_drew (S := fun w' => VA w' q7 [.int .i64 x0, .int .i64 x1, .int .i64 x2, .int .u64 x3, .int .i64 x4] 39 ∧ VA w' (q7 + 1) [.int .i64 x0, .int .i64 x1] 64 ∧ VA w' (q7 + 1 + 1) [.int .i64 (dhi z), .int .u64 (dlo z), .int .i64 12] 37) (by kernel_rfl) ⟨HX7.out.drew, HX8.out.drew, HX9.out.drew⟩ (fun hHeld => ?_)
      refine takeD 0 37 (.map (some q)) (by exact rfl) rfl (by kernel_rfl) (by kernel_rfl) (by kernel_rfl) (fun _ _ _ h => h) (Or.inl ⟨by rfl, ?_⟩) (by assumption) ?_
      · intro wq hS
        go_simp
      try simp only [Act.put, List.setIfInBounds_toArray, List.set_cons_zero, List.set_cons_succ]
      refine takeD 1 38 (.agg #[.int .i64 x0, .int .i64 x1]) (by exact rfl) rfl (by kernel_rfl) (by kernel_rfl) (by kernel_rfl) (fun _ _ _ h => h) (Or.inl ⟨by rfl, ?_⟩) (by assumption) ?_
      · intro wq hS
        have e0 := hS.2.1.cell 0 (v := .int .i64 x0) rfl
        have e1 := hS.2.1.cell 1 (v := .int .i64 x1) rfl
        go_simp
      try simp only [Act.put, List.setIfInBounds_toArray, List.set_cons_zero, List.set_cons_succ]
      refine takeD 2 39 (.agg #[.int .i64 (dhi z), .int .u64 (dlo z), .int .i64 12]) (by exact rfl) rfl (by kernel_rfl) (by kernel_rfl) (by kernel_rfl) (fun _ _ _ h => h) (Or.inl ⟨by rfl, ?_⟩) (by assumption) ?_
      · intro wq hS
        have e0 := hS.2.2.cell 0 (v := .int .i64 (dhi z)) rfl
        have e1 := hS.2.2.cell 1 (v := .int .u64 (dlo z)) rfl
        have e2 := hS.2.2.cell 2 (v := .int .i64 12) rfl
        go_simp
      try simp only [Act.put, List.setIfInBounds_toArray, List.set_cons_zero, List.set_cons_succ]
      refine takeD 3 40 (.pointer (some ⟨q7, 2, none⟩)) (by exact rfl) rfl (by kernel_rfl) (by kernel_rfl) (by kernel_rfl) (fun _ _ _ h => h) (Or.inl ⟨by rfl, ?_⟩) (by assumption) ?_
      · intro wq hS
        go_simp
      try simp only [Act.put, List.setIfInBounds_toArray, List.set_cons_zero, List.set_cons_succ]
      refine takeD 4 41 (.agg #[.int .i64 x2, .int .u64 x3, .int .i64 x4]) (by exact rfl) rfl (by kernel_rfl) (by kernel_rfl) (by kernel_rfl) (fun _ _ _ h => h) (Or.inl ⟨by rfl, ?_⟩) (by assumption) ?_
      · intro wq hS
        have e0 := hS.1.cell 2 (v := .int .i64 x2) rfl
        have e1 := hS.1.cell 3 (v := .int .u64 x3) rfl
        have e2 := hS.1.cell 4 (v := .int .i64 x4) rfl
        go_simp
      try simp only [Act.put, List.setIfInBounds_toArray, List.set_cons_zero, List.set_cons_succ]
      clear hHeld
      refine wpAnyH_ready (rs := [5]) (by kernel_rfl) (by simp) ?_
      refine AllReadyH.cons (by exact rfl) (fun K hK => ?_) AllReadyH.nil
      go_simp
      refine (HPL.out z HZB.out _).mono ?_
      rintro e w5 ⟨rfl, b3⟩
      have b3 : Below w3.heap.size w3 w5 := ((Below.refl w3.heap.size w3).drew).trans b3
      have HM3' : Hid (MapF w5 64 q k f) := HMY.out.step b3
      have HW7 := (show Hid _ from HX7.out.step b3)
      have HW8 := (show Hid _ from HX8.out.step b3)
      have HW9 := (show Hid _ from HX9.out.step b3)
      have HB3 := (show Hid _ from HBY.out.trans (b3.mono (by have := HBY.out.size; have := HQ.out; omega)))
      clear b3 HMY HX7 HX8 HX9 HBY 
      go_wp2_with fail
      refine hK.out _ _ ⟨HW7.out, HW8.out, HW9.out⟩ (fun hHeld => ?_)
      clear hK K hHeld
      try simp only [Act.put, List.setIfInBounds_toArray, List.set_cons_zero, List.set_cons_succ]
      refine wpAnyH_ready (rs := [6]) (by kernel_rfl) (by simp) ?_
      refine AllReadyH.cons (by exact rfl) (fun K hK => ?_) AllReadyH.nil
      skip
      refine stMd (by rfl) _ _ _ 60 (by rfl) 64 37 keyedA Tryd.underlying60 q k f (by rfl) HM3'.out (by have := HL16.out; have := HN.out; unfold maxLen; omega) (.agg #[.int .i64 x0, .int .i64 x1]) (dv (z + Ln.un ⟨x0, x1, x2, x3, x4⟩) 12) (la x0 x1) (by rfl) (by rfl) HVA.out.key ?_
      intro w6 m4 t4
      have M4 := AMap.put HM2.out HM3.out HVA.out m4
      have U4 := turned_but t4
      have AM3 : AMap w5 q k _ _ := ⟨f, HM3'.out, HM2.out, HM3.out⟩
      refine hK.out _ _ ⟨HW7.out.but U4 (HW7.out.notM AM3), HW8.out.but U4 (HW8.out.notM AM3), HW9.out.but U4 (HW9.out.notM AM3)⟩ (fun hHeld => ?_)
      clear hK K hHeld AM3
      refine wpAnyH_done (by kernel_rfl) ?_ _
      refine NoPanic.normal ?_
      have HM4 := (show Hid _ from M4)
      have HB4 := (show Hid _ from HB3.out.trans (U4.below (by have := HB3.out.size; have := HQ.out; omega) (fun i (hi : i = q) => by omega)))
      clear M4 U4 m4 t4 HM3'
      go_wp2_with fail
      refine ⟨⟨k + 1, by omega, by go_num, ?_, HB4.out⟩, by simp [intOf]; omega⟩
      refine HM4.out.congr (fun c u hv => ?_) (fun c u hv _ => ?_)
      · rw [HT.out c u hv]
        congr 1
        exact decide_eq_decide.2 ⟨fun e => ⟨e.1.symm, e.2.symm⟩, fun e => ⟨e.1.symm, e.2.symm⟩⟩
      · rw [HS.out c u hv]
        by_cases e : c = x0 ∧ u = x1
        · obtain ⟨rfl, rfl⟩ := e
          rw [if_pos ⟨rfl, rfl⟩, if_pos ⟨rfl, rfl⟩, HZ.out, Int.add_assoc]
        · rw [if_neg e, if_neg (fun e' => e ⟨e'.1.symm, e'.2.symm⟩), Int.add_zero]
    · rw [ht] at mf
      have HTT := (show Hid _ from ht)
      have HMF : Hid (f (la x0 x1) = some (.agg #[.int .i64 (dhi z), .int .u64 (dlo z), .int .i64 12])) := mf
      clear ht mf
      go_upto_region 9 with (refine lkS rfl _ _ 60 rfl 64 37 keyedA Tryd.underlying60 _ (zeroD _) q k f (by rfl) (HM1.out.step HBA.out) (.agg #[.int .i64 x0, .int .i64 x1]) (la x0 x1) (by rfl) HVA.out.key _ HMF.out ?_)
      have V7 := ((va_new wr [.int .i64 x0, .int .i64 x1, .int .i64 x2, .int .u64 x3, .int .i64 x4] 39).alloc (.cells #[.int .i64 x0, .int .i64 x1] 64)).alloc (.cells #[.int .i64 (dhi z), .int .u64 (dlo z), .int .i64 12] 37)
      have V8 := (va_new (wr.alloc (.cells #[.int .i64 x0, .int .i64 x1, .int .i64 x2, .int .u64 x3, .int .i64 x4] 39)) [.int .i64 x0, .int .i64 x1] 64).alloc (.cells #[.int .i64 (dhi z), .int .u64 (dlo z), .int .i64 12] 37)
      have V9 := va_new ((wr.alloc (.cells #[.int .i64 x0, .int .i64 x1, .int .i64 x2, .int .u64 x3, .int .i64 x4] 39)).alloc (.cells #[.int .i64 x0, .int .i64 x1] 64)) [.int .i64 (dhi z), .int .u64 (dlo z), .int .i64 12] 37
      rw [World.size_alloc] at V8
      rw [World.size_alloc, World.size_alloc] at V9
      have BB := HBA.out.alloc HBA.out.size (.cells #[.int .i64 (dhi z), .int .u64 (dlo z), .int .i64 12] 37)
      have HMX : Hid (MapF _ 64 q k f) := HM1.out.step BB
      have HBX := (show Hid _ from HB.out.trans (BB.mono (by have := HB.out.size; have := HQ.out; omega)))
      have HLX := (show Hid _ from HLd.out.step (by rw [HQ.out]; exact HBX.out))
      clear BB HBA HM1 HB c0 c1 c2 c3 c4
      generalize wr.heap.size = q7 at *
      generalize ((wr.alloc (.cells #[.int .i64 x0, .int .i64 x1, .int .i64 x2, .int .u64 x3, .int .i64 x4] 39)).alloc (.cells #[.int .i64 x0, .int .i64 x1] 64)).alloc (.cells #[.int .i64 (dhi z), .int .u64 (dlo z), .int .i64 12] 37) = w2 at *
      have HV7 := (show Hid _ from V7)
      have HV8 := (show Hid _ from V8)
      have HV9 := (show Hid _ from V9)
      clear V7 V8 V9
      refine wp_region_noPanic ?_
      refine wp_region_held_drew (S := fun w' => VA w' q7 [.int .i64 x0, .int .i64 x1, .int .i64 x2, .int .u64 x3, .int .i64 x4] 39 ∧ VA w' (q7 + 1) [.int .i64 x0, .int .i64 x1] 64 ∧ VA w' (q7 + 1 + 1) [.int .i64 (dhi z), .int .u64 (dlo z), .int .i64 12] 37) (by kernel_rfl) ⟨HV7.out.drew, HV8.out.drew, HV9.out.drew⟩ (fun hHeld => ?_)
      refine takeD 0 37 (.map (some q)) (by exact rfl) rfl (by kernel_rfl) (by kernel_rfl) (by kernel_rfl) (fun _ _ _ h => h) (Or.inl ⟨by rfl, ?_⟩) (by assumption) ?_
      · intro wq hS
        go_simp
      try simp only [Act.put, List.setIfInBounds_toArray, List.set_cons_zero, List.set_cons_succ]
      refine takeD 1 38 (.agg #[.int .i64 x0, .int .i64 x1]) (by exact rfl) rfl (by kernel_rfl) (by kernel_rfl) (by kernel_rfl) (fun _ _ _ h => h) (Or.inl ⟨by rfl, ?_⟩) (by assumption) ?_
      · intro wq hS
        have e0 := hS.2.1.cell 0 (v := .int .i64 x0) rfl
        have e1 := hS.2.1.cell 1 (v := .int .i64 x1) rfl
        go_simp
      try simp only [Act.put, List.setIfInBounds_toArray, List.set_cons_zero, List.set_cons_succ]
      refine takeD 2 39 (.agg #[.int .i64 (dhi z), .int .u64 (dlo z), .int .i64 12]) (by exact rfl) rfl (by kernel_rfl) (by kernel_rfl) (by kernel_rfl) (fun _ _ _ h => h) (Or.inl ⟨by rfl, ?_⟩) (by assumption) ?_
      · intro wq hS
        have e0 := hS.2.2.cell 0 (v := .int .i64 (dhi z)) rfl
        have e1 := hS.2.2.cell 1 (v := .int .u64 (dlo z)) rfl
        have e2 := hS.2.2.cell 2 (v := .int .i64 12) rfl
        go_simp
      try simp only [Act.put, List.setIfInBounds_toArray, List.set_cons_zero, List.set_cons_succ]
      refine takeD 3 40 (.pointer (some ⟨q7, 2, none⟩)) (by exact rfl) rfl (by kernel_rfl) (by kernel_rfl) (by kernel_rfl) (fun _ _ _ h => h) (Or.inl ⟨by rfl, ?_⟩) (by assumption) ?_
      · intro wq hS
        go_simp
      try simp only [Act.put, List.setIfInBounds_toArray, List.set_cons_zero, List.set_cons_succ]
      refine takeD 4 41 (.agg #[.int .i64 x2, .int .u64 x3, .int .i64 x4]) (by exact rfl) rfl (by kernel_rfl) (by kernel_rfl) (by kernel_rfl) (fun _ _ _ h => h) (Or.inl ⟨by rfl, ?_⟩) (by assumption) ?_
      · intro wq hS
        have e0 := hS.1.cell 2 (v := .int .i64 x2) rfl
        have e1 := hS.1.cell 3 (v := .int .u64 x3) rfl
        have e2 := hS.1.cell 4 (v := .int .i64 x4) rfl
        go_simp
      try simp only [Act.put, List.setIfInBounds_toArray, List.set_cons_zero, List.set_cons_succ]
      clear hHeld
      refine wpAnyH_ready (rs := [5]) (by kernel_rfl) (by simp) ?_
      refine AllReadyH.cons (by exact rfl) (fun K hK => ?_) AllReadyH.nil
      go_simp
      refine (HPL.out z HZB.out _).mono ?_
      rintro e w5 ⟨rfl, b3⟩
      have b3 : Below w2.heap.size w2 w5 := ((Below.refl w2.heap.size w2).drew).trans b3
      have HM3' : Hid (MapF w5 64 q k f) := HMX.out.step b3
      have HW7 := (show Hid _ from HV7.out.step b3)
      have HW8 := (show Hid _ from HV8.out.step b3)
      have HW9 := (show Hid _ from HV9.out.step b3)
      have HB3 := (show Hid _ from HBX.out.trans (b3.mono (by have := HBX.out.size; have := HQ.out; omega)))
      clear b3 HMX HV7 HV8 HV9 HBX HLX
      go_wp2_with fail
      refine hK.out _ _ ⟨HW7.out, HW8.out, HW9.out⟩ (fun hHeld => ?_)
      clear hK K hHeld
      try simp only [Act.put, List.setIfInBounds_toArray, List.set_cons_zero, List.set_cons_succ]
      refine wpAnyH_ready (rs := [6]) (by kernel_rfl) (by simp) ?_
      refine AllReadyH.cons (by exact rfl) (fun K hK => ?_) AllReadyH.nil
      skip
      refine stMd (by rfl) _ _ _ 60 (by rfl) 64 37 keyedA Tryd.underlying60 q k f (by rfl) HM3'.out (by have := HL16.out; have := HN.out; unfold maxLen; omega) (.agg #[.int .i64 x0, .int .i64 x1]) (dv (z + Ln.un ⟨x0, x1, x2, x3, x4⟩) 12) (la x0 x1) (by rfl) (by rfl) HVA.out.key ?_
      intro w6 m4 t4
      have M4 := AMap.put HM2.out HM3.out HVA.out m4
      have U4 := turned_but t4
      have AM3 : AMap w5 q k _ _ := ⟨f, HM3'.out, HM2.out, HM3.out⟩
      refine hK.out _ _ ⟨HW7.out.but U4 (HW7.out.notM AM3), HW8.out.but U4 (HW8.out.notM AM3), HW9.out.but U4 (HW9.out.notM AM3)⟩ (fun hHeld => ?_)
      clear hK K hHeld AM3
      refine wpAnyH_done (by kernel_rfl) ?_ _
      refine NoPanic.normal ?_
      have HM4 := (show Hid _ from M4)
      have HB4 := (show Hid _ from HB3.out.trans (U4.below (by have := HB3.out.size; have := HQ.out; omega) (fun i (hi : i = q) => by omega)))
      clear M4 U4 m4 t4 HM3'
      go_wp2_with fail
      refine ⟨⟨k + 1, by omega, by go_num, ?_, HB4.out⟩, by simp [intOf]; omega⟩
      refine HM4.out.congr (fun c u hv => ?_) (fun c u hv _ => ?_)
      · rw [HT.out c u hv]
        congr 1
        exact decide_eq_decide.2 ⟨fun e => ⟨e.1.symm, e.2.symm⟩, fun e => ⟨e.1.symm, e.2.symm⟩⟩
      · rw [HS.out c u hv]
        by_cases e : c = x0 ∧ u = x1
        · obtain ⟨rfl, rfl⟩ := e
          rw [if_pos ⟨rfl, rfl⟩, if_pos ⟨rfl, rfl⟩, HZ.out, Int.add_assoc]
        · rw [if_neg e, if_neg (fun e' => e ⟨e'.1.symm, e'.2.symm⟩), Int.add_zero]
end Go.Proofs.YtlgcbbnnldlooaaDoor
