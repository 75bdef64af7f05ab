/- accrue: the contract of yearly. -/
import Derived.Test.YtmaikgebdegkgaaKb
namespace Go.Proofs.Ytmaikgebdegkgaa
open Go.RowKit
set_option linter.unusedVariables false
attribute [local go_sem] ext_cell ext_frozen ext_drew ext_of_drew ext_of_drewN ext_setCell ext_lt ext_lt1 ext_lt2 ext_lt3 lt_n2 lt_n3 lt_n4 lt_n5 lt_n6

/-- a year's interest of the first k tiers, in billionths -/
def ysum (b : Int) (ts : List (Int × Int)) : Nat → Int
  | 0 => 0
  | k + 1 => ysum b ts k + prt b ts k * tr ts k
theorem term_bd {b : Int} {ts : List (Int × Int)} (hb : 0 ≤ b ∧ b ≤ 10000000000000) (h : terr ts = 0) (i : Nat) (hi : i < ts.length) : 0 ≤ prt b ts i * tr ts i ∧ prt b ts i * tr ts i ≤ 10000000000000000000000 := by
  have h1 := prt_bd hb h i hi
  have h2 := tf_bd h i hi
  refine ⟨Int.mul_nonneg h1.1 h2.2.2.1, ?_⟩
  have := Int.mul_le_mul (show prt b ts i ≤ 10000000000000 by omega) h2.2.2.2 h2.2.2.1 (by omega)
  exact this
theorem ysum_bd {b : Int} {ts : List (Int × Int)} (hb : 0 ≤ b ∧ b ≤ 10000000000000) (h : terr ts = 0) : ∀ k, k ≤ ts.length → 0 ≤ ysum b ts k ∧ ysum b ts k ≤ 10000000000000000000000 * k
  | 0, _ => by unfold ysum; omega
  | k + 1, hk => by
    have := ysum_bd hb h k (by omega)
    have := term_bd hb h k (by omega)
    unfold ysum
    omega
theorem in_small {x : Int} (h1 : 0 ≤ x) (h2 : x ≤ 1000000000000000000000000000000000000) : InR x := by
  constructor <;> (rw [M127_eq]; omega)
theorem add_int (x y : Int) (w : World) (hx : InR x) (hy : InR y) (hr : InR (x + y)) :
    Calls Try.prog 37 #[.agg (dcl x).toArray, .agg (dcl y).toArray] w fun e w' => e = .returned (.tuple #[.agg (dcl (x + y)).toArray, .int .i64 0]) ∧ Below w.heap.size w w' := by
  have e : tv x 0 y 0 = x + y := by unfold tv; simp
  have h := add_yes x y 0 0 w hx hy (by decide) (by decide) (by rw [e]; exact hr)
  rw [e] at h
  exact h
/-- all of a struct is stored, in a drawn region -/
theorem stAw {w : World} {y : Nat → Option Bool} {o : Oper} {a : Act} {Q : Exit → Act → World → Prop} {K : Act → World → Prop} {k0 : Prop} (hgd : Region.wanted o y = true) (t : TypeId) (x z : Operand) (ho : o.op = .store t x z)
    (p : Nat) (hx : a.eval x = .pointer (some ⟨p, 0, none⟩)) (cs ds : List Value) (hy : a.eval z = .agg ds.toArray) (T : TypeId) (h : VA w p cs T) (hi : (Try.prog.info? t).map (·.size) = some ds.length) (hl : cs.length = ds.length) (h1 : ∀ v ∈ ds, v.oneCell' = true)
    (k : ∀ w', VA w' p ds T → Upd p w w' → K (a.put o.dst undef) w') : if Region.wanted o y = true then o.wp Try.prog a w K Q else k0 := by
  rw [if_pos hgd]
  have hrun := run_storeVar_row (P := Try.prog) w p T t cs.toArray ds.toArray h.blk (by simpa using hi) (by simpa using hl) (Array.all_eq_true_iff_forall_mem.2 (fun v hv => h1 v (by simpa using hv)))
  unfold Oper.wp execOp
  simp only [ho, hx, hy, Instr.storeAt, Instr.sureAddr, Sem.run_bind, Sem.run_pure, Result.andThen_ok, hrun]
  exact k _ ⟨setRow_heap w p _ _ _ _ h.blk⟩ (upd_setRow w p _)
theorem cell_upd {w w' : World} {p q j : Nat} (k : Upd p w w') (h : q ≠ p) : w'.cell? ⟨q, j, none⟩ = w.cell? ⟨q, j, none⟩ := World.cell?_of_block (w := w) (w' := w') (a := ⟨q, j, none⟩) (k.block q h)
set_option maxHeartbeats 1000000 in
set_option maxRecDepth 100000 in
theorem yearly_ok (b : Int) (pv tv : Value) (ts : List (Int × Int)) (w : World) (hp : Is w pv (prts b ts ts.length)) (h : Tr w tv ts) (hb : 0 ≤ b ∧ b ≤ 10000000000000) (ht : terr ts = 0) :
    Calls Try.prog 22 #[pv, tv] w fun e w' => e = .returned (.agg (dcl (ysum b ts ts.length)).toArray) ∧ Below w.heap.size w w' := by
  obtain ⟨n, hn⟩ : ∃ n, n = ts.length := ⟨_, rfl⟩
  have H := (show Hid _ from h)
  obtain ⟨ta, tc, rfl, g1, g2⟩ : ∃ a c, tv = .slice a n c ∧ n ≤ c ∧ c ≤ 9223372036854775807 := by obtain ⟨_, a, c, e, h1, h2, _⟩ := h; exact ⟨a, c, by rw [hn]; exact e, by rw [hn]; exact h1, h2⟩
  rw [← hn] at hp ⊢
  have HI := (show Hid _ from hp)
  obtain ⟨pa, pc, rfl, k1, k2⟩ : ∃ a c, pv = .slice a n c ∧ n ≤ c ∧ c ≤ 9223372036854775807 := by obtain ⟨a, c, e, h1, h2, _⟩ := hp; rw [prts_len] at e h1; exact ⟨a, c, e, h1, h2⟩
  have hz := terr_zero ht
  have h8 : n ≤ 8 := by omega
  have h1 : 1 ≤ n := by omega
  have HN := (show Hid _ from hn)
  have HT := (show Hid _ from ht)
  have HBB := (show Hid _ from hb)
  clear h hn hz ht hb hp
  have R0 := (show Hid _ from va_new w zdl 56)
  have B0 := (show Hid _ from (Below.refl w.heap.size w).alloc (Nat.le_refl _) (.cells zdl.toArray 56))
  go_enter Try.func22, Try.ntmps22
  go_wp2_with fail
  refine (whole_ok 0 _ (by omega) (by omega)).mono ?_
  rintro e w1 ⟨rfl, b1⟩
  have R1 := (show Hid _ from (R0.out.step b1).alloc (.cells zdl.toArray 56))
  have V1 := (show Hid _ from va_new w1 zdl 56)
  have B1 := (show Hid _ from (B0.out.trans (b1.mono B0.out.size)).alloc (Nat.le_trans B0.out.size b1.size) (.cells zdl.toArray 56))
  have s1 : w.heap.size < w1.heap.size := (R0.out.step b1).lt
  clear R0 B0 b1
  go_wp2_with (refine stA rfl 56 _ _ rfl w1.heap.size (by rfl) zdl (dcl 0) (by rfl) 56 V1.out infoD rfl (dcl_one 0) ?_; intro w2 va up; have V2 := (show Hid _ from va); have R2 := (show Hid _ from R1.out.upd up (by omega)); have B2 := (show Hid _ from up.bel B1.out (by omega)); clear va up)
  go_loopw [11] (fun i wr => ∃ k : Nat, k ≤ n ∧ i = .int .i64 k ∧ Hid (VA wr w1.heap.size (dcl (ysum b ts k)) 56) ∧ Hid (VA wr w.heap.size zdl 56) ∧ Hid (Below w.heap.size w wr)) (fun i _ => n - (intOf i).toNat)
  case atStart => exact ⟨0, by omega, rfl, V2, R2, B2⟩
  case round =>
    obtain ⟨k, hk, rfl, v, r, hb⟩ := hrel
    by_cases hkn : k = n
    · subst hkn
      go_wp2_with (first | (refine ldA rfl 56 _ rfl w1.heap.size (by rfl) (dcl (ysum b ts k)) _ v.out _ Try.underlying56 rfl infoD ?_) | (refine stA rfl 56 _ _ rfl w.heap.size (by rfl) zdl (dcl (ysum b ts k)) (by rfl) 56 r.out infoD rfl (dcl_one _) ?_; intro w4 V4 U4))
      have hld := run_loadVar_row (P := Try.prog) w4 w.heap.size 56 56 _ (0, 0) _ V4.blk Try.underlying56 rfl infoD
      exact bodyPost_ret (v := .agg (dcl (ysum b ts k)).toArray) (by simp [results, Try.results22, asAddr, hld, Act.put]) rfl ⟨rfl, U4.bel hb.out (Nat.le_refl _)⟩
    have hk' : k < n := by omega
    have hlt : decide ((k : Int) < n) = true := decide_eq_true (by omega)
    obtain ⟨q, off, rfl, z1, z2⟩ := (H.out.step hb.out).cells k hk'
    have hf := tf_bd HT.out k (by have := HN.out; omega)
    have hpr := prt_bd HBB.out HT.out k (by have := HN.out; omega)
    have hys := ysum_bd HBB.out HT.out k (by have := HN.out; omega)
    have htm := term_bd HBB.out HT.out k (by have := HN.out; omega)
    obtain ⟨x, hx⟩ : ∃ x, x = tf ts k := ⟨_, rfl⟩
    obtain ⟨y, hy⟩ : ∃ y, y = tr ts k := ⟨_, rfl⟩
    rw [← hx] at z1
    rw [← hy] at z2 hf htm
    have HYY := (show Hid _ from hy)
    clear hx hy
    go_upto_region 5 with fail
    have hpi := HI.out.step hb.out
    obtain ⟨pa', pc', epa, _, _, hpx⟩ := hpi
    rw [prts_len] at epa hpx
    cases epa
    obtain ⟨pb, po, rfl, hpb, hpx⟩ := hpx (by omega)
    have hpc := hpx k hk'
    rw [prts_get _ _ _ _ hk'] at hpc
    obtain ⟨P, hP⟩ : ∃ P, P = prt b ts k := ⟨_, rfl⟩
    obtain ⟨Y, hY⟩ : ∃ Y, Y = ysum b ts k := ⟨_, rfl⟩
    rw [← hP] at hpc hpr htm
    rw [← hY] at hys v
    have HE : Hid (Y + P * y = ysum b ts (k + 1)) := by rw [hP, hY, HYY.out]; rfl
    have O : Obj := .cells #[.int .i64 x, .int .i64 y] 25
    have cA := (hpc : wr.cell? _ = _)
    have hA : (wr.alloc (.cells #[.int .i64 x, .int .i64 y] 25)).cell? ⟨pb, po + k, none⟩ = some (.int .i64 P) := by
      rw [((Below.refl wr.heap.size wr).alloc (Nat.le_refl _) _).cell (p := ⟨pb, po + k, none⟩) hpb]; exact hpc
    have VT := va_new wr [.int .i64 x, .int .i64 y] 25
    have hT : (wr.alloc (.cells #[.int .i64 x, .int .i64 y] 25)).cell? ⟨wr.heap.size, 1, none⟩ = some (.int .i64 y) := VT.cell 1 rfl
    have VS := v.out.alloc (.cells #[.int .i64 x, .int .i64 y] 25)
    have VR := r.out.alloc (.cells #[.int .i64 x, .int .i64 y] 25)
    have BB := hb.out.alloc hb.out.size (.cells #[.int .i64 x, .int .i64 y] 25)
    have s0 := VS.cell 0 (v := .int .i64 (dhi Y)) rfl
    have s2 := VS.cell 1 (v := .int .u64 (dlo Y)) rfl
    have s3 := VS.cell 2 (v := .int .i64 0) rfl
    have ls := VS.lt
    have lt := VT.lt
    have lp : pb < (wr.alloc (.cells #[.int .i64 x, .int .i64 y] 25)).heap.size := by simp; omega
    have hVS := (show Hid _ from VS)
    have hVR := (show Hid _ from VR)
    have hBB := (show Hid _ from BB)
    have HNE : Hid (pb < w1.heap.size ∧ w1.heap.size < wr.heap.size ∧ w.heap.size < w1.heap.size ∧ True) := by
      obtain ⟨a', c', e', _, _, hx'⟩ := HI.out
      rw [prts_len] at hx' e'
      obtain ⟨b', o', eb, hb', _⟩ := hx' (by omega)
      cases e'
      cases eb
      exact ⟨Nat.lt_trans hb' s1, v.out.lt, s1, trivial⟩
    have HP := (show Hid _ from And.intro hpr (And.intro hys (And.intro htm hf)))
    have bb := HBB.out.2
    clear hpx hpc cA O VT VS VR BB hP hY hpr hys htm hf z1 z2 hpb
    generalize (wr.alloc (.cells #[.int .i64 x, .int .i64 y] 25)) = W at *
    generalize wr.heap.size = tb at *
    refine wp_region_noPanic ?_
    refine wp_region_held_drew (S := fun w' => w'.cell? ⟨pb, po + k, none⟩ = some (.int .i64 P) ∧ w'.cell? ⟨tb, 1, none⟩ = some (.int .i64 y) ∧ pb < w'.heap.size ∧ tb < w'.heap.size) (by kernel_rfl) ⟨hA, hT, lp, lt⟩ (fun hHeld => ?_)
    refine takeD 1 18 (.slice (some ⟨pb, po, none⟩) n pc) (by exact rfl) rfl (by kernel_rfl) (by kernel_rfl) (by kernel_rfl) (fun _ _ _ h => h) (Or.inl ⟨by rfl, ?_⟩) (by assumption) ?_
    · intro wq hS
      go_simp
    simp only [Act.put, List.setIfInBounds_toArray, List.set_cons_zero, List.set_cons_succ]
    refine takeD 2 19 (.int .i64 (k : Int)) (by exact rfl) rfl (by kernel_rfl) (by kernel_rfl) (by kernel_rfl) (fun _ _ _ h => h) (Or.inl ⟨by rfl, ?_⟩) (by assumption) ?_
    · intro wq hS
      go_simp
    simp only [Act.put, List.setIfInBounds_toArray, List.set_cons_zero, List.set_cons_succ]
    refine takeD 3 20 (.pointer (some ⟨pb, po + k, none⟩)) (by exact rfl) rfl (by kernel_rfl) (by kernel_rfl) (by kernel_rfl) (fun _ _ _ h => h) (Or.inl ⟨by rfl, ?_⟩) (by assumption) ?_
    · intro wq hS
      go_simp
    simp only [Act.put, List.setIfInBounds_toArray, List.set_cons_zero, List.set_cons_succ]
    refine takeD 4 21 (.int .i64 P) (by exact rfl) rfl (by kernel_rfl) (by kernel_rfl) (by kernel_rfl) (fun _ _ _ h => h) (Or.inl ⟨by rfl, ?_⟩) (by assumption) ?_
    · intro wq hS
      obtain ⟨h1, h2, h3, h4⟩ := hS
      go_simp
    simp only [Act.put, List.setIfInBounds_toArray, List.set_cons_zero, List.set_cons_succ]
    refine takeD 6 23 (.pointer (some ⟨tb, 1, none⟩)) (by exact rfl) rfl (by kernel_rfl) (by kernel_rfl) (by kernel_rfl) (fun _ _ _ h => h) (Or.inl ⟨by rfl, ?_⟩) (by assumption) ?_
    · intro wq hS
      go_simp
    simp only [Act.put, List.setIfInBounds_toArray, List.set_cons_zero, List.set_cons_succ]
    refine takeD 7 24 (.int .i64 y) (by exact rfl) rfl (by kernel_rfl) (by kernel_rfl) (by kernel_rfl) (fun _ _ _ h => h) (Or.inl ⟨by rfl, ?_⟩) (by assumption) ?_
    · intro wq hS
      obtain ⟨h1, h2, h3, h4⟩ := hS
      go_simp
    simp only [Act.put, List.setIfInBounds_toArray, List.set_cons_zero, List.set_cons_succ]
    clear hHeld
    have VSz := (show Hid _ from hVS.out.drew)
    have VRz := (show Hid _ from hVR.out.drew)
    have BBz := (show Hid _ from hBB.out.drew)
    have SSz := (show Hid (W.drew.cell? ⟨pb, po + k, none⟩ = some (.int .i64 P) ∧ W.drew.cell? ⟨tb, 1, none⟩ = some (.int .i64 y) ∧ pb < W.drew.heap.size ∧ tb < W.drew.heap.size) from ⟨hA, hT, lp, lt⟩)
    clear hA hT lp lt s0 s2 s3 ls hVS hVR hBB
    generalize W.drew = wz at *
    refine wpAnyH_ready (rs := [0, 5]) (by kernel_rfl) (by simp) ?_
    refine AllReadyH.cons (by exact rfl) (fun K hK => ?_) (AllReadyH.cons (by exact rfl) (fun K hK => ?_) AllReadyH.nil)
    · have q0 := VSz.out.cell 0 (v := .int .i64 (dhi Y)) rfl
      have q1 := VSz.out.cell 1 (v := .int .u64 (dlo Y)) rfl
      have q2 := VSz.out.cell 2 (v := .int .i64 0) rfl
      have ql := VSz.out.lt
      go_simp
      refine hK.out _ _ SSz.out (fun hHeld => ?_)
      try simp only [Act.put, List.setIfInBounds_toArray, List.set_cons_zero, List.set_cons_succ]
      clear hK K hHeld q0 q1 q2 ql
      refine wpAnyH_ready (rs := [5]) (by kernel_rfl) (by simp) ?_
      refine AllReadyH.cons (by exact rfl) (fun K hK => ?_) AllReadyH.nil
      go_simp
      refine (whole_ok P _ (by have := HP.out; omega) (by have := HP.out; omega)).mono ?_
      rintro e wc1 ⟨rfl, bc1⟩
      have VSc1 := (show Hid _ from VSz.out.step bc1)
      have VRc1 := (show Hid _ from VRz.out.step bc1)
      have BBc1 := (show Hid _ from BBz.out.trans (bc1.mono BBz.out.size))
      have SSc1 := (show Hid (_ ∧ _ ∧ _ ∧ _) from ⟨(bc1.cell (p := ⟨pb, po + k, none⟩) SSz.out.2.2.1).trans SSz.out.1, (bc1.cell (p := ⟨tb, 1, none⟩) SSz.out.2.2.2).trans SSz.out.2.1, Nat.lt_of_lt_of_le SSz.out.2.2.1 bc1.size, Nat.lt_of_lt_of_le SSz.out.2.2.2 bc1.size⟩)
      clear bc1
      go_wp2_with fail
      refine hK.out _ _ SSc1.out (fun hHeld => ?_)
      try simp only [Act.put, List.setIfInBounds_toArray, List.set_cons_zero, List.set_cons_succ]
      clear hK K hHeld
      refine wpAnyH_ready (rs := [8]) (by kernel_rfl) (by simp) ?_
      refine AllReadyH.cons (by exact rfl) (fun K hK => ?_) AllReadyH.nil
      go_simp
      refine (times_ok P y _ (in_small (by have := HP.out; omega) (by have := HP.out; omega)) (by have := HP.out; omega) (by have := HP.out; omega) (in_small (by have := HP.out; omega) (by have := HP.out; omega))).mono ?_
      rintro e wc2 ⟨rfl, bc2⟩
      have VSc2 := (show Hid _ from VSc1.out.step bc2)
      have VRc2 := (show Hid _ from VRc1.out.step bc2)
      have BBc2 := (show Hid _ from BBc1.out.trans (bc2.mono BBc1.out.size))
      have SSc2 := (show Hid (_ ∧ _ ∧ _ ∧ _) from ⟨(bc2.cell (p := ⟨pb, po + k, none⟩) SSc1.out.2.2.1).trans SSc1.out.1, (bc2.cell (p := ⟨tb, 1, none⟩) SSc1.out.2.2.2).trans SSc1.out.2.1, Nat.lt_of_lt_of_le SSc1.out.2.2.1 bc2.size, Nat.lt_of_lt_of_le SSc1.out.2.2.2 bc2.size⟩)
      clear bc2
      go_wp2_with fail
      refine hK.out _ _ SSc2.out (fun hHeld => ?_)
      try simp only [Act.put, List.setIfInBounds_toArray, List.set_cons_zero, List.set_cons_succ]
      clear hK K hHeld
      refine wpAnyH_ready (rs := [9]) (by kernel_rfl) (by simp) ?_
      refine AllReadyH.cons (by exact rfl) (fun K hK => ?_) AllReadyH.nil
      go_simp
      refine (add_int Y (P * y) _ (in_small (by have := HP.out; omega) (by have := HP.out; omega)) (in_small (by have := HP.out; omega) (by have := HP.out; omega)) (in_small (by have := HP.out; omega) (by have := HP.out; omega))).mono ?_
      rintro e wc3 ⟨rfl, bc3⟩
      have VSc3 := (show Hid _ from VSc2.out.step bc3)
      have VRc3 := (show Hid _ from VRc2.out.step bc3)
      have BBc3 := (show Hid _ from BBc2.out.trans (bc3.mono BBc2.out.size))
      have SSc3 := (show Hid (_ ∧ _ ∧ _ ∧ _) from ⟨(bc3.cell (p := ⟨pb, po + k, none⟩) SSc2.out.2.2.1).trans SSc2.out.1, (bc3.cell (p := ⟨tb, 1, none⟩) SSc2.out.2.2.2).trans SSc2.out.2.1, Nat.lt_of_lt_of_le SSc2.out.2.2.1 bc3.size, Nat.lt_of_lt_of_le SSc2.out.2.2.2 bc3.size⟩)
      clear bc3
      go_wp2_with fail
      refine hK.out _ _ SSc3.out (fun hHeld => ?_)
      try simp only [Act.put, List.setIfInBounds_toArray, List.set_cons_zero, List.set_cons_succ]
      clear hK K hHeld
      have hHeld := SSc3.out
      refine takeD 10 16 (.tuple #[.agg (dcl (Y + P * y)).toArray, .int .i64 0]) (by exact rfl) rfl (by kernel_rfl) (by kernel_rfl) (by kernel_rfl) (fun _ _ _ h => h) (Or.inl ⟨by rfl, ?_⟩) (by assumption) ?_
      · intro wq hS
        go_simp
      simp only [Act.put, List.setIfInBounds_toArray, List.set_cons_zero, List.set_cons_succ]
      refine takeD 11 27 (.agg (dcl (Y + P * y)).toArray) (by exact rfl) rfl (by kernel_rfl) (by kernel_rfl) (by kernel_rfl) (fun _ _ _ h => h) (Or.inl ⟨by rfl, ?_⟩) (by assumption) ?_
      · intro wq hS
        go_simp
      simp only [Act.put, List.setIfInBounds_toArray, List.set_cons_zero, List.set_cons_succ]
      refine takeD 12 28 (.int .i64 0) (by exact rfl) rfl (by kernel_rfl) (by kernel_rfl) (by kernel_rfl) (fun _ _ _ h => h) (Or.inl ⟨by rfl, ?_⟩) (by assumption) ?_
      · intro wq hS
        go_simp
      simp only [Act.put, List.setIfInBounds_toArray, List.set_cons_zero, List.set_cons_succ]
      refine wpAnyH_ready (rs := [13]) (by kernel_rfl) (by simp) ?_
      refine AllReadyH.cons (by exact rfl) (fun K hK => ?_) AllReadyH.nil
      refine stAw (by rfl) 56 _ _ (by rfl) w1.heap.size (by rfl) (dcl Y) (dcl (Y + P * y)) (by rfl) 56 VSc3.out infoD rfl (dcl_one _) ?_
      intro w9 v9 u9
      refine hK.out _ _ ⟨(cell_upd u9 (Nat.ne_of_lt HNE.out.1)).trans SSc3.out.1, (cell_upd u9 (Nat.ne_of_gt HNE.out.2.1)).trans SSc3.out.2.1, by rw [u9.size]; exact SSc3.out.2.2.1, by rw [u9.size]; exact SSc3.out.2.2.2⟩ (fun hHeld => ?_)
      clear hK K hHeld
      try simp only [Act.put, List.setIfInBounds_toArray]
      refine wpAnyH_done (by kernel_rfl) ?_ _
      refine NoPanic.normal ?_
      have V9 := (show Hid _ from v9)
      have R9 := (show Hid _ from VRc3.out.upd u9 (Nat.ne_of_lt HNE.out.2.2.1))
      have B9 := (show Hid _ from u9.bel BBc3.out (Nat.le_of_lt HNE.out.2.2.1))
      clear v9 u9
      go_wp2_with fail
      exact ⟨⟨k + 1, by omega, by simp, by rw [← HE.out]; exact V9, R9, B9⟩, by simp [intOf]; omega⟩
    · go_simp
      refine (whole_ok P _ (by have := HP.out; omega) (by have := HP.out; omega)).mono ?_
      rintro e wc4 ⟨rfl, bc4⟩
      have VSc4 := (show Hid _ from VSz.out.step bc4)
      have VRc4 := (show Hid _ from VRz.out.step bc4)
      have BBc4 := (show Hid _ from BBz.out.trans (bc4.mono BBz.out.size))
      have SSc4 := (show Hid (_ ∧ _ ∧ _ ∧ _) from ⟨(bc4.cell (p := ⟨pb, po + k, none⟩) SSz.out.2.2.1).trans SSz.out.1, (bc4.cell (p := ⟨tb, 1, none⟩) SSz.out.2.2.2).trans SSz.out.2.1, Nat.lt_of_lt_of_le SSz.out.2.2.1 bc4.size, Nat.lt_of_lt_of_le SSz.out.2.2.2 bc4.size⟩)
      clear bc4
      go_wp2_with fail
      refine hK.out _ _ SSc4.out (fun hHeld => ?_)
      try simp only [Act.put, List.setIfInBounds_toArray, List.set_cons_zero, List.set_cons_succ]
      clear hK K hHeld
      refine wpAnyH_ready (rs := [0, 8]) (by kernel_rfl) (by simp) ?_
      refine AllReadyH.cons (by exact rfl) (fun K hK => ?_) (AllReadyH.cons (by exact rfl) (fun K hK => ?_) AllReadyH.nil)
      · have q0 := VSc4.out.cell 0 (v := .int .i64 (dhi Y)) rfl
        have q1 := VSc4.out.cell 1 (v := .int .u64 (dlo Y)) rfl
        have q2 := VSc4.out.cell 2 (v := .int .i64 0) rfl
        have ql := VSc4.out.lt
        go_simp
        refine hK.out _ _ SSc4.out (fun hHeld => ?_)
        try simp only [Act.put, List.setIfInBounds_toArray, List.set_cons_zero, List.set_cons_succ]
        clear hK K hHeld q0 q1 q2 ql
        refine wpAnyH_ready (rs := [8]) (by kernel_rfl) (by simp) ?_
        refine AllReadyH.cons (by exact rfl) (fun K hK => ?_) AllReadyH.nil
        go_simp
        refine (times_ok P y _ (in_small (by have := HP.out; omega) (by have := HP.out; omega)) (by have := HP.out; omega) (by have := HP.out; omega) (in_small (by have := HP.out; omega) (by have := HP.out; omega))).mono ?_
        rintro e wc5 ⟨rfl, bc5⟩
        have VSc5 := (show Hid _ from VSc4.out.step bc5)
        have VRc5 := (show Hid _ from VRc4.out.step bc5)
        have BBc5 := (show Hid _ from BBc4.out.trans (bc5.mono BBc4.out.size))
        have SSc5 := (show Hid (_ ∧ _ ∧ _ ∧ _) from ⟨(bc5.cell (p := ⟨pb, po + k, none⟩) SSc4.out.2.2.1).trans SSc4.out.1, (bc5.cell (p := ⟨tb, 1, none⟩) SSc4.out.2.2.2).trans SSc4.out.2.1, Nat.lt_of_lt_of_le SSc4.out.2.2.1 bc5.size, Nat.lt_of_lt_of_le SSc4.out.2.2.2 bc5.size⟩)
        clear bc5
        go_wp2_with fail
        refine hK.out _ _ SSc5.out (fun hHeld => ?_)
        try simp only [Act.put, List.setIfInBounds_toArray, List.set_cons_zero, List.set_cons_succ]
        clear hK K hHeld
        refine wpAnyH_ready (rs := [9]) (by kernel_rfl) (by simp) ?_
        refine AllReadyH.cons (by exact rfl) (fun K hK => ?_) AllReadyH.nil
        go_simp
        refine (add_int Y (P * y) _ (in_small (by have := HP.out; omega) (by have := HP.out; omega)) (in_small (by have := HP.out; omega) (by have := HP.out; omega)) (in_small (by have := HP.out; omega) (by have := HP.out; omega))).mono ?_
        rintro e wc6 ⟨rfl, bc6⟩
        have VSc6 := (show Hid _ from VSc5.out.step bc6)
        have VRc6 := (show Hid _ from VRc5.out.step bc6)
        have BBc6 := (show Hid _ from BBc5.out.trans (bc6.mono BBc5.out.size))
        have SSc6 := (show Hid (_ ∧ _ ∧ _ ∧ _) from ⟨(bc6.cell (p := ⟨pb, po + k, none⟩) SSc5.out.2.2.1).trans SSc5.out.1, (bc6.cell (p := ⟨tb, 1, none⟩) SSc5.out.2.2.2).trans SSc5.out.2.1, Nat.lt_of_lt_of_le SSc5.out.2.2.1 bc6.size, Nat.lt_of_lt_of_le SSc5.out.2.2.2 bc6.size⟩)
        clear bc6
        go_wp2_with fail
        refine hK.out _ _ SSc6.out (fun hHeld => ?_)
        try simp only [Act.put, List.setIfInBounds_toArray, List.set_cons_zero, List.set_cons_succ]
        clear hK K hHeld
        have hHeld := SSc6.out
        refine takeD 10 16 (.tuple #[.agg (dcl (Y + P * y)).toArray, .int .i64 0]) (by exact rfl) rfl (by kernel_rfl) (by kernel_rfl) (by kernel_rfl) (fun _ _ _ h => h) (Or.inl ⟨by rfl, ?_⟩) (by assumption) ?_
        · intro wq hS
          go_simp
        simp only [Act.put, List.setIfInBounds_toArray, List.set_cons_zero, List.set_cons_succ]
        refine takeD 11 27 (.agg (dcl (Y + P * y)).toArray) (by exact rfl) rfl (by kernel_rfl) (by kernel_rfl) (by kernel_rfl) (fun _ _ _ h => h) (Or.inl ⟨by rfl, ?_⟩) (by assumption) ?_
        · intro wq hS
          go_simp
        simp only [Act.put, List.setIfInBounds_toArray, List.set_cons_zero, List.set_cons_succ]
        refine takeD 12 28 (.int .i64 0) (by exact rfl) rfl (by kernel_rfl) (by kernel_rfl) (by kernel_rfl) (fun _ _ _ h => h) (Or.inl ⟨by rfl, ?_⟩) (by assumption) ?_
        · intro wq hS
          go_simp
        simp only [Act.put, List.setIfInBounds_toArray, List.set_cons_zero, List.set_cons_succ]
        refine wpAnyH_ready (rs := [13]) (by kernel_rfl) (by simp) ?_
        refine AllReadyH.cons (by exact rfl) (fun K hK => ?_) AllReadyH.nil
        refine stAw (by rfl) 56 _ _ (by rfl) w1.heap.size (by rfl) (dcl Y) (dcl (Y + P * y)) (by rfl) 56 VSc6.out infoD rfl (dcl_one _) ?_
        intro w9 v9 u9
        refine hK.out _ _ ⟨(cell_upd u9 (Nat.ne_of_lt HNE.out.1)).trans SSc6.out.1, (cell_upd u9 (Nat.ne_of_gt HNE.out.2.1)).trans SSc6.out.2.1, by rw [u9.size]; exact SSc6.out.2.2.1, by rw [u9.size]; exact SSc6.out.2.2.2⟩ (fun hHeld => ?_)
        clear hK K hHeld
        try simp only [Act.put, List.setIfInBounds_toArray]
        refine wpAnyH_done (by kernel_rfl) ?_ _
        refine NoPanic.normal ?_
        have V9 := (show Hid _ from v9)
        have R9 := (show Hid _ from VRc6.out.upd u9 (Nat.ne_of_lt HNE.out.2.2.1))
        have B9 := (show Hid _ from u9.bel BBc6.out (Nat.le_of_lt HNE.out.2.2.1))
        clear v9 u9
        go_wp2_with fail
        exact ⟨⟨k + 1, by omega, by simp, by rw [← HE.out]; exact V9, R9, B9⟩, by simp [intOf]; omega⟩
      · go_simp
        refine (times_ok P y _ (in_small (by have := HP.out; omega) (by have := HP.out; omega)) (by have := HP.out; omega) (by have := HP.out; omega) (in_small (by have := HP.out; omega) (by have := HP.out; omega))).mono ?_
        rintro e wc7 ⟨rfl, bc7⟩
        have VSc7 := (show Hid _ from VSc4.out.step bc7)
        have VRc7 := (show Hid _ from VRc4.out.step bc7)
        have BBc7 := (show Hid _ from BBc4.out.trans (bc7.mono BBc4.out.size))
        have SSc7 := (show Hid (_ ∧ _ ∧ _ ∧ _) from ⟨(bc7.cell (p := ⟨pb, po + k, none⟩) SSc4.out.2.2.1).trans SSc4.out.1, (bc7.cell (p := ⟨tb, 1, none⟩) SSc4.out.2.2.2).trans SSc4.out.2.1, Nat.lt_of_lt_of_le SSc4.out.2.2.1 bc7.size, Nat.lt_of_lt_of_le SSc4.out.2.2.2 bc7.size⟩)
        clear bc7
        go_wp2_with fail
        refine hK.out _ _ SSc7.out (fun hHeld => ?_)
        try simp only [Act.put, List.setIfInBounds_toArray, List.set_cons_zero, List.set_cons_succ]
        clear hK K hHeld
        refine wpAnyH_ready (rs := [0]) (by kernel_rfl) (by simp) ?_
        refine AllReadyH.cons (by exact rfl) (fun K hK => ?_) AllReadyH.nil
        have q0 := VSc7.out.cell 0 (v := .int .i64 (dhi Y)) rfl
        have q1 := VSc7.out.cell 1 (v := .int .u64 (dlo Y)) rfl
        have q2 := VSc7.out.cell 2 (v := .int .i64 0) rfl
        have ql := VSc7.out.lt
        go_simp
        refine hK.out _ _ SSc7.out (fun hHeld => ?_)
        try simp only [Act.put, List.setIfInBounds_toArray, List.set_cons_zero, List.set_cons_succ]
        clear hK K hHeld q0 q1 q2 ql
        refine wpAnyH_ready (rs := [9]) (by kernel_rfl) (by simp) ?_
        refine AllReadyH.cons (by exact rfl) (fun K hK => ?_) AllReadyH.nil
        go_simp
        refine (add_int Y (P * y) _ (in_small (by have := HP.out; omega) (by have := HP.out; omega)) (in_small (by have := HP.out; omega) (by have := HP.out; omega)) (in_small (by have := HP.out; omega) (by have := HP.out; omega))).mono ?_
        rintro e wc8 ⟨rfl, bc8⟩
        have VSc8 := (show Hid _ from VSc7.out.step bc8)
        have VRc8 := (show Hid _ from VRc7.out.step bc8)
        have BBc8 := (show Hid _ from BBc7.out.trans (bc8.mono BBc7.out.size))
        have SSc8 := (show Hid (_ ∧ _ ∧ _ ∧ _) from ⟨(bc8.cell (p := ⟨pb, po + k, none⟩) SSc7.out.2.2.1).trans SSc7.out.1, (bc8.cell (p := ⟨tb, 1, none⟩) SSc7.out.2.2.2).trans SSc7.out.2.1, Nat.lt_of_lt_of_le SSc7.out.2.2.1 bc8.size, Nat.lt_of_lt_of_le SSc7.out.2.2.2 bc8.size⟩)
        clear bc8
        go_wp2_with fail
        refine hK.out _ _ SSc8.out (fun hHeld => ?_)
        try simp only [Act.put, List.setIfInBounds_toArray, List.set_cons_zero, List.set_cons_succ]
        clear hK K hHeld
        have hHeld := SSc8.out
        refine takeD 10 16 (.tuple #[.agg (dcl (Y + P * y)).toArray, .int .i64 0]) (by exact rfl) rfl (by kernel_rfl) (by kernel_rfl) (by kernel_rfl) (fun _ _ _ h => h) (Or.inl ⟨by rfl, ?_⟩) (by assumption) ?_
        · intro wq hS
          go_simp
        simp only [Act.put, List.setIfInBounds_toArray, List.set_cons_zero, List.set_cons_succ]
        refine takeD 11 27 (.agg (dcl (Y + P * y)).toArray) (by exact rfl) rfl (by kernel_rfl) (by kernel_rfl) (by kernel_rfl) (fun _ _ _ h => h) (Or.inl ⟨by rfl, ?_⟩) (by assumption) ?_
        · intro wq hS
          go_simp
        simp only [Act.put, List.setIfInBounds_toArray, List.set_cons_zero, List.set_cons_succ]
        refine takeD 12 28 (.int .i64 0) (by exact rfl) rfl (by kernel_rfl) (by kernel_rfl) (by kernel_rfl) (fun _ _ _ h => h) (Or.inl ⟨by rfl, ?_⟩) (by assumption) ?_
        · intro wq hS
          go_simp
        simp only [Act.put, List.setIfInBounds_toArray, List.set_cons_zero, List.set_cons_succ]
        refine wpAnyH_ready (rs := [13]) (by kernel_rfl) (by simp) ?_
        refine AllReadyH.cons (by exact rfl) (fun K hK => ?_) AllReadyH.nil
        refine stAw (by rfl) 56 _ _ (by rfl) w1.heap.size (by rfl) (dcl Y) (dcl (Y + P * y)) (by rfl) 56 VSc8.out infoD rfl (dcl_one _) ?_
        intro w9 v9 u9
        refine hK.out _ _ ⟨(cell_upd u9 (Nat.ne_of_lt HNE.out.1)).trans SSc8.out.1, (cell_upd u9 (Nat.ne_of_gt HNE.out.2.1)).trans SSc8.out.2.1, by rw [u9.size]; exact SSc8.out.2.2.1, by rw [u9.size]; exact SSc8.out.2.2.2⟩ (fun hHeld => ?_)
        clear hK K hHeld
        try simp only [Act.put, List.setIfInBounds_toArray]
        refine wpAnyH_done (by kernel_rfl) ?_ _
        refine NoPanic.normal ?_
        have V9 := (show Hid _ from v9)
        have R9 := (show Hid _ from VRc8.out.upd u9 (Nat.ne_of_lt HNE.out.2.2.1))
        have B9 := (show Hid _ from u9.bel BBc8.out (Nat.le_of_lt HNE.out.2.2.1))
        clear v9 u9
        go_wp2_with fail
        exact ⟨⟨k + 1, by omega, by simp, by rw [← HE.out]; exact V9, R9, B9⟩, by simp [intOf]; omega⟩
end Go.Proofs.Ytmaikgebdegkgaa
