/- chart: Total. -/
import Derived.Test.YtlgcbbnnldlooaaDoorCtk
namespace Go.Proofs.YtlgcbbnnldlooaaDoor
open Go.RowKit Go.Maps
set_option linter.unusedVariables false
attribute [local go_sem] ext_cell ext_frozen ext_drew ext_of_drew ext_of_drewN ext_setCell ext_lt ext_lt1 ext_lt2 ext_lt3 lt_n2 lt_n3 lt_n4 lt_n5 lt_n6

/-- the sum of a currency's balances, of the first k accounts -/
def tsum (b : Int → Int → Int) (u : Int) (k : Nat) : Int := ((accs k).map (fun a => if a.2 = u then b a.1 a.2 else 0)).sum
theorem tsum_succ (b : Int → Int → Int) (u : Int) (k : Nat) : tsum b u (k + 1) = tsum b u k + if (acc k).2 = u then b (acc k).1 (acc k).2 else 0 := by
  unfold tsum
  rw [accs_succ]
  simp
theorem tsum_bd {b : Int → Int → Int} (hb : ∀ c u, Va c u → -M36 ≤ b c u ∧ b c u ≤ M36) (u : Int) : ∀ k : Nat, k ≤ 32 → -((k : Int) * M36) ≤ tsum b u k ∧ tsum b u k ≤ (k : Int) * M36
  | 0, _ => by simp [tsum, accs]
  | k + 1, h => by
    have h1 := tsum_bd hb u k (by omega)
    have h2 := hb _ _ (acc_va (show k < 32 by omega))
    rw [tsum_succ, show (((k + 1 : Nat) : Int)) * M36 = (k : Int) * M36 + M36 by rw [Int.natCast_add, Int.add_mul]; simp]
    have h0 : (0 : Int) ≤ M36 := by decide
    split <;> omega
theorem inr_big {z : Int} (h : -(40 * M36) ≤ z ∧ z ≤ 40 * M36) : InR z := by
  unfold M36 at h
  refine ⟨?_, ?_⟩ <;> (unfold M127; omega)
theorem plus_12 (z y : Int) (hz : -(32 * M36) ≤ z ∧ z ≤ 32 * M36) (hy : -M36 ≤ y ∧ y ≤ M36) (w : World) :
    Calls Tryd.prog 40 #[.agg #[.int .i64 (dhi z), .int .u64 (dlo z), .int .i64 12], .agg #[.int .i64 (dhi y), .int .u64 (dlo y), .int .i64 12]] w fun e w' => e = .returned (dv (z + y) 12) ∧ Below w.heap.size w w' := by
  have et : tv z 12 y 12 = z + y := by unfold tv; simp
  have := cplus_ok z y 12 12 w (inr_big (by unfold M36 at *; omega)) (inr_big (by unfold M36 at *; omega)) (by decide) (by decide) (by rw [et]; exact inr_big (by unfold M36 at *; omega))
  rw [et] at this
  exact this
theorem total_bad (a : Option Addr) (w : World) (u : Int) (h : wi u 0 3 = false) :
    Calls Tryd.prog 17 #[.pointer a, .int .i64 u] w fun e w' => e = .returned (.tuple #[.agg #[.int .i64 0, .int .u64 0, .int .i64 0], .int .i64 1]) ∧ Below w.heap.size w w' := by
  go_enter Tryd.func17, Tryd.ntmps17
  go_wp2_with fail
  refine (ccur_ok _ _).mono ?_
  rintro e w2 ⟨rfl, b2⟩
  obtain ⟨x2, rfl⟩ := ext_of_below b2; clear b2
  rw [h]
  go_wp2_with fail
  refine bodyPost_ret (v := .tuple #[.agg #[.int .i64 0, .int .u64 0, .int .i64 0], .int .i64 1]) (by simp [results, Tryd.results17, go_sem]) rfl ⟨rfl, ?_⟩
  repeat (first | exact Below.refl _ _ | refine Below.drew ?_ | refine below_drewN ?_ _ | refine bel_alloc ?_ _ | refine bel_ext ?_ _ | (refine Below.setCell ?_ ?_ _; rotate_left; (simp <;> omega)))
theorem total_nil (w : World) (u : Int) (h : wi u 0 3 = true) :
    Calls Tryd.prog 17 #[.pointer none, .int .i64 u] w fun e w' => e = .returned (.tuple #[.agg #[.int .i64 0, .int .u64 0, .int .i64 0], .int .i64 7]) ∧ Below w.heap.size w w' := by
  go_enter Tryd.func17, Tryd.ntmps17
  go_wp2_with fail
  refine (ccur_ok _ _).mono ?_
  rintro e w2 ⟨rfl, b2⟩
  obtain ⟨x2, rfl⟩ := ext_of_below b2; clear b2
  rw [h]
  go_wp2_with fail
  refine bodyPost_ret (v := .tuple #[.agg #[.int .i64 0, .int .u64 0, .int .i64 0], .int .i64 7]) (by simp [results, Tryd.results17, go_sem]) rfl ⟨rfl, ?_⟩
  repeat (first | exact Below.refl _ _ | refine Below.drew ?_ | refine below_drewN ?_ _ | refine bel_alloc ?_ _ | refine bel_ext ?_ _ | (refine Below.setCell ?_ ?_ _; rotate_left; (simp <;> omega)))
set_option maxHeartbeats 4000000 in
set_option maxRecDepth 100000 in
theorem total_ok (p m : Nat) (b : Int → Int → Int) (n : Int) (w : World) (L : Led w p m b n) (u : Int) (h : wi u 0 3 = true) :
    Calls Tryd.prog 17 #[.pointer (some ⟨p, 0, none⟩), .int .i64 u] w fun e w' => e = .returned (.tuple #[dv (tsum b u 32) 12, .int .i64 0]) ∧ Below w.heap.size w w' := by
  have HL := (show Hid _ from L)
  clear L
  go_enter Tryd.func17, Tryd.ntmps17
  go_wp2_with fail
  refine (ccur_ok _ _).mono ?_
  rintro e w1 ⟨rfl, b1⟩
  rw [h]
  have HR1 := (show Hid _ from (va_new w [.int .i64 0, .int .u64 0, .int .i64 0] 37).step b1)
  have HB1 := (show Hid _ from below_over b1)
  clear b1
  go_wp2_with fail
  refine (nought_ok _).mono ?_
  rintro e w2 ⟨rfl, b2⟩
  have HR2 := (show Hid _ from HR1.out.step b2)
  have HB2 := (show Hid _ from HB1.out.trans (b2.mono HB1.out.size))
  clear b2 HR1 HB1
  rw [show dv 0 12 = .agg #[.int .i64 0, .int .u64 0, .int .i64 12] by unfold dv; rw [dhi0, dlo0]]
  go_wp2_with fail
  refine (accounts_ok _).mono ?_
  rintro e w3 ⟨⟨v, rfl, o3⟩, b3⟩
  obtain ⟨va, vc, rfl, l1, l2⟩ := o3.form
  rw [accs_len] at o3 l1 ⊢
  have HO := (show Hid _ from o3)
  have HT3 : Hid (VA w3 w2.heap.size [.int .i64 0, .int .u64 0, .int .i64 12] 37) := (va_new w2 [.int .i64 0, .int .u64 0, .int .i64 12] 37).step b3
  have b3' := below_over b3
  have HR3 := (show Hid _ from HR2.out.step b3')
  have HB3 := (show Hid _ from HB2.out.trans (b3'.mono HB2.out.size))
  have HQ : Hid (w.heap.size < w2.heap.size) := HR2.out.lt
  have HGE : Hid (∀ g, Value.ownBlock (.slice va 32 vc) = some g → w2.heap.size < g) := fun g hg => by have := o3.block g hg; rw [World.size_alloc] at this; omega
  clear o3 b3 b3' HR2 HB2
  generalize w2.heap.size = q at *
  go_wp2_with fail
  go_loopw [19] (fun i wr => ∃ k : Nat, k ≤ 32 ∧ i = .int .i64 (k : Int) ∧ Hid (VA wr q [.int .i64 (dhi (tsum b u k)), .int .u64 (dlo (tsum b u k)), .int .i64 12] 37) ∧ Hid (VA wr w.heap.size [.int .i64 0, .int .u64 0, .int .i64 0] 37) ∧ Hid (Own AC wr 0 (.slice va 32 vc) (accs 32)) ∧ Hid (Below w.heap.size w wr)) (fun i _ => 32 - (intOf i).toNat)
  case atStart => exact ⟨0, by omega, rfl, by rw [show tsum b u 0 = 0 from rfl, dhi0, dlo0]; exact HT3.out, HR3.out, HO.out.lower (Nat.zero_le _), HB3.out⟩
  case round =>
    obtain ⟨k, hk, rfl, HT, HR, HOx, HB⟩ := hrel
    by_cases h32 : k = 32
    · subst h32
      have c0 := HT.out.cell 0 (v := .int .i64 (dhi (tsum b u 32))) rfl
      have c1 := HT.out.cell 1 (v := .int .u64 (dlo (tsum b u 32))) rfl
      have c2 := HT.out.cell 2 (v := .int .i64 12) rfl
      go_wp2_with (refine stA rfl 37 _ _ rfl w.heap.size (by rfl) [.int .i64 0, .int .u64 0, .int .i64 0] [.int .i64 (dhi (tsum b u 32)), .int .u64 (dlo (tsum b u 32)), .int .i64 12] (by rfl) 37 HR.out infoDe rfl (dec_one _) ?_; intro w4 v4 u4)
      have hld := run_loadVar_row (P := Tryd.prog) w4 w.heap.size 37 37 _ (0, 0) _ v4.blk Tryd.underlying37 rfl infoDe
      exact bodyPost_ret (v := .tuple #[.agg #[.int .i64 (dhi (tsum b u 32)), .int .u64 (dlo (tsum b u 32)), .int .i64 12], .int .i64 0]) (by simp [results, Tryd.results17, asAddr, hld]) rfl ⟨rfl, u4.bel HB.out (Nat.le_refl _)⟩
    have hk' : k < 32 := by omega
    obtain ⟨bb, off, e, hb, hc⟩ := HOx.out.sl.at k (acc k) (accs_get hk')
    cases e
    have hva := acc_va hk'
    have hts := tsum_succ b u k
    have htb := tsum_bd HL.out.rng u k (by omega)
    generalize hac : acc k = x at *
    obtain ⟨x0, x1⟩ := x
    have c0 : wr.cell? ⟨bb, off + k * 2, none⟩ = some (.int .i64 x0) := hc 0 _ rfl
    have c1 : wr.cell? ⟨bb, off + k * 2 + 1, none⟩ = some (.int .i64 x1) := hc 1 _ rfl
    have HVA : Hid (Va x0 x1) := hva
    simp only at hts
    have HTS := (show Hid _ from hts)
    clear hc hb hac hva hts
    have d1 : (0 : Int) ≤ (k : Int) := by omega
    have d2 : (k : Int) < 32 := by omega
    have hkm : (k : Int) * M36 ≤ 32 * M36 := Int.mul_le_mul_of_nonneg_right (by omega) (by decide)
    obtain ⟨rng, lva, lmap⟩ := HL.out.step HB.out
    obtain ⟨g, y1, y2, y3⟩ := lmap.ex
    have hg : g (la x0 x1) = some (dv (b x0 x1) 12) := y2 x0 x1 HVA.out
    have hr := rng x0 x1 HVA.out
    obtain ⟨y, hy⟩ : ∃ y, y = b x0 x1 := ⟨_, rfl⟩
    obtain ⟨z, hz⟩ : ∃ z, z = tsum b u k := ⟨_, rfl⟩
    rw [← hy] at hg hr HTS
    rw [← hz] at HT HTS htb
    have HPL := (show Hid _ from fun w => plus_12 z y (by omega) hr w)
    have HGG := (show Hid _ from hg)
    have HPX : Hid (p ≠ q) := by
      rintro rfl
      have h1 := lva.blk
      rw [HT.out.blk] at h1
      cases h1
    have HMX : Hid (m ≠ q) := fun e => (HT.out.notM lmap) e.symm
    clear rng lmap y2 y3 hg hr hz hy hkm htb
    have BA := (Below.refl wr.heap.size wr).alloc (Nat.le_refl _) (.cells #[.int .i64 x0, .int .i64 x1] 64)
    have HV5 : Hid (VA (wr.alloc (.cells #[.int .i64 x0, .int .i64 x1] 64)) wr.heap.size [.int .i64 x0, .int .i64 x1] 64) := va_new wr [.int .i64 x0, .int .i64 x1] 64
    have HP : Hid (VA (wr.alloc (.cells #[.int .i64 x0, .int .i64 x1] 64)) p [.map (some m), .int .i64 n] 67) := lva.step BA
    have HG : Hid (MapF (wr.alloc (.cells #[.int .i64 x0, .int .i64 x1] 64)) 64 m 32 g) := y1.step BA
    have HO2 := (show Hid _ from HOx.out.step BA)
    have HT2 := (show Hid _ from HT.out.step BA)
    have HR2 := (show Hid _ from HR.out.step BA)
    have HB2 := (show Hid _ from HB.out.trans (BA.mono HB.out.size))
    have HQ5 : Hid (q < wr.heap.size) := HT.out.lt
    clear BA y1 lva HOx HB HT HR
    by_cases hu : x1 = u
    · have HU := (show Hid _ from hu)
      have e1 : (x1 == u) = true := by simpa using hu
      clear hu
      go_upto_region 10 with fail
      clear c0 c1
      generalize wr.heap.size = q5 at *
      generalize wr.alloc (.cells #[.int .i64 x0, .int .i64 x1] 64) = w4 at *
      refine wp_region_noPanic ?_
      refine wp_region_held_drew (S := fun w' => VA w' p [.map (some m), .int .i64 n] 67 ∧ VA w' q5 [.int .i64 x0, .int .i64 x1] 64 ∧ MapF w' 64 m 32 g) (by kernel_rfl) ⟨HP.out.drew, HV5.out.drew, HG.out.step (Below.refl _ _).drew⟩ (fun hHeld => ?_)
      refine takeD 1 28 (.pointer (some ⟨p, 0, none⟩)) (by exact rfl) rfl (by kernel_rfl) (by kernel_rfl) (by kernel_rfl) (fun _ _ _ h => h) (Or.inl ⟨by rfl, ?_⟩) (by assumption) ?_
      · intro wq hS
        go_simp
      try simp only [Act.put, List.setIfInBounds_toArray, List.set_cons_zero, List.set_cons_succ]
      refine takeD 2 29 (.pointer (some ⟨p, 0, none⟩)) (by exact rfl) rfl (by kernel_rfl) (by kernel_rfl) (by kernel_rfl) (fun _ _ _ h => h) (Or.inl ⟨by rfl, ?_⟩) (by assumption) ?_
      · intro wq hS
        go_simp
      try simp only [Act.put, List.setIfInBounds_toArray, List.set_cons_zero, List.set_cons_succ]
      refine takeD 3 30 (.pointer (some ⟨p, 0, none⟩)) (by exact rfl) rfl (by kernel_rfl) (by kernel_rfl) (by kernel_rfl) (fun _ _ _ h => h) (Or.inl ⟨by rfl, ?_⟩) (by assumption) ?_
      · intro wq hS
        go_simp
      try simp only [Act.put, List.setIfInBounds_toArray, List.set_cons_zero, List.set_cons_succ]
      refine takeD 4 31 (.map (some m)) (by exact rfl) rfl (by kernel_rfl) (by kernel_rfl) (by kernel_rfl) (fun _ _ _ h => h) (Or.inl ⟨by rfl, ?_⟩) (by assumption) ?_
      · intro wq hS
        have e0 := hS.1.cell 0 (v := .map (some m)) rfl
        go_simp
      try simp only [Act.put, List.setIfInBounds_toArray, List.set_cons_zero, List.set_cons_succ]
      refine takeD 5 32 (.agg #[.int .i64 x0, .int .i64 x1]) (by exact rfl) rfl (by kernel_rfl) (by kernel_rfl) (by kernel_rfl) (fun _ _ _ h => h) (Or.inl ⟨by rfl, ?_⟩) (by assumption) ?_
      · intro wq hS
        have e0 := hS.2.1.cell 0 (v := .int .i64 x0) rfl
        have e1 := hS.2.1.cell 1 (v := .int .i64 x1) rfl
        go_simp
      try simp only [Act.put, List.setIfInBounds_toArray, List.set_cons_zero, List.set_cons_succ]
      refine takeD 6 33 (.agg #[.int .i64 (dhi y), .int .u64 (dlo y), .int .i64 12]) (by exact rfl) rfl (by kernel_rfl) (by kernel_rfl) (by kernel_rfl) (fun _ _ _ h => h) (Or.inl ⟨by rfl, ?_⟩) (by assumption) ?_
      · intro wq hS
        have e0 := hS.2.2.look keyedA Tryd.underlying60 (zeroD wq) HVA.out.key
        rw [HGG.out] at e0
        unfold ka dv at e0
        go_simp
      try simp only [Act.put, List.setIfInBounds_toArray, List.set_cons_zero, List.set_cons_succ]
      clear hHeld
      refine wpAnyH_ready (rs := [0]) (by kernel_rfl) (by simp) ?_
      refine AllReadyH.cons (by exact rfl) (fun K hK => ?_) AllReadyH.nil
      have t0 := HT2.out.drew.cell 0 (v := .int .i64 (dhi z)) rfl
      have t1 := HT2.out.drew.cell 1 (v := .int .u64 (dlo z)) rfl
      have t2 := HT2.out.drew.cell 2 (v := .int .i64 12) rfl
      go_simp
      clear t0 t1 t2
      refine hK.out _ _ ⟨HP.out.drew, HV5.out.drew, HG.out.step (Below.refl _ _).drew⟩ (fun hHeld => ?_)
      clear hK K hHeld
      try simp only [Act.put, List.setIfInBounds_toArray, List.set_cons_zero, List.set_cons_succ]
      refine wpAnyH_ready (rs := [7]) (by kernel_rfl) (by simp) ?_
      refine AllReadyH.cons (by exact rfl) (fun K hK => ?_) AllReadyH.nil
      go_simp
      refine (HPL.out _).mono ?_
      rintro e w5 ⟨rfl, b5⟩
      have b5 : Below w4.heap.size w4 w5 := ((Below.refl w4.heap.size w4).drew).trans b5
      have HT5 := (show Hid _ from HT2.out.step b5)
      have HR5 := (show Hid _ from HR2.out.step b5)
      have HO5 := (show Hid _ from HO2.out.step b5)
      have HP5 := (show Hid _ from HP.out.step b5)
      have HV6 := (show Hid _ from HV5.out.step b5)
      have HG5 : Hid (MapF w5 64 m 32 g) := HG.out.step b5
      have HB5 := (show Hid _ from HB2.out.trans (b5.mono HB2.out.size))
      clear b5 HT2 HR2 HO2 HP HV5 HG HB2
      go_wp2_with fail
      refine hK.out _ _ ⟨HP5.out, HV6.out, HG5.out⟩ (fun hHeld => ?_)
      clear hK K hHeld
      try simp only [Act.put, List.setIfInBounds_toArray, List.set_cons_zero, List.set_cons_succ]
      refine wpAnyH_ready (rs := [8]) (by kernel_rfl) (by simp) ?_
      refine AllReadyH.cons (by exact rfl) (fun K hK => ?_) AllReadyH.nil
      refine stD (by rfl) (by rfl) 37 _ _ (by rfl) q (by rfl) [.int .i64 (dhi z), .int .u64 (dlo z), .int .i64 12] [.int .i64 (dhi (z + y)), .int .u64 (dlo (z + y)), .int .i64 12] (by rfl) 37 HT5.out infoDe rfl (dec_one _) ?_
      intro w6 v6 u6
      have U6 := u6.but
      have HT6 := (show Hid _ from v6)
      have HR6 := (show Hid _ from HR5.out.but U6 (fun (e : w.heap.size = q) => by have := HQ.out; omega))
      have HO6 := (show Hid _ from HO5.out.but U6 (fun gg hgg (e : gg = q) => by have := HGE.out gg hgg; omega))
      have HB6 := (show Hid _ from HB5.out.trans (U6.below HB5.out.size (fun i (hi : i = q) => by have := HQ.out; omega)))
      refine hK.out _ _ ⟨HP5.out.but U6 HPX.out, HV6.out.but U6 (fun (e : q5 = q) => by have := HQ5.out; omega), HG5.out.but U6 HMX.out⟩ (fun hHeld => ?_)
      clear hK K hHeld u6 U6 v6 HT5 HR5 HO5 HP5 HV6 HG5 HB5
      refine wpAnyH_done (by kernel_rfl) ?_ _
      refine NoPanic.normal ?_
      go_wp2_with fail
      refine ⟨⟨k + 1, by omega, by go_num, ?_, HR6.out, HO6.out, HB6.out⟩, by simp [intOf]; omega⟩
      rw [HTS.out, if_pos HU.out]
      exact HT6.out
    · have HU := (show Hid _ from hu)
      have e1 : (x1 == u) = false := by simpa using hu
      clear hu
      go_wp2_with fail
      refine ⟨⟨k + 1, by omega, by go_num, ?_, HR2.out, HO2.out, HB2.out⟩, by simp [intOf]; omega⟩
      rw [HTS.out, if_neg HU.out, Int.add_zero]
      exact HT2.out
end Go.Proofs.YtlgcbbnnldlooaaDoor
