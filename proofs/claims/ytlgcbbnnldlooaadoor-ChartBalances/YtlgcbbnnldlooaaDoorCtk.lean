/- chart: Trial, Entries, Balance. -/
import Derived.Test.YtlgcbbnnldlooaaDoorCtj
namespace Go.Proofs.YtlgcbbnnldlooaaDoor
open Go.RowKit Go.Maps
set_option linter.unusedVariables false
attribute [local go_sem] ext_cell ext_frozen ext_drew ext_of_drew ext_of_drewN ext_setCell ext_lt ext_lt1 ext_lt2 ext_lt3 lt_n2 lt_n3 lt_n4 lt_n5 lt_n6

/-- a balance as a line -/
def lnOf (c u z : Int) : Ln := ⟨c, u, dhi z, dlo z, 12⟩
/-- the lines of the first n accounts that are not nought -/
def trl (b : Int → Int → Int) (n : Nat) : List Ln := ((accs n).filter (fun a => !decide (b a.1 a.2 = 0))).map (fun a => lnOf a.1 a.2 (b a.1 a.2))
theorem trl_len (b : Int → Int → Int) (n : Nat) : (trl b n).length ≤ n := by
  unfold trl
  rw [List.length_map]
  exact Nat.le_trans (List.length_filter_le _ _) (by rw [accs_len]; exact Nat.le_refl _)
theorem trl_no (b : Int → Int → Int) (n : Nat) (h : b (acc n).1 (acc n).2 = 0) : trl b (n + 1) = trl b n := by
  unfold trl
  rw [accs_succ, List.filter_append]
  simp [h]
theorem trl_yes (b : Int → Int → Int) (n : Nat) (h : b (acc n).1 (acc n).2 ≠ 0) : trl b (n + 1) = trl b n ++ [lnOf (acc n).1 (acc n).2 (b (acc n).1 (acc n).2)] := by
  unfold trl
  rw [accs_succ, List.filter_append]
  simp [h]
theorem lkS1 {w : World} {ops : Array Oper} {rest : List Oper} {o : Oper} {a : Act} {Q : Exit → Act → World → Prop} (hg : o.guard = none) (m x : Operand) (t : TypeId) (hop : o.op = Op.lookup t m x false)
    (k e : TypeId) (K : Keyed Tryd.prog k) (ht : Tryd.prog.underlying t = some (.map k e)) (z : Value) (hz : (zeroValue e).run Tryd.prog w = .ok z w) (b n : Nat) (f : Lit → Option Value) (hm : a.eval m = .map (some b)) (h : MapF w k b n f)
    (key : Value) (kl : Lit) (hx : a.eval x = key) (hkey : keyOf Tryd.prog k key = some kl) (v : Value) (hv : f kl = some v)
    (hK : wpList Tryd.prog ops Q rest (a.put o.dst v) w) : wpList Tryd.prog ops Q (o :: rest) a w :=
  lkM1 hg m x t hop k e K ht z hz b n f hm h key kl hx hkey (by rw [hv]; exact hK)
theorem entries_ok (p m : Nat) (b : Int → Int → Int) (n : Int) (w : World) (L : Led w p m b n) :
    Calls Tryd.prog 19 #[.pointer (some ⟨p, 0, none⟩)] w fun e w' => e = .returned (.int .i64 n) ∧ w' = w := by
  have c1 := L.va.cell 1 (v := .int .i64 n) rfl
  clear L
  go_enter Tryd.func19, Tryd.ntmps19
  go_wp2_with fail
  go_ret
  exact ⟨rfl, rfl⟩
theorem entries_nil (w : World) : Calls Tryd.prog 19 #[.pointer none] w fun e w' => e = .returned (.int .i64 0) ∧ w' = w := by
  go_enter Tryd.func19, Tryd.ntmps19
  go_wp2_with fail
  go_ret
  exact ⟨rfl, rfl⟩
theorem trial_nil (w : World) : Calls Tryd.prog 18 #[.pointer none] w fun e w' => e = .returned (.slice none 0 0) ∧ w' = w := by
  go_enter Tryd.func18, Tryd.ntmps18
  go_wp2_with fail
  go_ret
  exact ⟨rfl, rfl⟩
set_option maxHeartbeats 4000000 in
set_option maxRecDepth 100000 in
theorem trial_ok (p m : Nat) (b : Int → Int → Int) (n : Int) (w : World) (L : Led w p m b n) :
    Calls Tryd.prog 18 #[.pointer (some ⟨p, 0, none⟩)] w fun e w' => (∃ v, e = .returned v ∧ Own LN w' w.heap.size v (trl b 32)) ∧ Below w.heap.size w w' := by
  have HL := (show Hid _ from L)
  clear L
  go_enter Tryd.func18, Tryd.ntmps18
  go_wp2_with fail
  refine (accounts_ok _).mono ?_
  rintro e w1 ⟨⟨v, rfl, o1⟩, b1⟩
  obtain ⟨va, vc, rfl, l1, l2⟩ := o1.form
  rw [accs_len] at o1 l1 ⊢
  have HO1 := (show Hid _ from o1.sl)
  have HB1 := (show Hid _ from b1)
  have HL1 := (show Hid _ from HL.out.step b1)
  clear o1 b1
  go_wp2_with fail
  go_loopw [3, 11] (fun l i wr => ∃ k : Nat, k ≤ 32 ∧ i = .int .i64 (k : Int) ∧ Hid (Own LN wr w1.heap.size l (trl b k)) ∧ Hid (Below w1.heap.size w1 wr)) (fun _ i _ => 32 - (intOf i).toNat)
  case atStart => exact ⟨0, by omega, rfl, own_nil _ _ _, Below.refl _ _⟩
  case round =>
    obtain ⟨k, hk, rfl, HO, HB⟩ := hrel
    by_cases h32 : k = 32
    · subst h32
      go_wp2_with fail
      go_ret
      exact ⟨⟨_, rfl, HO.out.lower HB1.out.size⟩, HB1.out.trans (HB.out.mono HB1.out.size)⟩
    have hk' : k < 32 := by omega
    obtain ⟨bb, off, e, hb, hc⟩ := (HO1.out.step HB.out).at k (acc k) (accs_get hk')
    cases e
    have hva := acc_va hk'
    have HYES := (show Hid _ from trl_yes b k)
    have HNO := (show Hid _ from trl_no b k)
    generalize hac : acc k = x at *
    obtain ⟨x0, x1⟩ := x
    have c0 : wr.cell? ⟨bb, off + k * 2, none⟩ = some (.int .i64 x0) := hc 0 _ rfl
    have c1 : wr.cell? ⟨bb, off + k * 2 + 1, none⟩ = some (.int .i64 x1) := hc 1 _ rfl
    have HVA : Hid (Va x0 x1) := hva
    clear hc hb hac hva
    have d1 : (0 : Int) ≤ (k : Int) := by omega
    have d2 : (k : Int) < 32 := by omega
    obtain ⟨rng, lva, lmap⟩ := HL1.out.step HB.out
    obtain ⟨g, y1, y2, y3⟩ := lmap.ex
    have hg : g (la x0 x1) = some (dv (b x0 x1) 12) := y2 x0 x1 HVA.out
    have hr := rng x0 x1 HVA.out
    obtain ⟨z, hz⟩ : ∃ z, z = b x0 x1 := ⟨_, rfl⟩
    simp only at HYES HNO
    rw [← hz] at hg hr HYES HNO
    have HGG := (show Hid _ from hg)
    have HZI : Hid (InR z) := inr36 (by unfold M36 at *; omega)
    clear rng lmap y2 y3 hg hr hz
    have BA := (Below.refl wr.heap.size wr).alloc (Nat.le_refl _) (.cells #[.int .i64 x0, .int .i64 x1] 64)
    go_upto_region 7 with fail
    have HV5 : Hid (VA (wr.alloc (.cells #[.int .i64 x0, .int .i64 x1] 64)) wr.heap.size [.int .i64 x0, .int .i64 x1] 64) := va_new wr [.int .i64 x0, .int .i64 x1] 64
    have HP : Hid (VA (wr.alloc (.cells #[.int .i64 x0, .int .i64 x1] 64)) p [.map (some m), .int .i64 n] 67) := lva.step BA
    have HG : Hid (MapF (wr.alloc (.cells #[.int .i64 x0, .int .i64 x1] 64)) 64 m 32 g) := y1.step BA
    have HO2 := (show Hid _ from HO.out.step BA)
    have HB2 := (show Hid _ from HB.out.trans (BA.mono HB.out.size))
    have HQ5 : Hid (w1.heap.size ≤ wr.heap.size) := HB.out.size
    clear BA c0 c1 y1 lva HO HB
    generalize wr.heap.size = q5 at *
    generalize wr.alloc (.cells #[.int .i64 x0, .int .i64 x1] 64) = w2 at *
    refine wp_region_noPanic ?_
    refine wp_region_held_drew (S := fun w' => VA w' p [.map (some m), .int .i64 n] 67 ∧ VA w' q5 [.int .i64 x0, .int .i64 x1] 64 ∧ MapF w' 64 m 32 g) (by kernel_rfl) ⟨HP.out.drew, HV5.out.drew, HG.out.step (Below.refl _ _).drew⟩ (fun hHeld => ?_)
    refine takeD 0 15 (.pointer (some ⟨p, 0, none⟩)) (by exact rfl) rfl (by kernel_rfl) (by kernel_rfl) (by kernel_rfl) (fun _ _ _ h => h) (Or.inl ⟨by rfl, ?_⟩) (by assumption) ?_
    · intro wq hS
      go_simp
    try simp only [Act.put, List.setIfInBounds_toArray, List.set_cons_zero, List.set_cons_succ]
    refine takeD 1 16 (.pointer (some ⟨p, 0, none⟩)) (by exact rfl) rfl (by kernel_rfl) (by kernel_rfl) (by kernel_rfl) (fun _ _ _ h => h) (Or.inl ⟨by rfl, ?_⟩) (by assumption) ?_
    · intro wq hS
      go_simp
    try simp only [Act.put, List.setIfInBounds_toArray, List.set_cons_zero, List.set_cons_succ]
    refine takeD 2 17 (.pointer (some ⟨p, 0, none⟩)) (by exact rfl) rfl (by kernel_rfl) (by kernel_rfl) (by kernel_rfl) (fun _ _ _ h => h) (Or.inl ⟨by rfl, ?_⟩) (by assumption) ?_
    · intro wq hS
      go_simp
    try simp only [Act.put, List.setIfInBounds_toArray, List.set_cons_zero, List.set_cons_succ]
    refine takeD 3 18 (.map (some m)) (by exact rfl) rfl (by kernel_rfl) (by kernel_rfl) (by kernel_rfl) (fun _ _ _ h => h) (Or.inl ⟨by rfl, ?_⟩) (by assumption) ?_
    · intro wq hS
      have e0 := hS.1.cell 0 (v := .map (some m)) rfl
      go_simp
    try simp only [Act.put, List.setIfInBounds_toArray, List.set_cons_zero, List.set_cons_succ]
    refine takeD 4 19 (.agg #[.int .i64 x0, .int .i64 x1]) (by exact rfl) rfl (by kernel_rfl) (by kernel_rfl) (by kernel_rfl) (fun _ _ _ h => h) (Or.inl ⟨by rfl, ?_⟩) (by assumption) ?_
    · intro wq hS
      have e0 := hS.2.1.cell 0 (v := .int .i64 x0) rfl
      have e1 := hS.2.1.cell 1 (v := .int .i64 x1) rfl
      go_simp
    try simp only [Act.put, List.setIfInBounds_toArray, List.set_cons_zero, List.set_cons_succ]
    refine takeD 5 20 (.agg #[.int .i64 (dhi z), .int .u64 (dlo z), .int .i64 12]) (by exact rfl) rfl (by kernel_rfl) (by kernel_rfl) (by kernel_rfl) (fun _ _ _ h => h) (Or.inl ⟨by rfl, ?_⟩) (by assumption) ?_
    · intro wq hS
      have e0 := hS.2.2.look keyedA Tryd.underlying60 (zeroD wq) HVA.out.key
      rw [HGG.out] at e0
      unfold ka dv at e0
      go_simp
    try simp only [Act.put, List.setIfInBounds_toArray, List.set_cons_zero, List.set_cons_succ]
    clear hHeld
    refine wpAnyH_ready (rs := [6]) (by kernel_rfl) (by simp) ?_
    refine AllReadyH.cons (by exact rfl) (fun K hK => ?_) AllReadyH.nil
    go_simp
    have BA := ((Below.refl w2.heap.size w2).alloc (Nat.le_refl _) (.cells #[.int .i64 0, .int .u64 0, .int .i64 0] 37)).drew
    refine hK.out _ _ ⟨HP.out.step BA, HV5.out.step BA, HG.out.step BA⟩ (fun hHeld => ?_)
    clear hK K hHeld
    try simp only [Act.put, List.setIfInBounds_toArray, List.set_cons_zero, List.set_cons_succ]
    have HV6 : Hid (VA (w2.alloc (.cells #[.int .i64 0, .int .u64 0, .int .i64 0] 37)).drew w2.heap.size [.int .i64 0, .int .u64 0, .int .i64 0] 37) := (va_new w2 [.int .i64 0, .int .u64 0, .int .i64 0] 37).drew
    have HU5' := (show Hid _ from HV5.out.step BA)
    have HP' := (show Hid _ from HP.out.step BA)
    have HG' : Hid (MapF (w2.alloc (.cells #[.int .i64 0, .int .u64 0, .int .i64 0] 37)).drew 64 m 32 g) := HG.out.step BA
    have HO3 := (show Hid _ from HO2.out.step BA)
    have HB3 := (show Hid _ from HB2.out.trans (BA.mono HB2.out.size))
    have HQ6 : Hid (w1.heap.size ≤ w2.heap.size ∧ q5 < w2.heap.size) := ⟨HB2.out.size, HV5.out.lt⟩
    have HPQ : Hid (¬ (fun i => i = w2.heap.size) p) := fun (e : p = w2.heap.size) => by have := HP.out.lt; omega
    have HOQ : Hid (∀ gg, Value.ownBlock _ = some gg → ¬ (fun i => i = w2.heap.size) gg) := fun gg hgg (e : gg = w2.heap.size) => by have := HO2.out.lt gg hgg; omega
    clear BA HP HV5 HG HO2 HB2
    generalize w2.heap.size = q6 at *
    generalize (w2.alloc (.cells #[.int .i64 0, .int .u64 0, .int .i64 0] 37)).drew = w3 at *
    refine wpAnyH_ready (rs := [7]) (by kernel_rfl) (by simp) ?_
    refine AllReadyH.cons (by exact rfl) (fun K hK => ?_) AllReadyH.nil
    refine stD (by rfl) (by rfl) 37 _ _ (by rfl) q6 (by rfl) [.int .i64 0, .int .u64 0, .int .i64 0] [.int .i64 (dhi z), .int .u64 (dlo z), .int .i64 12] (by rfl) 37 HV6.out infoDe rfl (dec_one z) ?_
    intro w4 v4 u4
    have U4 := u4.but
    have HU5 := (show Hid _ from HU5'.out.but U4 (fun (e : q5 = q6) => by have := HQ6.out; omega))
    have HU6 := (show Hid _ from v4)
    have HO4 := (show Hid _ from HO3.out.but U4 HOQ.out)
    have HB4 := (show Hid _ from HB3.out.trans (U4.below HB3.out.size (fun i (hi : i = q6) => by have := HQ6.out; omega)))
    refine hK.out _ _ ⟨HP'.out.but U4 HPQ.out, HU5.out, HG'.out.but U4 (fun e => (HV6.out.notF HG'.out) e.symm)⟩ (fun hHeld => ?_)
    clear hK K hHeld u4 U4 v4 HO3 HB3 HU5' HP' HG' HV6
    refine wpAnyH_done (by kernel_rfl) ?_ _
    refine NoPanic.normal ?_
    go_upto_region 8 with fail
    have c0 := HU6.out.cell 0 (v := .int .i64 (dhi z)) rfl
    have c1 := HU6.out.cell 1 (v := .int .u64 (dlo z)) rfl
    have c2 := HU6.out.cell 2 (v := .int .i64 12) rfl
    have HN := (show Hid _ from fun w => isNought_ok z 12 w HZI.out (by decide))
    unfold dv at HN
    go_wp2_with fail
    refine (HN.out _).mono ?_
    rintro e w5 ⟨rfl, b5⟩
    have HO5 := (show Hid _ from HO4.out.step b5)
    have HB5 := (show Hid _ from HB4.out.trans (b5.mono HB4.out.size))
    have V5 := HU5.out.step b5
    have V6 := HU6.out.step b5
    clear b5 HO4 HB4 HU5 HU6 c0 c1 c2
    by_cases hz : z = 0
    · rw [decide_eq_true hz]
      have HZ := (show Hid _ from hz)
      clear hz V5 V6
      go_wp2_with fail
      exact ⟨⟨k + 1, by omega, by go_num, by rw [HNO.out HZ.out]; exact HO5.out, HB5.out⟩, by simp [intOf]; omega⟩
    · rw [decide_eq_false hz]
      have HZ := (show Hid _ from hz)
      clear hz
      have c0 := V6.cell 0 (v := .int .i64 (dhi z)) rfl
      have c1 := V6.cell 1 (v := .int .u64 (dlo z)) rfl
      have c2 := V6.cell 2 (v := .int .i64 12) rfl
      have k0 := V5.cell 0 (v := .int .i64 x0) rfl
      have k1 := V5.cell 1 (v := .int .i64 x1) rfl
      clear V5 V6
      go_wp2_with (at_builtin; refine appOne (K := LN) rfl _ _ rfl w1.heap.size (trl b k) _ (lnOf x0 x1 z) (by rfl) (by rfl) HO5.out HB5.out.size (by have := trl_len b k; show ((trl b k).length + 1) * 40 ≤ _; omega) (by have := trl_len b k; omega) _ rfl ?_; intro v6 w6 o6 b6)
      exact ⟨⟨k + 1, by omega, by go_num, by rw [HYES.out HZ.out]; exact o6, HB5.out.trans b6⟩, by simp [intOf]; omega⟩
set_option maxHeartbeats 1000000 in
set_option maxRecDepth 100000 in
theorem balance_ok (p m : Nat) (b : Int → Int → Int) (n : Int) (w : World) (L : Led w p m b n) (c u : Int) (hv : Va c u) :
    Calls Tryd.prog 15 #[.pointer (some ⟨p, 0, none⟩), .int .i64 c, .int .i64 u] w fun e w' => e = .returned (.tuple #[dv (b c u) 12, .int .i64 0]) ∧ Below w.heap.size w w' := by
  have h1 : wi c 1 8 = true := wi_yes hv.1 hv.2.1
  have h2 : wi u 0 3 = true := wi_yes hv.2.2.1 hv.2.2.2
  have HV : Hid (Va c u) := hv
  have HL := (show Hid _ from L)
  clear L hv
  go_enter Tryd.func15, Tryd.ntmps15
  go_wp2_with fail
  refine (code_ok _ _).mono ?_
  rintro e w1 ⟨rfl, hq⟩
  obtain rfl := hq.symm
  rw [h1]
  go_wp2_with fail
  refine (ccur_ok _ _).mono ?_
  rintro e w2 ⟨rfl, b2⟩
  rw [h2]
  have HB := (show Hid _ from below_over b2)
  have VR := (va_new w [.int .i64 0, .int .u64 0, .int .i64 0] 37).step b2
  have r0 := VR.cell 0 (v := .int .i64 0) rfl
  have r1 := VR.cell 1 (v := .int .u64 0) rfl
  have r2 := VR.cell 2 (v := .int .i64 0) rfl
  have HVR := (show Hid _ from VR)
  obtain ⟨rng, lva, lmap⟩ := HL.out.step HB.out
  obtain ⟨g, y1, y2, y3⟩ := lmap.ex
  have hg : g (la c u) = some (dv (b c u) 12) := y2 c u HV.out
  have c0 := lva.cell 0 (v := .map (some m)) rfl
  have HG : Hid (MapF w2 64 m 32 g) := y1
  have HGG := (show Hid _ from hg)
  clear rng lva lmap y1 y2 y3 hg b2 r0 r1 r2 VR
  obtain ⟨z, hz⟩ : ∃ z, z = b c u := ⟨_, rfl⟩
  rw [← hz] at HGG
  have HZ := (show Hid _ from hz)
  clear hz
  unfold dv at HGG
  go_wp2_with (first | (refine lkS1 rfl _ _ 60 rfl 64 37 keyedA Tryd.underlying60 _ (zeroD _) m 32 g (by rfl) HG.out (.agg #[.int .i64 c, .int .i64 u]) (la c u) (by rfl) HV.out.key _ HGG.out ?_) | (refine stA rfl 37 _ _ rfl w.heap.size (by rfl) [.int .i64 0, .int .u64 0, .int .i64 0] [.int .i64 (dhi z), .int .u64 (dlo z), .int .i64 12] (by rfl) 37 HVR.out infoDe rfl (dec_one z) ?_; intro w3 v3 u3))
  have hld := run_loadVar_row (P := Tryd.prog) w3 w.heap.size 37 37 _ (0, 0) _ v3.blk Tryd.underlying37 rfl infoDe
  exact bodyPost_ret (v := .tuple #[.agg #[.int .i64 (dhi z), .int .u64 (dlo z), .int .i64 12], .int .i64 0]) (by simp [results, Tryd.results15, asAddr, hld]) rfl ⟨by rw [← HZ.out], u3.bel HB.out (Nat.le_refl _)⟩
theorem balance_bad (a : Option Addr) (w : World) (c u : Int) (hv : ¬ Va c u) :
    Calls Tryd.prog 15 #[.pointer a, .int .i64 c, .int .i64 u] w fun e w' => e = .returned (.tuple #[.agg #[.int .i64 0, .int .u64 0, .int .i64 0], .int .i64 1]) ∧ Below w.heap.size w w' := by
  cases h1 : wi c 1 8
  · go_enter Tryd.func15, Tryd.ntmps15
    go_wp2_with fail
    refine (code_ok _ _).mono ?_
    rintro e w1 ⟨rfl, hq⟩
    obtain rfl := hq.symm
    rw [h1]
    go_wp2_with fail
    refine bodyPost_ret (v := .tuple #[.agg #[.int .i64 0, .int .u64 0, .int .i64 0], .int .i64 1]) (by simp [results, Tryd.results15, go_sem]) rfl ⟨rfl, ?_⟩
    repeat (first | exact Below.refl _ _ | refine Below.drew ?_ | refine below_drewN ?_ _ | refine bel_alloc ?_ _ | refine bel_ext ?_ _ | (refine Below.setCell ?_ ?_ _; rotate_left; (simp <;> omega)))
  · have h2 : wi u 0 3 = false := by
      unfold wi at h1 ⊢
      simp only [decide_eq_true_eq] at h1
      exact decide_eq_false (fun h => hv ⟨h1.1, h1.2, h.1, h.2⟩)
    go_enter Tryd.func15, Tryd.ntmps15
    go_wp2_with fail
    refine (code_ok _ _).mono ?_
    rintro e w1 ⟨rfl, hq⟩
    obtain rfl := hq.symm
    rw [h1]
    go_wp2_with fail
    refine (ccur_ok _ _).mono ?_
    rintro e w2 ⟨rfl, b2⟩
    obtain ⟨x2, rfl⟩ := ext_of_below b2; clear b2
    rw [h2]
    go_wp2_with fail
    refine bodyPost_ret (v := .tuple #[.agg #[.int .i64 0, .int .u64 0, .int .i64 0], .int .i64 1]) (by simp [results, Tryd.results15, go_sem]) rfl ⟨rfl, ?_⟩
    repeat (first | exact Below.refl _ _ | refine Below.drew ?_ | refine below_drewN ?_ _ | refine bel_alloc ?_ _ | refine bel_ext ?_ _ | (refine Below.setCell ?_ ?_ _; rotate_left; (simp <;> omega)))
theorem balance_nil (w : World) (c u : Int) (hv : Va c u) :
    Calls Tryd.prog 15 #[.pointer none, .int .i64 c, .int .i64 u] w fun e w' => e = .returned (.tuple #[.agg #[.int .i64 0, .int .u64 0, .int .i64 0], .int .i64 7]) ∧ Below w.heap.size w w' := by
  have h1 : wi c 1 8 = true := wi_yes hv.1 hv.2.1
  have h2 : wi u 0 3 = true := wi_yes hv.2.2.1 hv.2.2.2
  clear hv
  go_enter Tryd.func15, Tryd.ntmps15
  go_wp2_with fail
  refine (code_ok _ _).mono ?_
  rintro e w1 ⟨rfl, hq⟩
  obtain rfl := hq.symm
  rw [h1]
  go_wp2_with fail
  refine (ccur_ok _ _).mono ?_
  rintro e w2 ⟨rfl, b2⟩
  obtain ⟨x2, rfl⟩ := ext_of_below b2; clear b2
  rw [h2]
  go_wp2_with fail
  refine bodyPost_ret (v := .tuple #[.agg #[.int .i64 0, .int .u64 0, .int .i64 0], .int .i64 7]) (by simp [results, Tryd.results15, go_sem]) rfl ⟨rfl, ?_⟩
  repeat (first | exact Below.refl _ _ | refine Below.drew ?_ | refine below_drewN ?_ _ | refine bel_alloc ?_ _ | refine bel_ext ?_ _ | (refine Below.setCell ?_ ?_ _; rotate_left; (simp <;> omega)))
end Go.Proofs.YtlgcbbnnldlooaaDoor
