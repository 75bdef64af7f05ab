/- money: the walk of MoneySplits. -/
import Derived.Test.YtbgglghapjfdeaaDoorStc
import Derived.Test.YtbgglghapjfdeaaDoorIb
namespace Go.Proofs.YtbgglghapjfdeaaDoor
open Go.RowKit
set_option linter.unusedVariables false

/-- append(l, x...) -/
theorem appIs {w : World} {ops : Array Oper} {rest : List Oper} {o : Oper} {a : Act} {Q : Exit → Act → World → Prop} (hgd : o.guard = none) (s x : Operand)
    (ho : o.op = .call { callee := .builtin .append, args := #[s, x], argTypes := #[24, 24] })
    (B : Nat) (cs ds : List Int) (v u : Value) (hs : a.eval s = v) (hx : a.eval x = u)
    (hown : OwnI w B v cs) (hu : Is w u ds) (hnc : ∀ k c, u = .slice none k c → c = 0) (hB : B ≤ w.heap.size) (hl : cs.length + ds.length ≤ 17592186044000)
    (h : ∀ v' w', OwnI w' B v' (cs ++ ds) → Below B w w' → wpList Tryd.prog ops Q rest (a.put o.dst v') w') :
    wpList Tryd.prog ops Q (o :: rest) a w := by
  obtain ⟨i0, hi, hz0, hz1, hz2⟩ := infoI_parts
  obtain ⟨ad, c, rfl, h1, h2, h4⟩ := hu
  have hci : ci (cs ++ ds) = ci cs ++ ci ds := by simp [ci]
  rcases Nat.eq_zero_or_pos ds.length with h0 | h0
  · obtain rfl : ds = [] := List.eq_nil_of_length_eq_zero h0
    cases ad with
    | none =>
      refine wpList_plain hgd fun K hK => ?_
      obtain rfl := hnc _ _ rfl
      have hrun := run_append_owned_none (P := Tryd.prog) (w := w) B 24 o.type 2 i0 1 Tryd.underlying24 hi v cs.length (ci cs) hown.own
      unfold Oper.wp
      simp [execOp, ho, resolve, invoke, builtin, hs, hx, hrun, Result.andThen]
      exact hK _ _ (h v w (by simpa using hown) (Below.refl _ _))
    | some ad =>
      refine wpList_append_own _ hgd s x 24 ho B 2 i0 (.int .i64 0) 1 8 Tryd.underlying24 hi hz0 hz1 hz2 rfl (by decide) v cs.length (ci cs) hs hown.own ad 0 c [] hx rfl (fun j u hj => by simp at hj) (fun u hu => by simp at hu) (by unfold maxLen; omega) (by omega) hB ?_
      intro v' w' g1 g2 _
      exact h v' w' ⟨by simpa using g1⟩ ((Below.refl _ _).grown g2 hB hown.block)
  · obtain ⟨b, off, rfl, hb, hcell⟩ := h4 h0
    refine wpList_append_own _ hgd s x 24 ho B 2 i0 (.int .i64 0) 1 8 Tryd.underlying24 hi hz0 hz1 hz2 rfl (by decide) v cs.length (ci cs) hs hown.own ⟨b, off, none⟩ ds.length c (ci ds) hx (by rw [ci_len, Nat.mul_one]) ?_ ?_ (by unfold maxLen; omega) (by omega) hB ?_
    · intro j u hj
      have hj' : j < ds.length := by
        have := (List.getElem?_eq_some_iff.1 hj).1
        rwa [ci_len] at this
      rw [Go.WideShapes.add_plain, hcell j hj', ← ci_get ds j hj', hj]
    · intro u hu
      simp only [ci, List.mem_map] at hu
      obtain ⟨d, _, rfl⟩ := hu
      rfl
    · intro v' w' g1 g2 _
      refine h v' w' ⟨?_⟩ ((Below.refl _ _).grown g2 hB hown.block)
      rw [List.length_append, hci]; exact g1
theorem Is.cut {w : World} {a : Option Addr} {n c : Nat} {zs ys : List Int} (h : Is w (.slice a n c) (zs ++ ys)) : Is w (.slice a zs.length c) zs := by
  obtain ⟨a', c', e, h1, h2, h3⟩ := h
  injection e with e1 e2 e3
  subst e1 e3
  rw [List.length_append] at h1 h3
  refine ⟨a, c, rfl, by omega, h2, fun h0 => ?_⟩
  obtain ⟨b, off, e, hb, hx⟩ := h3 (by omega)
  refine ⟨b, off, e, hb, fun k hk => ?_⟩
  rw [hx k (by omega)]
  simp only [List.getD]
  rw [List.getElem?_append_left hk]
theorem getD_77 (zs : List Int) : (zs ++ [77, 78]).getD zs.length 0 = 77 := by simp [List.getD]
theorem getD_78 (zs : List Int) : (zs ++ [77, 78]).getD (zs.length + 1) 0 = 78 := by simp [List.getD]
/-- the ways of both Splits -/
theorem split_ways (c m : Int) (zs : List Int) :
    (∃ x : Int, x ≠ 0 ∧ (Unit → ∀ v w, Is w v zs → Calls Tryd.prog 7 #[.agg (mcl c m).toArray, v] w fun e w' => e = .returned (.tuple #[.slice none 0 0, .int .i64 x]) ∧ Below w.heap.size w w') ∧ (Unit → ∀ v w, Is w v zs → Calls Tryd.prog 8 #[.agg (mcl c m).toArray, v] w fun e w' => e = .returned (.tuple #[.slice none 0 0, .int .i64 x]) ∧ Below w.heap.size w w')) ∨
    ∃ W : Nat → Nat, (∀ i, i < zs.length → 0 ≤ zs.getD i 0 ∧ zs.getD i 0 ≤ 1000000000) ∧ 0 < zs.length ∧ zs.length ≤ 64 ∧ mform c m = true ∧ (∀ i, i < zs.length → zs.getD i 0 = (W i : Int)) ∧ 0 < sm W zs.length := by
  by_cases hg : ∀ i, i < zs.length → 0 ≤ zs.getD i 0 ∧ zs.getD i 0 ≤ 1000000000
  · have hW : ∀ i, i < zs.length → zs.getD i 0 = (((zs.getD i 0).toNat : Nat) : Int) := fun i hi => by have := hg i hi; omega
    by_cases h0 : zs.length = 0
    · exact Or.inl ⟨2, by decide, fun _ v w I => split_err c m v 2 w (by decide) (fun _ w' b => check_none c m zs v w' (I.step b) hg h0), fun _ v w I => dsp_none c m zs v w I hg h0⟩
    · by_cases h1 : 64 < zs.length
      · exact Or.inl ⟨2, by decide, fun _ v w I => split_err c m v 2 w (by decide) (fun _ w' b => check_long c m zs v w' (I.step b) hg h1), fun _ v w I => dsp_long c m zs v w I hg h1⟩
      · by_cases h2 : mform c m = true
        · by_cases h3 : sm (fun i => (zs.getD i 0).toNat) zs.length = 0
          · exact Or.inl ⟨5, by decide, fun _ v w I => split_err c m v 5 w (by decide) (fun _ w' b => check_zero c m zs v w' (I.step b) hg (by omega) (by omega) h2 _ hW h3), fun _ v w I => dsp_zero c m zs v w I hg (by omega) (by omega) h2 _ hW h3⟩
          · exact Or.inr ⟨_, hg, by omega, by omega, h2, hW, by omega⟩
        · rw [Bool.not_eq_true] at h2
          exact Or.inl ⟨3, by decide, fun _ v w I => split_err c m v 3 w (by decide) (fun _ w' b => check_form c m zs v w' (I.step b) hg (by omega) (by omega) h2), fun _ v w I => dsp_form c m zs v w I hg (by omega) (by omega) h2⟩
  · obtain ⟨i, hi, hb⟩ : ∃ i, i < zs.length ∧ (zs.getD i 0 < 0 ∨ 1000000000 < zs.getD i 0) := by
      refine Classical.byContradiction fun hn => hg fun i hi => ?_
      exact ⟨Int.not_lt.1 (fun h => hn ⟨i, hi, Or.inl h⟩), Int.not_lt.1 (fun h => hn ⟨i, hi, Or.inr h⟩)⟩
    exact Or.inl ⟨1, by decide, fun _ v w I => split_err c m v 1 w (by decide) (fun _ w' b => check_arg c m zs v w' (I.step b) i hi hb), fun _ v w I => dsp_arg c m zs v w I i hi hb⟩
set_option maxHeartbeats 8000000 in
set_option maxRecDepth 100000 in
theorem splits_walk (c m : Int) (v : Value) (zs : List Int) (w : World) (T : Cu w) (N : Cn w) (I : Is w v zs) (hL : zs.length ≤ 17592186043904) (hnc : ∀ k c, v = .slice none k c → c = 0) :
    Calls Tryd.prog 3 #[.agg (mcl c m).toArray, v] w fun e w' => e = .returned (.bool true) ∧ Below w.heap.size w w' := by
  have HT := (show Hid _ from T.alloc (.cells (mcl c m).toArray 23))
  have HNM := (show Hid _ from N.alloc (.cells (mcl c m).toArray 23))
  have VM_0 := (show Hid _ from va_new w (mcl c m) 23)
  have BB_0 := (show Hid _ from (Below.refl w.heap.size w).alloc (Nat.le_refl _) (.cells (mcl c m).toArray 23))
  have HI := (show Hid _ from I)
  obtain ⟨va, vc, ev, hle, hvc, _⟩ := I.form
  obtain ⟨n, hn⟩ : ∃ n, zs.length = n := ⟨_, rfl⟩
  rw [hn] at ev hle hL
  subst ev
  have hn1 : (n : Int) ≤ 17592186043904 := by omega
  have HN := (show Hid _ from hn)
  have HNL := (show Hid _ from hL)
  have HNC := (show Hid _ from hnc)
  clear I T N hn hle hvc hL hnc
  go_enter Tryd.func3, Tryd.ntmps3
  go_upto_region 1 with fail
  change Code.wp _ _ _ _ (w.alloc (.cells (mcl c m).toArray 23))
  generalize w.alloc (.cells (mcl c m).toArray 23) = wa at *
  go_wp2_with fail
  refine (awake05 _ HT.out HNM.out).mono ?_
  rintro e w1 ⟨rfl, b1⟩
  have BB_1 := (show Hid _ from BB_0.out.trans (b1.mono BB_0.out.size))
  have VM_1 := (show Hid _ from VM_0.out.step b1)
  clear b1 HT HNM BB_0 VM_0
  have HI_2 := (show Hid _ from (HI.out.step BB_1.out).step ((Below.refl w1.heap.size w1).alloc (Nat.le_refl _) (.cells #[] 2)))
  have OW_2 : Hid (OwnI (w1.alloc (.cells #[] 2)) w1.heap.size (.slice (some ⟨w1.heap.size, 0, none⟩) 0 0) []) := ⟨World.ownsRow_made w1 #[] 0 (Nat.le_refl _) (by decide) rfl⟩
  have BB_2 := (show Hid _ from (Below.refl w1.heap.size w1).alloc (Nat.le_refl _) (.cells #[] 2))
  go_upto_region 4 with (first | (refine appIs rfl _ _ rfl w1.heap.size [] zs _ _ (by rfl) (by rfl) OW_2.out HI_2.out HNC.out (by simp) (by have := HN.out; have := HNL.out; simp; omega) ?_; intro v3 w3 o3 b3; have OW_3 : Hid (OwnI w3 w1.heap.size v3 zs) := o3; have BB_3 := (show Hid _ from BB_2.out.trans b3); clear o3 b3 OW_2 HI_2 BB_2) | (refine appIs rfl _ _ rfl w1.heap.size zs [77, 78] _ _ (by rfl) (by rfl) (OW_3.out.step ((Below.refl w3.heap.size w3).alloc (Nat.le_refl _) _)) (is_new w3 [77, 78] 2 rfl (by decide) 2) (fun k c e => by cases e) (by have := BB_3.out.size; simp; omega) (by have := HN.out; have := HNL.out; simp; omega) ?_; intro v4 w4 o4 b4; have OW_4 := (show Hid _ from o4); have BB_4 := (show Hid _ from BB_3.out.trans (((Below.refl _ _).alloc (by have := BB_3.out.size; omega) _).trans b4)); clear o4 b4 OW_3 BB_3))
  obtain ⟨n2, hn2⟩ : ∃ n2, (zs ++ [77, 78]).length = n2 := ⟨_, rfl⟩
  have hn3 : (n2 : Int) = (n : Int) + 2 := by have := HN.out; simp at hn2; omega
  have HN3 := (show Hid _ from hn3)
  obtain ⟨fa, fc, ev4, hlf, hfc⟩ := OW_4.out.form
  rw [hn2] at ev4 hlf
  subst ev4
  obtain ⟨G, rfl, hG, _⟩ := OW_4.out.at 0 (by simp)
  have HIF : Hid (Is w4 (.slice (some ⟨G, 0, none⟩) n fc) zs) := by have h := OW_4.out.is.cut; rw [HN.out] at h; exact h
  have H77 : Hid (∀ w', Below w4.heap.size w4 w' → w'.cell? ⟨G, n, none⟩ = some (.int .i64 77) ∧ w'.cell? ⟨G, n + 1, none⟩ = some (.int .i64 78)) := fun w' hw => by
    obtain ⟨g1, e1, hg1, c1⟩ := OW_4.out.at n (by have := HN.out; simp; omega)
    obtain ⟨g2, e2, hg2, c2⟩ := OW_4.out.at (n + 1) (by have := HN.out; simp; omega)
    cases e1
    cases e2
    have hn := HN.out
    rw [← hn] at c1 c2
    rw [getD_77] at c1
    rw [getD_78] at c2
    rw [hn] at c1 c2
    exact ⟨(hw.cell (p := ⟨G, n, none⟩) hG).trans c1, (hw.cell (p := ⟨G, n + 1, none⟩) hG).trans c2⟩
  have BW_4 := (show Hid _ from BB_1.out.trans (BB_4.out.mono BB_1.out.size))
  have VM_4 := (show Hid _ from VM_1.out.step BB_4.out)
  have HI_4 := (show Hid _ from HI.out.step BW_4.out)
  have hf1 : (n2 : Int) ≤ (fc : Int) := by omega
  have hf2 : (n : Int) ≤ (fc : Int) := by omega
  have hf3 : (fc : Int) ≤ 9223372036854775807 := by omega
  have hq1 : (n : Int) < (n2 : Int) := by omega
  have hq2 : (n : Int) + 1 < (n2 : Int) := by omega
  clear hn2 hn3 hlf hfc OW_4 BB_4 BB_1 VM_1 hG
  rcases split_ways c m zs with ⟨x, hx0, ks, kd⟩ | ⟨W, hg, hl0, hl, hmf, hW, ht⟩
  · have KS : Hid (Unit → ∀ v w, Is w v zs → Calls Tryd.prog 7 #[.agg (mcl c m).toArray, v] w fun e w' => e = .returned (.tuple #[.slice none 0 0, .int .i64 x]) ∧ Below w.heap.size w w') := ks
    have KD : Hid (Unit → ∀ v w, Is w v zs → Calls Tryd.prog 8 #[.agg (mcl c m).toArray, v] w fun e w' => e = .returned (.tuple #[.slice none 0 0, .int .i64 x]) ∧ Below w.heap.size w w') := kd
    clear ks kd hx0
    refine wp_region_noPanic ?_
    refine wp_region_held_drew (S := fun w' => Below w4.heap.size w4 w') (by kernel_rfl) (Below.refl _ _).drew (fun hHeld => ?_)
    refine takeD 0 19 (.agg (mcl c m).toArray) (by exact rfl) rfl (by kernel_rfl) (by kernel_rfl) (by kernel_rfl) (fun _ _ _ h => h) (yieldsIf_load_mid (by rfl) _ _ rfl _ _ rfl (mcl c m) _ (fun wq hS => (fun j u hj => by rw [Nat.zero_add]; exact (VM_4.out.step hS).cell j hj)) Tryd.underlying23 rfl infoM) (by assumption) ?_
    try simp only [Act.put, List.setIfInBounds_toArray, List.set_cons_zero, List.set_cons_succ]
    refine takeD 1 20 (.slice (some ⟨G, 0, none⟩) n2 fc) (by exact rfl) rfl (by kernel_rfl) (by kernel_rfl) (by kernel_rfl) (fun _ _ _ h => h) (Or.inl ⟨by rfl, ?_⟩) (by assumption) ?_
    · intro wq hS
      go_simp
    try simp only [Act.put, List.setIfInBounds_toArray, List.set_cons_zero, List.set_cons_succ]
    refine takeD 2 21 (.slice va n vc) (by exact rfl) rfl (by kernel_rfl) (by kernel_rfl) (by kernel_rfl) (fun _ _ _ h => h) (Or.inl ⟨by rfl, ?_⟩) (by assumption) ?_
    · intro wq hS
      go_simp
    try simp only [Act.put, List.setIfInBounds_toArray, List.set_cons_zero, List.set_cons_succ]
    refine takeD 3 22 (.int .i64 (n : Int)) (by exact rfl) rfl (by kernel_rfl) (by kernel_rfl) (by kernel_rfl) (fun _ _ _ h => h) (Or.inl ⟨by rfl, ?_⟩) (by assumption) ?_
    · intro wq hS
      go_simp
    try simp only [Act.put, List.setIfInBounds_toArray, List.set_cons_zero, List.set_cons_succ]
    refine takeD 4 23 (.slice (some ⟨G, 0, none⟩) n fc) (by exact rfl) rfl (by kernel_rfl) (by kernel_rfl) (by kernel_rfl) (fun _ _ _ h => h) (Or.inl ⟨by rfl, ?_⟩) (by assumption) ?_
    · intro wq hS
      go_simp
    try simp only [Act.put, List.setIfInBounds_toArray, List.set_cons_zero, List.set_cons_succ]
    refine wpAnyH_ready (rs := [5]) (by kernel_rfl) (by simp) ?_
    refine AllReadyH.cons (by exact rfl) (fun K hK => ?_) AllReadyH.nil
    go_simp
    refine (KS.out () _ _ (HIF.out.step hHeld)).mono ?_
    rintro e w5 ⟨rfl, b5⟩
    skip
    have hH := hHeld.trans (b5.mono hHeld.size)
    clear b5 hHeld
    go_wp2_with fail
    refine hK.out _ _ hH (fun hHeld => ?_)
    clear hH
    try simp only [Act.put, List.setIfInBounds_toArray, List.set_cons_zero, List.set_cons_succ]
    clear hK K
    refine takeD 6 18 (.tuple #[.slice none 0 0, .int .i64 x]) (by exact rfl) rfl (by kernel_rfl) (by kernel_rfl) (by kernel_rfl) (fun _ _ _ h => h) (Or.inl ⟨by rfl, ?_⟩) (by assumption) ?_
    · intro wq hS
      go_simp
    try simp only [Act.put, List.setIfInBounds_toArray, List.set_cons_zero, List.set_cons_succ]
    refine takeD 7 25 (.slice none 0 0) (by exact rfl) rfl (by kernel_rfl) (by kernel_rfl) (by kernel_rfl) (fun _ _ _ h => h) (Or.inl ⟨by rfl, ?_⟩) (by assumption) ?_
    · intro wq hS
      go_simp
    try simp only [Act.put, List.setIfInBounds_toArray, List.set_cons_zero, List.set_cons_succ]
    refine takeD 8 26 (.int .i64 x) (by exact rfl) rfl (by kernel_rfl) (by kernel_rfl) (by kernel_rfl) (fun _ _ _ h => h) (Or.inl ⟨by rfl, ?_⟩) (by assumption) ?_
    · intro wq hS
      go_simp
    try simp only [Act.put, List.setIfInBounds_toArray, List.set_cons_zero, List.set_cons_succ]
    refine takeD 9 6 (.slice none 0 0) (by exact rfl) rfl (by kernel_rfl) (by kernel_rfl) (by kernel_rfl) (fun _ _ _ h => h) (Or.inl ⟨by rfl, ?_⟩) (by assumption) ?_
    · intro wq hS
      go_simp
    try simp only [Act.put, List.setIfInBounds_toArray, List.set_cons_zero, List.set_cons_succ]
    refine takeD 10 7 (.int .i64 x) (by exact rfl) rfl (by kernel_rfl) (by kernel_rfl) (by kernel_rfl) (fun _ _ _ h => h) (Or.inl ⟨by rfl, ?_⟩) (by assumption) ?_
    · intro wq hS
      go_simp
    try simp only [Act.put, List.setIfInBounds_toArray, List.set_cons_zero, List.set_cons_succ]
    refine wpAnyH_done (by kernel_rfl) ?_ _
    refine NoPanic.normal ?_
    have HH := (show Hid _ from hHeld)
    clear hHeld KS
    have y0 := (VM_4.out.step HH.out).cell 0 (v := .int .i64 c) rfl
    have y1 := (VM_4.out.step HH.out).cell 1 (v := .int .i64 m) rfl
    go_wp2_with fail
    clear y0 y1
    refine (KD.out () _ _ (HI_4.out.step HH.out)).mono ?_
    rintro e w6 ⟨rfl, b6⟩
    have HH6 := (show Hid _ from HH.out.trans (b6.mono HH.out.size))
    clear b6 HH KD
    have c77 := (H77.out _ HH6.out).1
    have c78 := (H77.out _ HH6.out).2
    go_wp2_with fail
    clear c77 c78
    refine (sameInts_ok _ _ zs _ (HIF.out.step HH6.out) (HI_4.out.step HH6.out)).mono ?_
    rintro e w7 ⟨rfl, b7⟩
    have HH7 := (show Hid _ from HH6.out.trans (b7.mono HH6.out.size))
    clear b7 HH6
    have c77 := (H77.out _ HH7.out).1
    have c78 := (H77.out _ HH7.out).2
    go_wp2_with fail
    clear c77 c78
    refine wp_loop_rounds 1 ?_
    rw [rounds_succ]
    go_wp2_with fail
    exact bodyPost_ret (v := .bool true) (by simp [results, Tryd.results3, go_sem]) rfl ⟨rfl, BW_4.out.trans (HH7.out.mono BW_4.out.size)⟩
  · have HGD := (show Hid _ from hg)
    have HWE := (show Hid _ from hW)
    have HT0 := (show Hid _ from ht)
    have HMF := (show Hid _ from hmf)
    have hl2 : (n : Int) ≤ 64 := by have := HN.out; omega
    have HL0 := (show Hid _ from hl0)
    have HL := (show Hid _ from hl)
    clear hg hW ht hmf hl0 hl
    refine wp_region_noPanic ?_
    refine wp_region_held_drew (S := fun w' => Below w4.heap.size w4 w') (by kernel_rfl) (Below.refl _ _).drew (fun hHeld => ?_)
    refine takeD 0 19 (.agg (mcl c m).toArray) (by exact rfl) rfl (by kernel_rfl) (by kernel_rfl) (by kernel_rfl) (fun _ _ _ h => h) (yieldsIf_load_mid (by rfl) _ _ rfl _ _ rfl (mcl c m) _ (fun wq hS => (fun j u hj => by rw [Nat.zero_add]; exact (VM_4.out.step hS).cell j hj)) Tryd.underlying23 rfl infoM) (by assumption) ?_
    try simp only [Act.put, List.setIfInBounds_toArray, List.set_cons_zero, List.set_cons_succ]
    refine takeD 1 20 (.slice (some ⟨G, 0, none⟩) n2 fc) (by exact rfl) rfl (by kernel_rfl) (by kernel_rfl) (by kernel_rfl) (fun _ _ _ h => h) (Or.inl ⟨by rfl, ?_⟩) (by assumption) ?_
    · intro wq hS
      go_simp
    try simp only [Act.put, List.setIfInBounds_toArray, List.set_cons_zero, List.set_cons_succ]
    refine takeD 2 21 (.slice va n vc) (by exact rfl) rfl (by kernel_rfl) (by kernel_rfl) (by kernel_rfl) (fun _ _ _ h => h) (Or.inl ⟨by rfl, ?_⟩) (by assumption) ?_
    · intro wq hS
      go_simp
    try simp only [Act.put, List.setIfInBounds_toArray, List.set_cons_zero, List.set_cons_succ]
    refine takeD 3 22 (.int .i64 (n : Int)) (by exact rfl) rfl (by kernel_rfl) (by kernel_rfl) (by kernel_rfl) (fun _ _ _ h => h) (Or.inl ⟨by rfl, ?_⟩) (by assumption) ?_
    · intro wq hS
      go_simp
    try simp only [Act.put, List.setIfInBounds_toArray, List.set_cons_zero, List.set_cons_succ]
    refine takeD 4 23 (.slice (some ⟨G, 0, none⟩) n fc) (by exact rfl) rfl (by kernel_rfl) (by kernel_rfl) (by kernel_rfl) (fun _ _ _ h => h) (Or.inl ⟨by rfl, ?_⟩) (by assumption) ?_
    · intro wq hS
      go_simp
    try simp only [Act.put, List.setIfInBounds_toArray, List.set_cons_zero, List.set_cons_succ]
    refine wpAnyH_ready (rs := [5]) (by kernel_rfl) (by simp) ?_
    refine AllReadyH.cons (by exact rfl) (fun K hK => ?_) AllReadyH.nil
    go_simp
    refine (split_yes c m zs _ _ (HIF.out.step hHeld) HGD.out HL0.out HL.out HMF.out W HWE.out HT0.out).mono ?_
    rintro e w5 ⟨⟨M5, g, _, rfl, p5, s5, v5⟩, b5⟩
    rw [HN.out] at p5 s5 v5 ⊢
    have HP : Hid (Pm (fun x => x) g 0 n) := p5
    have HS : Hid (Srt (pr m.natAbs (sm W n) W) g 0 n) := s5
    have VX_5 := (show Hid _ from v5)
    clear p5 s5 v5
    have hH := hHeld.trans (b5.mono hHeld.size)
    clear b5 hHeld
    go_wp2_with fail
    refine hK.out _ _ hH (fun hHeld => ?_)
    clear hH
    try simp only [Act.put, List.setIfInBounds_toArray, List.set_cons_zero, List.set_cons_succ]
    clear hK K
    refine takeD 6 18 (.tuple #[.slice (some ⟨M5, 0, none⟩) n n, .int .i64 0]) (by exact rfl) rfl (by kernel_rfl) (by kernel_rfl) (by kernel_rfl) (fun _ _ _ h => h) (Or.inl ⟨by rfl, ?_⟩) (by assumption) ?_
    · intro wq hS
      go_simp
    try simp only [Act.put, List.setIfInBounds_toArray, List.set_cons_zero, List.set_cons_succ]
    refine takeD 7 25 (.slice (some ⟨M5, 0, none⟩) n n) (by exact rfl) rfl (by kernel_rfl) (by kernel_rfl) (by kernel_rfl) (fun _ _ _ h => h) (Or.inl ⟨by rfl, ?_⟩) (by assumption) ?_
    · intro wq hS
      go_simp
    try simp only [Act.put, List.setIfInBounds_toArray, List.set_cons_zero, List.set_cons_succ]
    refine takeD 8 26 (.int .i64 0) (by exact rfl) rfl (by kernel_rfl) (by kernel_rfl) (by kernel_rfl) (fun _ _ _ h => h) (Or.inl ⟨by rfl, ?_⟩) (by assumption) ?_
    · intro wq hS
      go_simp
    try simp only [Act.put, List.setIfInBounds_toArray, List.set_cons_zero, List.set_cons_succ]
    refine takeD 9 6 (.slice (some ⟨M5, 0, none⟩) n n) (by exact rfl) rfl (by kernel_rfl) (by kernel_rfl) (by kernel_rfl) (fun _ _ _ h => h) (Or.inl ⟨by rfl, ?_⟩) (by assumption) ?_
    · intro wq hS
      go_simp
    try simp only [Act.put, List.setIfInBounds_toArray, List.set_cons_zero, List.set_cons_succ]
    refine takeD 10 7 (.int .i64 0) (by exact rfl) rfl (by kernel_rfl) (by kernel_rfl) (by kernel_rfl) (fun _ _ _ h => h) (Or.inl ⟨by rfl, ?_⟩) (by assumption) ?_
    · intro wq hS
      go_simp
    try simp only [Act.put, List.setIfInBounds_toArray, List.set_cons_zero, List.set_cons_succ]
    refine wpAnyH_done (by kernel_rfl) ?_ _
    refine NoPanic.normal ?_
    have HH := (show Hid _ from hHeld)
    clear hHeld
    have y0 := (VM_4.out.step HH.out).cell 0 (v := .int .i64 c) rfl
    have y1 := (VM_4.out.step HH.out).cell 1 (v := .int .i64 m) rfl
    go_wp2_with fail
    clear y0 y1
    refine (dsp_yes c m zs _ _ (HI_4.out.step HH.out) HGD.out HL0.out HL.out HMF.out W HWE.out HT0.out g (by rw [HN.out]; exact HP.out) (by rw [HN.out]; exact HS.out)).mono ?_
    rintro e w6 ⟨⟨M6, rfl, v6⟩, b6⟩
    rw [HN.out] at v6 ⊢
    have HH6 := (show Hid _ from HH.out.trans (b6.mono HH.out.size))
    obtain ⟨Z, hZ⟩ : ∃ Z, gots m (sm W n) W g n = Z := ⟨_, rfl⟩
    have VX_6 := (show Hid _ from VX_5.out.step b6)
    rw [hZ] at v6 VX_6
    have VY_6 := (show Hid _ from v6)
    clear hZ v6 b6 HH VX_5
    have c77 := (H77.out _ HH6.out).1
    have c78 := (H77.out _ HH6.out).2
    go_wp2_with fail
    clear c77 c78
    refine (sameInts_ok _ _ zs _ (HIF.out.step HH6.out) (HI_4.out.step HH6.out)).mono ?_
    rintro e w7 ⟨rfl, b7⟩
    have HH7 := (show Hid _ from HH6.out.trans (b7.mono HH6.out.size))
    have VX := (show Hid _ from VX_6.out.step b7)
    have VY := (show Hid _ from VY_6.out.step b7)
    clear b7 HH6 VX_6 VY_6
    have c77 := (H77.out _ HH7.out).1
    have c78 := (H77.out _ HH7.out).2
    go_wp2_with fail
    clear c77 c78
    go_loopw [10, 71] (fun s10 s71 wr => ∃ i : Nat, i ≤ n ∧ s71 = .int .i64 (i : Int) ∧ Hid (Below w7.heap.size w7 wr)) (fun _ s71 _ => n - (intOf s71).toNat)
    case atStart => exact ⟨0, by omega, by go_num, Below.refl _ _⟩
    case round =>
      obtain ⟨i, hi, rfl, BB7⟩ := hrel
      by_cases hik : (n : Int) ≤ (i : Int)
      · go_wp2_with fail
        exact bodyPost_ret (v := .bool true) (by simp [results, Tryd.results3, go_sem]) rfl ⟨rfl, BW_4.out.trans ((HH7.out.trans (BB7.out.mono HH7.out.size)).mono BW_4.out.size)⟩
      · have hi1 : (i : Int) < (n : Int) := by omega
        have hi2 : i < n := by omega
        have HI2 := (show Hid _ from hi2)
        go_upto_region 11 with fail
        refine wp_region_noPanic ?_
        refine wp_region_held_drew (S := fun w' => Below w7.heap.size w7 w') (by kernel_rfl) BB7.out.drew (fun hHeld => ?_)
        refine takeD 0 74 (.slice (some ⟨M5, 0, none⟩) n n) (by exact rfl) rfl (by kernel_rfl) (by kernel_rfl) (by kernel_rfl) (fun _ _ _ h => h) (Or.inl ⟨by rfl, ?_⟩) (by assumption) ?_
        · intro wq hS
          go_simp
        try simp only [Act.put, List.setIfInBounds_toArray, List.set_cons_zero, List.set_cons_succ]
        refine takeD 1 75 (.int .i64 (i : Int)) (by exact rfl) rfl (by kernel_rfl) (by kernel_rfl) (by kernel_rfl) (fun _ _ _ h => h) (Or.inl ⟨by rfl, ?_⟩) (by assumption) ?_
        · intro wq hS
          go_simp
        try simp only [Act.put, List.setIfInBounds_toArray, List.set_cons_zero, List.set_cons_succ]
        refine takeD 2 76 (.pointer (some ⟨M5, i * 2, none⟩)) (by exact rfl) rfl (by kernel_rfl) (by kernel_rfl) (by kernel_rfl) (fun _ _ _ h => h) (Or.inl ⟨by rfl, ?_⟩) (by assumption) ?_
        · intro wq hS
          go_simp
        try simp only [Act.put, List.setIfInBounds_toArray, List.set_cons_zero, List.set_cons_succ]
        refine takeD 3 77 (.agg #[.int .i64 c, .int .i64 (Z i)]) (by exact rfl) rfl (by kernel_rfl) (by kernel_rfl) (by kernel_rfl) (fun _ _ _ h => h) (yieldsIf_load_mid (by rfl) _ _ rfl _ _ rfl [.int .i64 c, .int .i64 (Z i)] _ (fun wq hS => (fun j u hj => (VX.out.step hS).cell (i * 2 + j) (mo_two (fun _ => c) Z HI2.out j u hj))) Tryd.underlying23 rfl infoM) (by assumption) ?_
        try simp only [Act.put, List.setIfInBounds_toArray, List.set_cons_zero, List.set_cons_succ]
        refine takeD 4 78 (.slice (some ⟨M6, 0, none⟩) n n) (by exact rfl) rfl (by kernel_rfl) (by kernel_rfl) (by kernel_rfl) (fun _ _ _ h => h) (Or.inl ⟨by rfl, ?_⟩) (by assumption) ?_
        · intro wq hS
          go_simp
        try simp only [Act.put, List.setIfInBounds_toArray, List.set_cons_zero, List.set_cons_succ]
        refine takeD 5 79 (.int .i64 (i : Int)) (by exact rfl) rfl (by kernel_rfl) (by kernel_rfl) (by kernel_rfl) (fun _ _ _ h => h) (Or.inl ⟨by rfl, ?_⟩) (by assumption) ?_
        · intro wq hS
          go_simp
        try simp only [Act.put, List.setIfInBounds_toArray, List.set_cons_zero, List.set_cons_succ]
        refine takeD 6 80 (.pointer (some ⟨M6, i * 2, none⟩)) (by exact rfl) rfl (by kernel_rfl) (by kernel_rfl) (by kernel_rfl) (fun _ _ _ h => h) (Or.inl ⟨by rfl, ?_⟩) (by assumption) ?_
        · intro wq hS
          go_simp
        try simp only [Act.put, List.setIfInBounds_toArray, List.set_cons_zero, List.set_cons_succ]
        refine takeD 7 81 (.agg #[.int .i64 c, .int .i64 (Z i)]) (by exact rfl) rfl (by kernel_rfl) (by kernel_rfl) (by kernel_rfl) (fun _ _ _ h => h) (yieldsIf_load_mid (by rfl) _ _ rfl _ _ rfl [.int .i64 c, .int .i64 (Z i)] _ (fun wq hS => (fun j u hj => (VY.out.step hS).cell (i * 2 + j) (mo_two (fun _ => c) Z HI2.out j u hj))) Tryd.underlying23 rfl infoM) (by assumption) ?_
        try simp only [Act.put, List.setIfInBounds_toArray, List.set_cons_zero, List.set_cons_succ]
        refine takeD 8 82 (.bool false) (by exact rfl) rfl (by kernel_rfl) (by kernel_rfl) (by kernel_rfl) (fun _ _ _ h => h) (Or.inl ⟨by rfl, ?_⟩) (by assumption) ?_
        · intro wq hS
          have := eqM3 wq c (Z i)
          go_simp
        try simp only [Act.put, List.setIfInBounds_toArray, List.set_cons_zero, List.set_cons_succ]
        refine wpAnyH_done (by kernel_rfl) ?_ _
        refine NoPanic.normal ?_
        have HH := (show Hid _ from hHeld)
        clear hHeld BB7
        go_wp2_with fail
        exact ⟨⟨i + 1, by omega, by go_num, HH.out⟩, by simp [intOf]; omega⟩
end Go.Proofs.YtbgglghapjfdeaaDoor
