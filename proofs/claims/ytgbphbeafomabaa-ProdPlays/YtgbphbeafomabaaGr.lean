/- prod: the walks of ProdChecks and ProdNil. -/
import Derived.Test.YtgbphbeafomabaaGq
import Derived.Test.YtgbphbeafomabaaGy
namespace Go.Proofs.Ytgbphbeafomabaa
open Go.RowKit Go.Shelf
set_option linter.unusedVariables false

theorem list_nil (w : World) : Calls Try.prog 19 #[.pointer none] w fun e w' => e = .returned (.slice none 0 0) ∧ w' = w := by
  go_enter Try.func19, Try.ntmps19
  go_wp2_with fail
  go_ret
  exact ⟨rfl, rfl⟩
theorem zzR_one : ∀ v ∈ ([.int .i64 0, .int .i64 0, .int .i64 0, .int .i64 0, .int .i64 0, .int .i64 0, .int .i64 0, .int .i64 0, .slice none 0 0] : List Value), v.oneCell' = true := zz_one
set_option maxRecDepth 100000 in
set_option maxHeartbeats 1000000 in
theorem rdocat_nil (id day : Int) (w : World) : Calls Try.prog 21 #[.slice none 0 0, .int .i64 id, .int .i64 day] w fun e w' => e = .returned (.tuple #[.agg #[.int .i64 0, .int .i64 0, .int .i64 0, .int .i64 0, .int .i64 0, .int .i64 0, .int .i64 0, .int .i64 0, .slice none 0 0], .int .i64 (if wi day 1 3652059 = true then 7 else 1)]) ∧ Below w.heap.size w w' := by
  have HU := (show Hid _ from va_new w [.int .i64 0, .int .i64 0, .int .i64 0, .int .i64 0, .int .i64 0, .int .i64 0, .int .i64 0, .int .i64 0, .slice none 0 0] 24)
  have HD := (show Hid _ from (Below.refl w.heap.size w).alloc (Nat.le_refl _) (.cells #[.int .i64 0, .int .i64 0, .int .i64 0, .int .i64 0, .int .i64 0, .int .i64 0, .int .i64 0, .int .i64 0, .slice none 0 0] 24))
  cases hd : wi day 1 3652059
  · go_enter Try.func21, Try.ntmps21
    go_wp2_with (first
      | (go_at_call 25; refine (ris_ok day _).mono ?_; rintro e w1 ⟨rfl, rfl⟩; rw [hd])
      | (refine stA rfl 24 _ _ rfl w.heap.size (by rfl) _ [.int .i64 0, .int .i64 0, .int .i64 0, .int .i64 0, .int .i64 0, .int .i64 0, .int .i64 0, .int .i64 0, .slice none 0 0] (by rfl) 24 HU.out infoR rfl zz_one ?_; intro w5 V5 U5))
    refine bodyPost_ret (v := .tuple #[.agg #[.int .i64 0, .int .i64 0, .int .i64 0, .int .i64 0, .int .i64 0, .int .i64 0, .int .i64 0, .int .i64 0, .slice none 0 0], .int .i64 1]) ?_ rfl ⟨rfl, U5.bel HD.out (Nat.le_refl _)⟩
    have hld := run_loadVar_row (P := Try.prog) w5 w.heap.size 24 24 _ (0, 0) _ V5.blk Try.underlying24 rfl infoR
    simp [results, Try.results21, asAddr, hld]
  · go_enter Try.func21, Try.ntmps21
    go_wp2_with (go_at_call 25; refine (ris_ok day _).mono ?_; rintro e w1 ⟨rfl, rfl⟩; rw [hd])
    go_loop [8, 17] (fun b i => b = .int .i64 (-1) ∧ i = .int .i64 0) (fun _ _ => 0)
    case atStart => exact ⟨rfl, rfl⟩
    case round =>
      obtain ⟨rfl, rfl⟩ := hrel
      go_wp2_with (refine stA rfl 24 _ _ rfl w.heap.size (by rfl) _ [.int .i64 0, .int .i64 0, .int .i64 0, .int .i64 0, .int .i64 0, .int .i64 0, .int .i64 0, .int .i64 0, .slice none 0 0] (by rfl) 24 HU.out infoR rfl zz_one ?_; intro w5 V5 U5)
      refine bodyPost_ret (v := .tuple #[.agg #[.int .i64 0, .int .i64 0, .int .i64 0, .int .i64 0, .int .i64 0, .int .i64 0, .int .i64 0, .int .i64 0, .slice none 0 0], .int .i64 7]) ?_ rfl ⟨rfl, U5.bel HD.out (Nat.le_refl _)⟩
      have hld := run_loadVar_row (P := Try.prog) w5 w.heap.size 24 24 _ (0, 0) _ V5.blk Try.underlying24 rfl infoR
      simp [results, Try.results21, asAddr, hld]
set_option maxRecDepth 100000 in
set_option maxHeartbeats 4000000 in
theorem checks_walk (x : PV) (tv : Value) (w : World) (h : Tr w tv x.ts) (hno : ∀ n c, tv = .slice none n c → c = 0) (hl : x.ts.length + 2 ≤ 8796093022208) :
    Calls Try.prog 3 #[.agg (x.cells tv).toArray] w fun e w' => e = .returned (.bool true) ∧ Below w.heap.size w w' := by
  obtain ⟨n, hn⟩ : ∃ n, n = x.ts.length := ⟨_, rfl⟩
  obtain ⟨ta, tc, rfl, e1, e2⟩ : ∃ a c, tv = .slice a n c ∧ n ≤ c ∧ c ≤ 9223372036854775807 := by obtain ⟨_, a, c, e, h1, h2, _⟩ := h; exact ⟨a, c, by rw [hn]; exact e, by rw [hn]; exact h1, h2⟩
  have hl2 : n + 2 ≤ 8796093022208 := by rw [hn]; exact hl
  have HLn := (show Hid _ from hl2)
  have HV := (show Hid _ from va_new w (x.cells (.slice ta n tc)) 24)
  have HD := (show Hid _ from (Below.refl w.heap.size w).alloc (Nat.le_refl _) (.cells (x.cells (.slice ta n tc)).toArray 24))
  have HT0 := (show Hid _ from h.step HD.out)
  have HN := (show Hid _ from hno)
  have HLL := (show Hid _ from hl)
  have HNN := (show Hid _ from hn)
  clear h hno hl hn hl2
  go_enter Try.func3, Try.ntmps3
  go_wp2_with (refine ldA rfl 24 _ rfl w.heap.size (by rfl) _ _ HV.out _ Try.underlying24 rfl infoR ?_)
  refine (of_ok x _ _ HT0.out HN.out HLL.out).mono ?_
  rintro e w2 ⟨⟨v, rfl, of2⟩, b2⟩
  have V2 := (show Hid _ from (HV.out.step b2).alloc (.cells #[.int .i64 0, .int .i64 0, .int .i64 0, .int .i64 0, .int .i64 0, .int .i64 0, .int .i64 0, .int .i64 0, .slice none 0 0] 25))
  have D2 := (show Hid _ from HD.out.trans (b2.mono HD.out.size))
  have T2 := (show Hid _ from HT0.out.step b2)
  have O2 := (show Hid _ from of2)
  have l2 := (HV.out.step b2).lt
  obtain ⟨g, cap, hv, k1, k2, k3, k4⟩ := of2.own
  rw [← HNN.out] at hv k1
  subst hv
  clear b2 of2 k3 k4 HV HD HT0
  go_upto_region 2 with (refine stA rfl 25 _ _ rfl w2.heap.size (by rfl) _ (x.cells (.slice (some ⟨g, 0, none⟩) n cap)) (by rfl) 25 (va_new w2 [.int .i64 0, .int .i64 0, .int .i64 0, .int .i64 0, .int .i64 0, .int .i64 0, .int .i64 0, .int .i64 0, .slice none 0 0] 25) infoP rfl (pv_one _ ⟨_, _, _, rfl⟩) ?_; intro W VQ0 UQ)
  have BQ : Below w2.heap.size w2 W := UQ.bel ((Below.refl _ _).alloc (Nat.le_refl _) _) (Nat.le_refl _)
  have VQ := (show Hid _ from VQ0)
  have VP := (show Hid _ from V2.out.upd UQ (by omega))
  have HOf := (show Hid _ from O2.out.step BQ)
  have HT := (show Hid _ from T2.out.step BQ)
  have DW := (show Hid _ from D2.out.trans (BQ.mono D2.out.size))
  have HC77 : Hid (∀ wq, Below W.heap.size W wq → wq.cell? ⟨g, n * 2, none⟩ = some (.int .i64 77)) := by
    intro wq hS
    have hn := HNN.out
    subst hn
    obtain ⟨g', cap', e, _, _, _, o⟩ := (HOf.out.step hS).own
    cases e
    obtain ⟨b, off, e, c1, _⟩ := o.tr.cells x.ts.length (by omega)
    cases e
    rw [Nat.zero_add] at c1
    rw [c1]
    have : tf (x.ts ++ [(77, 0)]) x.ts.length = 77 := by
      unfold tf
      simp [List.getD]
    rw [this]
  clear VQ0 UQ BQ V2 D2 T2 O2
  generalize w2.heap.size = bq at *
  have d1 : IntKind.i64.wrap ((n : Int) + 1) = (n : Int) + 1 := by rw [IntKind.wrap_i64]; have := HLn.out; omega
  have d2 : (0 : Int) ≤ (n : Int) + 1 := by omega
  have d3 : (n : Int) + 1 ≤ (cap : Int) := by omega
  have d4 : (0 : Int) ≤ (n : Int) := by omega
  have d5 : (n : Int) < (n : Int) + 1 := by omega
  have d6 : ((n : Int) + 1).toNat = n + 1 := by omega
  refine wp_region_noPanic ?_
  refine wp_region_held_drew (S := fun w' => Below W.heap.size W w') (by kernel_rfl) ((Below.refl _ _).drew) (fun hHeld => ?_)
  have S_ := (Below.refl W.heap.size W).drew
  refine wpAnyH_ready (rs := [0]) (by kernel_rfl) (by simp) ?_
  refine AllReadyH.cons (by exact rfl) (fun K hK => ?_) AllReadyH.nil
  go_simp
  refine (awake_ok _).mono ?_
  rintro e u0 ⟨rfl, b0⟩
  have S0 : Below W.heap.size W u0 := S_.trans (b0.mono S_.size)
  clear b0
  go_wp2_with fail
  refine hK.out _ _ S0 (fun hHeld => ?_)
  clear hK K
  refine takeD 1 7 (.bool true) (by exact rfl) rfl (by kernel_rfl) (by kernel_rfl) (by kernel_rfl) (fun _ _ _ h => h) (Or.inl ⟨by rfl, ?_⟩) (by assumption) ?_
  · intro wq hS
    go_simp
  simp only [Act.put, List.setIfInBounds_toArray, List.set_cons_zero, List.set_cons_succ]
  refine takeD 2 8 (.agg (x.cells (.slice (some ⟨g, 0, none⟩) n cap)).toArray) (by exact rfl) rfl (by kernel_rfl) (by kernel_rfl) (by kernel_rfl) (fun _ _ _ h => h) (yieldsIf_load_mid (by rfl) _ _ rfl _ _ rfl _ _ (fun wq hS => (fun j u hj => by rw [Nat.zero_add]; exact (VQ.out.step hS).cell j hj)) Try.underlying25 rfl infoP) (by assumption) ?_
  simp only [Act.put, List.setIfInBounds_toArray, List.set_cons_zero, List.set_cons_succ]
  refine takeD 4 10 (.agg (x.cells (.slice ta n tc)).toArray) (by exact rfl) rfl (by kernel_rfl) (by kernel_rfl) (by kernel_rfl) (fun _ _ _ h => h) (yieldsIf_load_mid (by rfl) _ _ rfl _ _ rfl _ _ (fun wq hS => (fun j u hj => by rw [Nat.zero_add]; exact (VP.out.step hS).cell j hj)) Try.underlying24 rfl infoR) (by assumption) ?_
  simp only [Act.put, List.setIfInBounds_toArray, List.set_cons_zero, List.set_cons_succ]
  refine wpAnyH_ready (rs := [3]) (by kernel_rfl) (by simp) ?_
  refine AllReadyH.cons (by exact rfl) (fun K hK => ?_) AllReadyH.nil
  go_simp
  refine (check_ok x _ _ (HOf.out.tr.step S0)).mono ?_
  rintro e u3 ⟨rfl, b3⟩
  have S3 : Below W.heap.size W u3 := S0.trans (b3.mono S0.size)
  clear b3
  go_wp2_with fail
  refine hK.out _ _ S3 (fun hHeld => ?_)
  clear hK K
  refine wpAnyH_ready (rs := [5]) (by kernel_rfl) (by simp) ?_
  refine AllReadyH.cons (by exact rfl) (fun K hK => ?_) AllReadyH.nil
  go_simp
  refine (rcheck_ok x _ _ (HT.out.step S3)).mono ?_
  rintro e u5 ⟨rfl, b5⟩
  have S5 : Below W.heap.size W u5 := S3.trans (b5.mono S3.size)
  clear b5
  go_wp2_with fail
  refine hK.out _ _ S5 (fun hHeld => ?_)
  clear hK K
  refine takeD 6 12 (.bool true) (by exact rfl) rfl (by kernel_rfl) (by kernel_rfl) (by kernel_rfl) (fun _ _ _ h => h) (Or.inl ⟨by rfl, ?_⟩) (by assumption) ?_
  · intro wq hS
    go_simp
  simp only [Act.put, List.setIfInBounds_toArray, List.set_cons_zero, List.set_cons_succ]
  refine takeD 7 13 (.bool true) (by exact rfl) rfl (by kernel_rfl) (by kernel_rfl) (by kernel_rfl) (fun _ _ _ h => h) (Or.inl ⟨by rfl, ?_⟩) (by assumption) ?_
  · intro wq hS
    go_simp
  simp only [Act.put, List.setIfInBounds_toArray, List.set_cons_zero, List.set_cons_succ]
  refine takeD 8 14 (.bool true) (by exact rfl) rfl (by kernel_rfl) (by kernel_rfl) (by kernel_rfl) (fun _ _ _ h => h) (Or.inl ⟨by rfl, ?_⟩) (by assumption) ?_
  · intro wq hS
    go_simp
  simp only [Act.put, List.setIfInBounds_toArray, List.set_cons_zero, List.set_cons_succ]
  refine takeD 9 15 (.pointer (some ⟨bq, 8, none⟩)) (by exact rfl) rfl (by kernel_rfl) (by kernel_rfl) (by kernel_rfl) (fun _ _ _ h => h) (Or.inl ⟨by rfl, ?_⟩) (by assumption) ?_
  · intro wq hS
    go_simp
  simp only [Act.put, List.setIfInBounds_toArray, List.set_cons_zero, List.set_cons_succ]
  refine takeD 10 16 (.slice (some ⟨g, 0, none⟩) n cap) (by exact rfl) rfl (by kernel_rfl) (by kernel_rfl) (by kernel_rfl) (fun _ _ _ h => h) (Or.inl ⟨by rfl, ?_⟩) (by assumption) ?_
  · intro wq hS
    have c := (VQ.out.step hS).cell 8 (v := .slice (some ⟨g, 0, none⟩) n cap) rfl
    go_simp
  simp only [Act.put, List.setIfInBounds_toArray, List.set_cons_zero, List.set_cons_succ]
  refine takeD 12 18 (.pointer (some ⟨w.heap.size, 8, none⟩)) (by exact rfl) rfl (by kernel_rfl) (by kernel_rfl) (by kernel_rfl) (fun _ _ _ h => h) (Or.inl ⟨by rfl, ?_⟩) (by assumption) ?_
  · intro wq hS
    go_simp
  simp only [Act.put, List.setIfInBounds_toArray, List.set_cons_zero, List.set_cons_succ]
  refine takeD 13 19 (.slice ta n tc) (by exact rfl) rfl (by kernel_rfl) (by kernel_rfl) (by kernel_rfl) (fun _ _ _ h => h) (Or.inl ⟨by rfl, ?_⟩) (by assumption) ?_
  · intro wq hS
    have c := (VP.out.step hS).cell 8 (v := .slice ta n tc) rfl
    go_simp
  simp only [Act.put, List.setIfInBounds_toArray, List.set_cons_zero, List.set_cons_succ]
  refine wpAnyH_ready (rs := [11]) (by kernel_rfl) (by simp) ?_
  refine AllReadyH.cons (by exact rfl) (fun K hK => ?_) AllReadyH.nil
  go_simp
  refine (tiers_ok _ x.ts _ (HOf.out.tr.step S5)).mono ?_
  rintro e u11 ⟨rfl, b11⟩
  have S11 : Below W.heap.size W u11 := S5.trans (b11.mono S5.size)
  clear b11
  go_wp2_with fail
  refine hK.out _ _ S11 (fun hHeld => ?_)
  clear hK K
  refine wpAnyH_ready (rs := [14]) (by kernel_rfl) (by simp) ?_
  refine AllReadyH.cons (by exact rfl) (fun K hK => ?_) AllReadyH.nil
  go_simp
  refine (rtiers_ok _ x.ts _ (HT.out.step S11)).mono ?_
  rintro e u14 ⟨rfl, b14⟩
  have S14 : Below W.heap.size W u14 := S11.trans (b14.mono S11.size)
  clear b14
  go_wp2_with fail
  refine hK.out _ _ S14 (fun hHeld => ?_)
  clear hK K
  refine takeD 15 21 (.bool true) (by exact rfl) rfl (by kernel_rfl) (by kernel_rfl) (by kernel_rfl) (fun _ _ _ h => h) (Or.inl ⟨by rfl, ?_⟩) (by assumption) ?_
  · intro wq hS
    go_simp
  simp only [Act.put, List.setIfInBounds_toArray, List.set_cons_zero, List.set_cons_succ]
  refine takeD 16 22 (.bool true) (by exact rfl) rfl (by kernel_rfl) (by kernel_rfl) (by kernel_rfl) (fun _ _ _ h => h) (Or.inl ⟨by rfl, ?_⟩) (by assumption) ?_
  · intro wq hS
    go_simp
  simp only [Act.put, List.setIfInBounds_toArray, List.set_cons_zero, List.set_cons_succ]
  refine takeD 17 23 (.bool true) (by exact rfl) rfl (by kernel_rfl) (by kernel_rfl) (by kernel_rfl) (fun _ _ _ h => h) (Or.inl ⟨by rfl, ?_⟩) (by assumption) ?_
  · intro wq hS
    go_simp
  simp only [Act.put, List.setIfInBounds_toArray, List.set_cons_zero, List.set_cons_succ]
  refine takeD 18 24 (.agg (x.cells (.slice (some ⟨g, 0, none⟩) n cap)).toArray) (by exact rfl) rfl (by kernel_rfl) (by kernel_rfl) (by kernel_rfl) (fun _ _ _ h => h) (yieldsIf_load_mid (by rfl) _ _ rfl _ _ rfl _ _ (fun wq hS => (fun j u hj => by rw [Nat.zero_add]; exact (VQ.out.step hS).cell j hj)) Try.underlying25 rfl infoP) (by assumption) ?_
  simp only [Act.put, List.setIfInBounds_toArray, List.set_cons_zero, List.set_cons_succ]
  refine takeD 20 26 (.agg (x.cells (.slice ta n tc)).toArray) (by exact rfl) rfl (by kernel_rfl) (by kernel_rfl) (by kernel_rfl) (fun _ _ _ h => h) (yieldsIf_load_mid (by rfl) _ _ rfl _ _ rfl _ _ (fun wq hS => (fun j u hj => by rw [Nat.zero_add]; exact (VP.out.step hS).cell j hj)) Try.underlying24 rfl infoR) (by assumption) ?_
  simp only [Act.put, List.setIfInBounds_toArray, List.set_cons_zero, List.set_cons_succ]
  refine wpAnyH_ready (rs := [19]) (by kernel_rfl) (by simp) ?_
  refine AllReadyH.cons (by exact rfl) (fun K hK => ?_) AllReadyH.nil
  go_simp
  refine (back_ok x _ _ ⟨_, _, _, rfl⟩).mono ?_
  rintro e u19 ⟨rfl, b19⟩
  have S19 : Below W.heap.size W u19 := S14.trans (b19.mono S14.size)
  clear b19
  go_wp2_with fail
  refine hK.out _ _ S19 (fun hHeld => ?_)
  clear hK K
  refine wpAnyH_ready (rs := [21]) (by kernel_rfl) (by simp) ?_
  refine AllReadyH.cons (by exact rfl) (fun K hK => ?_) AllReadyH.nil
  go_simp
  refine (rsame_true x _ _ _ (HOf.out.tr.step S19) (HT.out.step S19)).mono ?_
  rintro e u21 ⟨rfl, b21⟩
  have S21 : Below W.heap.size W u21 := S19.trans (b21.mono S19.size)
  clear b21
  go_wp2_with fail
  refine hK.out _ _ S21 (fun hHeld => ?_)
  clear hK K
  refine takeD 22 28 (.bool true) (by exact rfl) rfl (by kernel_rfl) (by kernel_rfl) (by kernel_rfl) (fun _ _ _ h => h) (Or.inl ⟨by rfl, ?_⟩) (by assumption) ?_
  · intro wq hS
    go_simp
  simp only [Act.put, List.setIfInBounds_toArray, List.set_cons_zero, List.set_cons_succ]
  refine takeD 23 29 (.bool true) (by exact rfl) rfl (by kernel_rfl) (by kernel_rfl) (by kernel_rfl) (fun _ _ _ h => h) (Or.inl ⟨by rfl, ?_⟩) (by assumption) ?_
  · intro wq hS
    go_simp
  simp only [Act.put, List.setIfInBounds_toArray, List.set_cons_zero, List.set_cons_succ]
  refine takeD 24 30 (.pointer (some ⟨bq, 8, none⟩)) (by exact rfl) rfl (by kernel_rfl) (by kernel_rfl) (by kernel_rfl) (fun _ _ _ h => h) (Or.inl ⟨by rfl, ?_⟩) (by assumption) ?_
  · intro wq hS
    go_simp
  simp only [Act.put, List.setIfInBounds_toArray, List.set_cons_zero, List.set_cons_succ]
  refine takeD 25 31 (.slice (some ⟨g, 0, none⟩) n cap) (by exact rfl) rfl (by kernel_rfl) (by kernel_rfl) (by kernel_rfl) (fun _ _ _ h => h) (Or.inl ⟨by rfl, ?_⟩) (by assumption) ?_
  · intro wq hS
    have c := (VQ.out.step hS).cell 8 (v := .slice (some ⟨g, 0, none⟩) n cap) rfl
    go_simp
  simp only [Act.put, List.setIfInBounds_toArray, List.set_cons_zero, List.set_cons_succ]
  refine takeD 26 32 (.pointer (some ⟨w.heap.size, 8, none⟩)) (by exact rfl) rfl (by kernel_rfl) (by kernel_rfl) (by kernel_rfl) (fun _ _ _ h => h) (Or.inl ⟨by rfl, ?_⟩) (by assumption) ?_
  · intro wq hS
    go_simp
  simp only [Act.put, List.setIfInBounds_toArray, List.set_cons_zero, List.set_cons_succ]
  refine takeD 27 33 (.slice ta n tc) (by exact rfl) rfl (by kernel_rfl) (by kernel_rfl) (by kernel_rfl) (fun _ _ _ h => h) (Or.inl ⟨by rfl, ?_⟩) (by assumption) ?_
  · intro wq hS
    have c := (VP.out.step hS).cell 8 (v := .slice ta n tc) rfl
    go_simp
  simp only [Act.put, List.setIfInBounds_toArray, List.set_cons_zero, List.set_cons_succ]
  refine takeD 28 34 (.int .i64 (n : Int)) (by exact rfl) rfl (by kernel_rfl) (by kernel_rfl) (by kernel_rfl) (fun _ _ _ h => h) (Or.inl ⟨by rfl, ?_⟩) (by assumption) ?_
  · intro wq hS
    go_simp
  simp only [Act.put, List.setIfInBounds_toArray, List.set_cons_zero, List.set_cons_succ]
  refine takeD 29 35 (.int .i64 ((n : Int) + 1)) (by exact rfl) rfl (by kernel_rfl) (by kernel_rfl) (by kernel_rfl) (fun _ _ _ h => h) (Or.inl ⟨by rfl, ?_⟩) (by assumption) ?_
  · intro wq hS
    go_simp
  simp only [Act.put, List.setIfInBounds_toArray, List.set_cons_zero, List.set_cons_succ]
  refine takeD 30 36 (.slice (some ⟨g, 0, none⟩) (n + 1) cap) (by exact rfl) rfl (by kernel_rfl) (by kernel_rfl) (by kernel_rfl) (fun _ _ _ h => h) (Or.inl ⟨by rfl, ?_⟩) (by assumption) ?_
  · intro wq hS
    go_simp
  simp only [Act.put, List.setIfInBounds_toArray, List.set_cons_zero, List.set_cons_succ]
  refine takeD 31 37 (.pointer (some ⟨w.heap.size, 8, none⟩)) (by exact rfl) rfl (by kernel_rfl) (by kernel_rfl) (by kernel_rfl) (fun _ _ _ h => h) (Or.inl ⟨by rfl, ?_⟩) (by assumption) ?_
  · intro wq hS
    go_simp
  simp only [Act.put, List.setIfInBounds_toArray, List.set_cons_zero, List.set_cons_succ]
  refine takeD 32 38 (.slice ta n tc) (by exact rfl) rfl (by kernel_rfl) (by kernel_rfl) (by kernel_rfl) (fun _ _ _ h => h) (Or.inl ⟨by rfl, ?_⟩) (by assumption) ?_
  · intro wq hS
    have c := (VP.out.step hS).cell 8 (v := .slice ta n tc) rfl
    go_simp
  simp only [Act.put, List.setIfInBounds_toArray, List.set_cons_zero, List.set_cons_succ]
  refine takeD 33 39 (.int .i64 (n : Int)) (by exact rfl) rfl (by kernel_rfl) (by kernel_rfl) (by kernel_rfl) (fun _ _ _ h => h) (Or.inl ⟨by rfl, ?_⟩) (by assumption) ?_
  · intro wq hS
    go_simp
  simp only [Act.put, List.setIfInBounds_toArray, List.set_cons_zero, List.set_cons_succ]
  refine takeD 34 40 (.pointer (some ⟨g, n * 2, none⟩)) (by exact rfl) rfl (by kernel_rfl) (by kernel_rfl) (by kernel_rfl) (fun _ _ _ h => h) (Or.inl ⟨by rfl, ?_⟩) (by assumption) ?_
  · intro wq hS
    go_simp
  simp only [Act.put, List.setIfInBounds_toArray, List.set_cons_zero, List.set_cons_succ]
  refine takeD 35 41 (.pointer (some ⟨g, n * 2, none⟩)) (by exact rfl) rfl (by kernel_rfl) (by kernel_rfl) (by kernel_rfl) (fun _ _ _ h => h) (Or.inl ⟨by rfl, ?_⟩) (by assumption) ?_
  · intro wq hS
    go_simp
  simp only [Act.put, List.setIfInBounds_toArray, List.set_cons_zero, List.set_cons_succ]
  refine takeD 36 42 (.int .i64 77) (by exact rfl) rfl (by kernel_rfl) (by kernel_rfl) (by kernel_rfl) (fun _ _ _ h => h) (Or.inl ⟨by rfl, ?_⟩) (by assumption) ?_
  · intro wq hS
    have c := HC77.out wq hS
    go_simp
  simp only [Act.put, List.setIfInBounds_toArray, List.set_cons_zero, List.set_cons_succ]
  refine takeD 37 43 (.bool true) (by exact rfl) rfl (by kernel_rfl) (by kernel_rfl) (by kernel_rfl) (fun _ _ _ h => h) (Or.inl ⟨by rfl, ?_⟩) (by assumption) ?_
  · intro wq hS
    go_simp
  simp only [Act.put, List.setIfInBounds_toArray, List.set_cons_zero, List.set_cons_succ]
  refine takeD 38 44 (.bool true) (by exact rfl) rfl (by kernel_rfl) (by kernel_rfl) (by kernel_rfl) (fun _ _ _ h => h) (Or.inl ⟨by rfl, ?_⟩) (by assumption) ?_
  · intro wq hS
    go_simp
  simp only [Act.put, List.setIfInBounds_toArray, List.set_cons_zero, List.set_cons_succ]
  refine wpAnyH_ready (rs := [39]) (by kernel_rfl) (by simp) ?_
  refine AllReadyH.cons (by exact rfl) (fun K hK => ?_) AllReadyH.nil
  go_simp
  refine hK.out _ _ S21 (fun hHeld => ?_)
  clear hK K
  refine wpAnyH_done (by kernel_rfl) ?_ _
  refine NoPanic.normal ?_
  go_wp2_with fail
  go_ret
  exact ⟨rfl, DW.out.trans (S21.mono DW.out.size)⟩
end Go.Proofs.Ytgbphbeafomabaa
