/- log XXXIV: bytes that are no record; readFirst of them. -/
import Derived.Test.YtkmdegmpffgplaaGreatDoorMaa
import Derived.Test.YtkmdegmpffgplaaGreatDoorLbc
namespace Go.Proofs.YtkmdegmpffgplaaGreatDoor
open Go.RowKit Go.Maps Go.Sort Go.Shelf pk
set_option linter.unusedVariables false
set_option linter.unusedSimpArgs false
/-- no record begins here -/
def Bad (num : Nat) (T : List Nat) : Prop := T = [] ∨ ∃ q, T.length = 32 * q ∧ 0 < q ∧ (T.length < 32 * T.getD 7 0 ∨ (joinK (T.take (32 * T.getD 7 0)) (T.getD 7 0) = [] ∨ cutB 177 (hd6 num) (joinK (T.take (32 * T.getD 7 0)) (T.getD 7 0)) ≠ T.take (32 * T.getD 7 0)))
theorem cutK_mark (mk : Nat) (hd : Nat → List Nat) (bs : List Nat) : ∀ K k, k < K → (cutK mk hd bs K).getD (32 * k) 0 = mk
  | 0, k, h => by omega
  | K + 1, k, h => by
    rw [cutK_succ]
    rcases Nat.lt_or_ge k K with h1 | h1
    · have := cutK_mark mk hd bs K k h1
      rw [List.getD_eq_getElem?_getD, List.getElem?_append_left (by rw [cutK_len]; omega), ← List.getD_eq_getElem?_getD]
      exact this
    · obtain rfl : k = K := by omega
      rw [List.getD_eq_getElem?_getD, List.getElem?_append_right (by rw [cutK_len]; omega), cutK_len, Nat.sub_self]
      unfold secB pad32
      rfl
theorem mark_no (num C k : Nat) (S : List Nat) (hS : S.length = 32 * C) (hk : k < C) (hm : S.getD (32 * k) 0 ≠ 177) : cutB 177 (hd6 num) (joinK S C) ≠ S := fun e => by
  have h1 := congrArg List.length e
  unfold cutB at h1
  rw [cutK_len, hS] at h1
  have h2 := cutK_mark 177 (fun i => hd6 num i (cn4 (joinK S C).length)) (joinK S C) (cn4 (joinK S C).length) k (by omega)
  have h3 : (cutB 177 (hd6 num) (joinK S C)).getD (32 * k) 0 = 177 := h2
  rw [e] at h3
  exact hm h3
/-- where a sector within the record that the first one tells does not begin with the mark -/
theorem bad_of (num q k : Nat) (T : List Nat) (hT : T.length = 32 * q) (hq : 0 < q) (hk : k < T.getD 7 0) (hm : T.getD (32 * k) 0 ≠ 177) : Bad num T := by
  refine Or.inr ⟨q, hT, hq, ?_⟩
  rcases Nat.lt_or_ge T.length (32 * T.getD 7 0) with h | h
  · exact Or.inl h
  · refine Or.inr (Or.inr (mark_no num _ k _ (by rw [List.length_take]; omega) hk ?_))
    rw [List.getD_eq_getElem?_getD, List.getElem?_take_of_lt (by omega), ← List.getD_eq_getElem?_getD]
    exact hm
/-- where the first byte isn't the mark -/
theorem bad_first (num q : Nat) (T : List Nat) (hT : T.length = 32 * q) (hm : T.getD 0 0 ≠ 177) : Bad num T := by
  rcases Nat.eq_zero_or_pos q with h | h
  · exact Or.inl (List.eq_nil_of_length_eq_zero (by omega))
  rcases Nat.eq_zero_or_pos (T.getD 7 0) with h2 | h2
  · refine Or.inr ⟨q, hT, h, Or.inr (Or.inl ?_)⟩
    rw [h2]
    rfl
  · exact bad_of num q 0 T hT h h2 hm
set_option maxRecDepth 100000 in
set_option maxHeartbeats 2000000 in
theorem readFirst_bad (num : Nat) (hnum : num < 4294967296) (a : Option Addr) (n c : Nat) (T : List Nat) (w : World) (h : Bs w (.slice a n c) T) (hbad : Bad num T) :
    Calls Tryz.prog 95 #[.int .i64 (num : Int), .slice a n c] w fun e w' => e = .returned (.tuple #[.agg (rcd none 0 0 (List.replicate 32 0)).toArray, .slice none 0 0, .bool false]) ∧ Below w.heap.size w w' := by
  rcases hbad with rfl | ⟨q, hT, hq, hcase⟩
  · obtain rfl : n = 0 := h.len.1
    exact readFirst_none num a c w
  obtain ⟨C, hC⟩ : ∃ C, C = T.getD 7 0 := ⟨_, rfl⟩
  rw [← hC] at hcase
  have hC256 : C < 256 := by
    rw [hC, List.getD_eq_getElem?_getD, List.getElem?_eq_getElem (show 7 < T.length by omega)]
    exact h.byte _ (List.getElem_mem _)
  have hln := h.len
  obtain ⟨b, off, rfl, hb, hx⟩ : ∃ b off, a = some ⟨b, off, none⟩ ∧ b < w.heap.size ∧ ∀ k, k < T.length → w.cell? ⟨b, off + k, none⟩ = some (.int .u8 (bt T k)) := by
    obtain ⟨_, a', c', e, _, _, _, h4⟩ := h
    cases e
    exact h4 (by omega)
  have y70 : w.cell? ⟨b, off + 7, none⟩ = some (.int .u8 (C : Int)) := by
    rw [hx 7 (by omega), hC]
    rfl
  obtain ⟨SZ, hSZ⟩ : ∃ SZ, SZ = 32 * C := ⟨_, rfl⟩
  have HB : Hid (Bs w (.slice (some ⟨b, off, none⟩) n c) T) := h
  have D := (Below.refl w.heap.size w).alloc (Nat.le_refl _) (.cells #[.slice none 0 0, .int .u8 0, .int .u8 0, .int .u8 0, .int .u8 0, .int .u8 0, .int .u8 0, .int .u8 0, .int .u8 0, .int .u8 0, .int .u8 0, .int .u8 0, .int .u8 0, .int .u8 0, .int .u8 0, .int .u8 0, .int .u8 0, .int .u8 0, .int .u8 0, .int .u8 0, .int .u8 0, .int .u8 0, .int .u8 0, .int .u8 0, .int .u8 0, .int .u8 0, .int .u8 0, .int .u8 0, .int .u8 0, .int .u8 0, .int .u8 0, .int .u8 0, .int .u8 0] 77)
  have HD := (show Hid _ from D)
  have HV := (show Hid _ from va_new w [.slice none 0 0, .int .u8 0, .int .u8 0, .int .u8 0, .int .u8 0, .int .u8 0, .int .u8 0, .int .u8 0, .int .u8 0, .int .u8 0, .int .u8 0, .int .u8 0, .int .u8 0, .int .u8 0, .int .u8 0, .int .u8 0, .int .u8 0, .int .u8 0, .int .u8 0, .int .u8 0, .int .u8 0, .int .u8 0, .int .u8 0, .int .u8 0, .int .u8 0, .int .u8 0, .int .u8 0, .int .u8 0, .int .u8 0, .int .u8 0, .int .u8 0, .int .u8 0, .int .u8 0] 77)
  have y7 := (D.cell (p := ⟨b, off + 7, none⟩) hb).trans y70
  have dS : (C : Int) * 32 = (SZ : Int) := by omega
  have s4 : (7 : Int) < (n : Int) := by omega
  have s5 : ((n : Int) == 0) = false := by simp; omega
  have s6 : ¬ (n : Int) = 0 := by omega
  have s7 : n ≤ c ∧ c ≤ 9223372036854775807 := ⟨hln.2.1, hln.2.2⟩
  have HQ : Hid (T.length = 32 * q ∧ n = T.length ∧ SZ = 32 * C) := ⟨hT, hln.1, hSZ⟩
  clear h hx y70 hb D hC hT hSZ hln
  by_cases hgt : n < SZ
  · have s8 : (n : Int) < (SZ : Int) := by omega
    clear hgt hcase
    go_enter Tryz.func95, Tryz.ntmps95
    go_upto_region 5 with fail
    generalize w.alloc (.cells #[.slice none 0 0, .int .u8 0, .int .u8 0, .int .u8 0, .int .u8 0, .int .u8 0, .int .u8 0, .int .u8 0, .int .u8 0, .int .u8 0, .int .u8 0, .int .u8 0, .int .u8 0, .int .u8 0, .int .u8 0, .int .u8 0, .int .u8 0, .int .u8 0, .int .u8 0, .int .u8 0, .int .u8 0, .int .u8 0, .int .u8 0, .int .u8 0, .int .u8 0, .int .u8 0, .int .u8 0, .int .u8 0, .int .u8 0, .int .u8 0, .int .u8 0, .int .u8 0, .int .u8 0] 77) = w0 at *
    go_wp2_with (refine stA rfl 77 _ _ rfl w.heap.size (by rfl) _ [.slice none 0 0, .int .u8 0, .int .u8 0, .int .u8 0, .int .u8 0, .int .u8 0, .int .u8 0, .int .u8 0, .int .u8 0, .int .u8 0, .int .u8 0, .int .u8 0, .int .u8 0, .int .u8 0, .int .u8 0, .int .u8 0, .int .u8 0, .int .u8 0, .int .u8 0, .int .u8 0, .int .u8 0, .int .u8 0, .int .u8 0, .int .u8 0, .int .u8 0, .int .u8 0, .int .u8 0, .int .u8 0, .int .u8 0, .int .u8 0, .int .u8 0, .int .u8 0, .int .u8 0] (by rfl) _ HV.out info33 (by rfl) (fun u hu => by simp at hu; rcases hu with rfl | rfl <;> rfl) ?_; intro w9 R9 U9)
    have hld := run_loadVar_row (P := Tryz.prog) w9 w.heap.size 77 77 _ (0, 0) _ R9.blk Tryz.underlying77 rfl info33
    refine bodyPost_ret (v := .tuple #[.agg #[.slice none 0 0, .int .u8 0, .int .u8 0, .int .u8 0, .int .u8 0, .int .u8 0, .int .u8 0, .int .u8 0, .int .u8 0, .int .u8 0, .int .u8 0, .int .u8 0, .int .u8 0, .int .u8 0, .int .u8 0, .int .u8 0, .int .u8 0, .int .u8 0, .int .u8 0, .int .u8 0, .int .u8 0, .int .u8 0, .int .u8 0, .int .u8 0, .int .u8 0, .int .u8 0, .int .u8 0, .int .u8 0, .int .u8 0, .int .u8 0, .int .u8 0, .int .u8 0, .int .u8 0], .slice none 0 0, .bool false]) (by simp [results, Tryz.results95, asAddr, hld]) rfl ?_
    exact ⟨rfl, U9.bel HD.out (Nat.le_refl _)⟩
  · have s8 : ¬ (n : Int) < (SZ : Int) := by omega
    have s1 : (SZ : Int) ≤ (n : Int) := by omega
    have s2 : (SZ : Int) ≤ (c : Int) := by omega
    have HJN : Hid (joinK (T.take SZ) C = [] ∨ cutB 177 (hd6 num) (joinK (T.take SZ) C) ≠ T.take SZ) := (show _ ∨ _ from by
      have h1 := HQ.out
      rcases hcase with h2 | h2
      · omega
      · rw [h1.2.2]; exact h2)
    clear hgt hcase
    go_enter Tryz.func95, Tryz.ntmps95
    go_upto_region 6 with fail
    generalize w.alloc (.cells #[.slice none 0 0, .int .u8 0, .int .u8 0, .int .u8 0, .int .u8 0, .int .u8 0, .int .u8 0, .int .u8 0, .int .u8 0, .int .u8 0, .int .u8 0, .int .u8 0, .int .u8 0, .int .u8 0, .int .u8 0, .int .u8 0, .int .u8 0, .int .u8 0, .int .u8 0, .int .u8 0, .int .u8 0, .int .u8 0, .int .u8 0, .int .u8 0, .int .u8 0, .int .u8 0, .int .u8 0, .int .u8 0, .int .u8 0, .int .u8 0, .int .u8 0, .int .u8 0, .int .u8 0] 77) = w0 at *
    refine wp_region_noPanic ?_
    refine wp_region_held_drew (S := fun V => True) (by kernel_rfl) trivial ?_
    intro hHeld
    have HD1 : Hid (Below w.heap.size w w0.drew) := HD.out.drew
    have HV1 : Hid (VA w0.drew w.heap.size [.slice none 0 0, .int .u8 0, .int .u8 0, .int .u8 0, .int .u8 0, .int .u8 0, .int .u8 0, .int .u8 0, .int .u8 0, .int .u8 0, .int .u8 0, .int .u8 0, .int .u8 0, .int .u8 0, .int .u8 0, .int .u8 0, .int .u8 0, .int .u8 0, .int .u8 0, .int .u8 0, .int .u8 0, .int .u8 0, .int .u8 0, .int .u8 0, .int .u8 0, .int .u8 0, .int .u8 0, .int .u8 0, .int .u8 0, .int .u8 0, .int .u8 0, .int .u8 0, .int .u8 0] 77) := VA.drew HV.out
    clear HD HV y7
    generalize w0.drew = w1 at *
    refine takeD 0 28 (.slice (some ⟨b, off, none⟩) n c) (by exact rfl) rfl (by kernel_rfl) (by kernel_rfl) (by kernel_rfl) (fun _ _ _ h => h) (Or.inl ⟨by rfl, ?_⟩) (by assumption) ?_
    · intro wq hS
      go_simp
    try simp only [Act.put, List.setIfInBounds_toArray, List.set_cons_zero, List.set_cons_succ]
    refine takeD 1 29 (.int .i64 (SZ : Int)) (by exact rfl) rfl (by kernel_rfl) (by kernel_rfl) (by kernel_rfl) (fun _ _ _ h => h) (Or.inl ⟨by rfl, ?_⟩) (by assumption) ?_
    · intro wq hS
      go_simp
    try simp only [Act.put, List.setIfInBounds_toArray, List.set_cons_zero, List.set_cons_succ]
    refine takeD 2 30 (.slice (some ⟨b, off, none⟩) SZ c) (by exact rfl) rfl (by kernel_rfl) (by kernel_rfl) (by kernel_rfl) (fun _ _ _ h => h) (Or.inl ⟨by rfl, ?_⟩) (by assumption) ?_
    · intro wq hS
      go_simp
    try simp only [Act.put, List.setIfInBounds_toArray, List.set_cons_zero, List.set_cons_succ]
    refine takeD 3 31 (.int .i64 (num : Int)) (by exact rfl) rfl (by kernel_rfl) (by kernel_rfl) (by kernel_rfl) (fun _ _ _ h => h) (Or.inl ⟨by rfl, ?_⟩) (by assumption) ?_
    · intro wq hS
      go_simp
    try simp only [Act.put, List.setIfInBounds_toArray, List.set_cons_zero, List.set_cons_succ]
    refine wpAnyH_ready (rs := [4]) (by kernel_rfl) (by simp) ?_
    refine AllReadyH.cons (by exact rfl) (fun K hK => ?_) AllReadyH.nil
    go_simp
    refine (headmk_ok num hnum w1).mono ?_
    rintro e w2 ⟨rfl, vn, b2⟩
    have HD2 : Hid (Below w.heap.size w w2) := HD1.out.trans (b2.mono HD1.out.size)
    have HV2 := (show Hid _ from HV1.out.step b2)
    have HN2 := (show Hid _ from vn)
    go_wp2_with fail
    refine hK.out _ _ trivial (fun hHeld => ?_)
    clear hK K vn b2 HD1 HV1
    try simp only [Act.put, List.setIfInBounds_toArray, List.set_cons_zero, List.set_cons_succ]
    generalize w1.heap.size = Bn at *
    refine wpAnyH_ready (rs := [5]) (by kernel_rfl) (by simp) ?_
    refine AllReadyH.cons (by exact rfl) (fun K hK => ?_) AllReadyH.nil
    go_simp
    refine (join_no w2 num Bn hnum HN2.out 177 (by omega) _ SZ c C (T.take SZ) ((HB.out.step HD2.out).cut SZ (by have := HQ.out; omega)) (by rw [List.length_take]; have := HQ.out; omega) (by omega) HJN.out).mono ?_
    rintro e w3 ⟨rfl, b3⟩
    have HD3 : Hid (Below w.heap.size w w3) := HD2.out.trans (b3.mono HD2.out.size)
    have HV3 := (show Hid _ from HV2.out.step b3)
    go_wp2_with fail
    refine hK.out _ _ trivial (fun hHeld => ?_)
    clear hK K b3 HD2 HV2 HN2
    try simp only [Act.put, List.setIfInBounds_toArray, List.set_cons_zero, List.set_cons_succ]
    refine takeD 6 27 (.tuple #[.slice none 0 0, .bool false]) (by exact rfl) rfl (by kernel_rfl) (by kernel_rfl) (by kernel_rfl) (fun _ _ _ h => h) (Or.inl ⟨by rfl, ?_⟩) (by assumption) ?_
    · intro wq hS
      go_simp
    try simp only [Act.put, List.setIfInBounds_toArray, List.set_cons_zero, List.set_cons_succ]
    refine takeD 7 34 (.slice none 0 0) (by exact rfl) rfl (by kernel_rfl) (by kernel_rfl) (by kernel_rfl) (fun _ _ _ h => h) (Or.inl ⟨by rfl, ?_⟩) (by assumption) ?_
    · intro wq hS
      go_simp
    try simp only [Act.put, List.setIfInBounds_toArray, List.set_cons_zero, List.set_cons_succ]
    refine takeD 8 35 (.bool false) (by exact rfl) rfl (by kernel_rfl) (by kernel_rfl) (by kernel_rfl) (fun _ _ _ h => h) (Or.inl ⟨by rfl, ?_⟩) (by assumption) ?_
    · intro wq hS
      go_simp
    try simp only [Act.put, List.setIfInBounds_toArray, List.set_cons_zero, List.set_cons_succ]
    refine takeD 9 8 (.slice none 0 0) (by exact rfl) rfl (by kernel_rfl) (by kernel_rfl) (by kernel_rfl) (fun _ _ _ h => h) (Or.inl ⟨by rfl, ?_⟩) (by assumption) ?_
    · intro wq hS
      go_simp
    try simp only [Act.put, List.setIfInBounds_toArray, List.set_cons_zero, List.set_cons_succ]
    refine takeD 10 9 (.bool false) (by exact rfl) rfl (by kernel_rfl) (by kernel_rfl) (by kernel_rfl) (fun _ _ _ h => h) (Or.inl ⟨by rfl, ?_⟩) (by assumption) ?_
    · intro wq hS
      go_simp
    try simp only [Act.put, List.setIfInBounds_toArray, List.set_cons_zero, List.set_cons_succ]
    refine wpAnyH_done (by kernel_rfl) ?_ _
    refine NoPanic.normal ?_
    clear hHeld
    go_wp2_with (refine stA rfl 77 _ _ rfl w.heap.size (by rfl) _ [.slice none 0 0, .int .u8 0, .int .u8 0, .int .u8 0, .int .u8 0, .int .u8 0, .int .u8 0, .int .u8 0, .int .u8 0, .int .u8 0, .int .u8 0, .int .u8 0, .int .u8 0, .int .u8 0, .int .u8 0, .int .u8 0, .int .u8 0, .int .u8 0, .int .u8 0, .int .u8 0, .int .u8 0, .int .u8 0, .int .u8 0, .int .u8 0, .int .u8 0, .int .u8 0, .int .u8 0, .int .u8 0, .int .u8 0, .int .u8 0, .int .u8 0, .int .u8 0, .int .u8 0] (by rfl) _ HV3.out info33 (by rfl) (fun u hu => by simp at hu; rcases hu with rfl | rfl <;> rfl) ?_; intro w9 R9 U9)
    have hld := run_loadVar_row (P := Tryz.prog) w9 w.heap.size 77 77 _ (0, 0) _ R9.blk Tryz.underlying77 rfl info33
    refine bodyPost_ret (v := .tuple #[.agg #[.slice none 0 0, .int .u8 0, .int .u8 0, .int .u8 0, .int .u8 0, .int .u8 0, .int .u8 0, .int .u8 0, .int .u8 0, .int .u8 0, .int .u8 0, .int .u8 0, .int .u8 0, .int .u8 0, .int .u8 0, .int .u8 0, .int .u8 0, .int .u8 0, .int .u8 0, .int .u8 0, .int .u8 0, .int .u8 0, .int .u8 0, .int .u8 0, .int .u8 0, .int .u8 0, .int .u8 0, .int .u8 0, .int .u8 0, .int .u8 0, .int .u8 0, .int .u8 0, .int .u8 0], .slice none 0 0, .bool false]) (by simp [results, Tryz.results95, asAddr, hld]) rfl ?_
    exact ⟨rfl, U9.bel HD3.out (Nat.le_refl _)⟩
end Go.Proofs.YtkmdegmpffgplaaGreatDoor
