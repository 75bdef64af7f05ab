/- log XXXIV: bytes that are no record; readFirst of them. -/
import Derived.Test.YtkmdegmpffgplaaGreatDoorLas
import Derived.Test.YtkmdegmpffgplaaGreatDoorLbd
namespace Go.Proofs.YtkmdegmpffgplaaGreatDoor
open Go.RowKit Go.Maps Go.Sort Go.Shelf pk
set_option linter.unusedVariables false
set_option linter.unusedSimpArgs false
/-- no record begins here -/
def Bad (num : Nat) (T : List Nat) : Prop := T = [] ∨ ∃ q, T.length = 32 * q ∧ 0 < q ∧ (T.length < 32 * T.getD 7 0 ∨ (joinK (T.take (32 * T.getD 7 0)) (T.getD 7 0) = [] ∨ cutB 177 (hd6 num) (joinK (T.take (32 * T.getD 7 0)) (T.getD 7 0)) ≠ T.take (32 * T.getD 7 0)))
theorem cutK_mark (mk : Nat) (hd : Nat → List Nat) (bs : List Nat) : ∀ K k, k < K → (cutK mk hd bs K).getD (32 * k) 0 = mk
  | 0, k, h => by omega
  | K + 1, k, h => by
    rw [cutK_succ]
    rcases Nat.lt_or_ge k K with h1 | h1
    · have := cutK_mark mk hd bs K k h1
      rw [List.getD_eq_getElem?_getD, List.getElem?_append_left (by rw [cutK_len]; omega), ← List.getD_eq_getElem?_getD]
      exact this
    · obtain rfl : k = K := by omega
      rw [List.getD_eq_getElem?_getD, List.getElem?_append_right (by rw [cutK_len]; omega), cutK_len, Nat.sub_self]
      unfold secB pad32
      rfl
theorem mark_no (num C k : Nat) (S : List Nat) (hS : S.length = 32 * C) (hk : k < C) (hm : S.getD (32 * k) 0 ≠ 177) : cutB 177 (hd6 num) (joinK S C) ≠ S := fun e => by
  have h1 := congrArg List.length e
  unfold cutB at h1
  rw [cutK_len, hS] at h1
  have h2 := cutK_mark 177 (fun i => hd6 num i (cn4 (joinK S C).length)) (joinK S C) (cn4 (joinK S C).length) k (by omega)
  have h3 : (cutB 177 (hd6 num) (joinK S C)).getD (32 * k) 0 = 177 := h2
  rw [e] at h3
  exact hm h3
/-- where a sector within the record that the first one tells does not begin with the mark -/
theorem bad_of (num q k : Nat) (T : List Nat) (hT : T.length = 32 * q) (hq : 0 < q) (hk : k < T.getD 7 0) (hm : T.getD (32 * k) 0 ≠ 177) : Bad num T := by
  refine Or.inr ⟨q, hT, hq, ?_⟩
  rcases Nat.lt_or_ge T.length (32 * T.getD 7 0) with h | h
  · exact Or.inl h
  · refine Or.inr (Or.inr (mark_no num _ k _ (by rw [List.length_take]; omega) hk ?_))
    rw [List.getD_eq_getElem?_getD, List.getElem?_take_of_lt (by omega), ← List.getD_eq_getElem?_getD]
    exact hm
/-- where the first byte isn't the mark -/
theorem bad_first (num q : Nat) (T : List Nat) (hT : T.length = 32 * q) (hm : T.getD 0 0 ≠ 177) : Bad num T := by
  rcases Nat.eq_zero_or_pos q with h | h
  · exact Or.inl (List.eq_nil_of_length_eq_zero (by omega))
  rcases Nat.eq_zero_or_pos (T.getD 7 0) with h2 | h2
  · refine Or.inr ⟨q, hT, h, Or.inr (Or.inl ?_)⟩
    rw [h2]
    rfl
  · exact bad_of num q 0 T hT h h2 hm
set_option maxRecDepth 100000 in
set_option maxHeartbeats 2000000 in
theorem readFirst_bad (num : Nat) (hnum : num < 4294967296) (a : Option Addr) (n c : Nat) (T : List Nat) (w : World) (h : Bs w (.slice a n c) T) (hbad : Bad num T) :
    Calls Tryz.prog 95 #[.int .i64 (num : Int), .slice a n c] w fun e w' => e = .returned (.tuple #[.agg (rcd none 0 0 (List.replicate 32 0)).toArray, .slice none 0 0, .bool false]) ∧ Below w.heap.size w w' := by
  rcases hbad with rfl | ⟨q, hT, hq, hcase⟩
  · obtain rfl : n = 0 := h.len.1
    exact readFirst_none num a c w
  obtain ⟨C, hC⟩ : ∃ C, C = T.getD 7 0 := ⟨_, rfl⟩
  rw [← hC] at hcase
  have hC256 : C < 256 := by
    rw [hC, List.getD_eq_getElem?_getD, List.getElem?_eq_getElem (show 7 < T.length by omega)]
    exact h.byte _ (List.getElem_mem _)
  have hln := h.len
  obtain ⟨b, off, rfl, hb, hx⟩ : ∃ b off, a = some ⟨b, off, none⟩ ∧ b < w.heap.size ∧ ∀ k, k < T.length → w.cell? ⟨b, off + k, none⟩ = some (.int .u8 (bt T k)) := by
    obtain ⟨_, a', c', e, _, _, _, h4⟩ := h
    cases e
    exact h4 (by omega)
  have y70 : w.cell? ⟨b, off + 7, none⟩ = some (.int .u8 (C : Int)) := by
    rw [hx 7 (by omega), hC]
    rfl
  obtain ⟨SZ, hSZ⟩ : ∃ SZ, SZ = 32 * C := ⟨_, rfl⟩
  have HB : Hid (Bs w (.slice (some ⟨b, off, none⟩) n c) T) := h
  have D := (Below.refl w.heap.size w).alloc (Nat.le_refl _) (.cells #[.slice none 0 0, .int .u8 0, .int .u8 0, .int .u8 0, .int .u8 0, .int .u8 0, .int .u8 0, .int .u8 0, .int .u8 0, .int .u8 0, .int .u8 0, .int .u8 0, .int .u8 0, .int .u8 0, .int .u8 0, .int .u8 0, .int .u8 0, .int .u8 0, .int .u8 0, .int .u8 0, .int .u8 0, .int .u8 0, .int .u8 0, .int .u8 0, .int .u8 0, .int .u8 0, .int .u8 0, .int .u8 0, .int .u8 0, .int .u8 0, .int .u8 0, .int .u8 0, .int .u8 0] 77)
  have HD := (show Hid _ from D)
  have HV := (show Hid _ from va_new w [.slice none 0 0, .int .u8 0, .int .u8 0, .int .u8 0, .int .u8 0, .int .u8 0, .int .u8 0, .int .u8 0, .int .u8 0, .int .u8 0, .int .u8 0, .int .u8 0, .int .u8 0, .int .u8 0, .int .u8 0, .int .u8 0, .int .u8 0, .int .u8 0, .int .u8 0, .int .u8 0, .int .u8 0, .int .u8 0, .int .u8 0, .int .u8 0, .int .u8 0, .int .u8 0, .int .u8 0, .int .u8 0, .int .u8 0, .int .u8 0, .int .u8 0, .int .u8 0, .int .u8 0] 77)
  have y7 := (D.cell (p := ⟨b, off + 7, none⟩) hb).trans y70
  have dS : (C : Int) * 32 = (SZ : Int) := by omega
  have s4 : (7 : Int) < (n : Int) := by omega
  have s5 : ((n : Int) == 0) = false := by simp; omega
  have s6 : ¬ (n : Int) = 0 := by omega
  have s7 : n ≤ c ∧ c ≤ 9223372036854775807 := ⟨hln.2.1, hln.2.2⟩
  have HQ : Hid (T.length = 32 * q ∧ n = T.length ∧ SZ = 32 * C) := ⟨hT, hln.1, hSZ⟩
  clear h hx y70 hb D hC hT hSZ hln
  by_cases hgt : n < SZ
  · have s8 : (n : Int) < (SZ : Int) := by omega
    clear hgt hcase
    go_enter Tryz.func95, Tryz.ntmps95
    go_upto_region 5 with fail
    generalize w.alloc (.cells #[.slice none 0 0, .int .u8 0, .int .u8 0, .int .u8 0, .int .u8 0, .int .u8 0, .int .u8 0, .int .u8 0, .int .u8 0, .int .u8 0, .int .u8 0, .int .u8 0, .int .u8 0, .int .u8 0, .int .u8 0, .int .u8 0, .int .u8 0, .int .u8 0, .int .u8 0, .int .u8 0, .int .u8 0, .int .u8 0, .int .u8 0, .int .u8 0, .int .u8 0, .int .u8 0, .int .u8 0, .int .u8 0, .int .u8 0, .int .u8 0, .int .u8 0, .int .u8 0, .int .u8 0] 77) = w0 at *
    go_wp2_with (refine stA rfl 77 _ _ rfl w.heap.size (by rfl) _ [.slice none 0 0, .int .u8 0, .int .u8 0, .int .u8 0, .int .u8 0, .int .u8 0, .int .u8 0, .int .u8 0, .int .u8 0, .int .u8 0, .int .u8 0, .int .u8 0, .int .u8 0, .int .u8 0, .int .u8 0, .int .u8 0, .int .u8 0, .int .u8 0, .int .u8 0, .int .u8 0, .int .u8 0, .int .u8 0, .int .u8 0, .int .u8 0, .int .u8 0, .int .u8 0, .int .u8 0, .int .u8 0, .int .u8 0, .int .u8 0, .int .u8 0, .int .u8 0, .int .u8 0] (by rfl) _ HV.out info33 (by rfl) (fun u hu => by simp at hu; rcases hu with rfl | rfl <;> rfl) ?_; intro w9 R9 U9)
    have hld := run_loadVar_row (P := Tryz.prog) w9 w.heap.size 77 77 _ (0, 0) _ R9.blk Tryz.underlying77 rfl info33
    refine bodyPost_ret (v := .tuple #[.agg #[.slice none 0 0, .int .u8 0, .int .u8 0, .int .u8 0, .int .u8 0, .int .u8 0, .int .u8 0, .int .u8 0, .int .u8 0, .int .u8 0, .int .u8 0, .int .u8 0, .int .u8 0, .int .u8 0, .int .u8 0, .int .u8 0, .int .u8 0, .int .u8 0, .int .u8 0, .int .u8 0, .int .u8 0, .int .u8 0, .int .u8 0, .int .u8 0, .int .u8 0, .int .u8 0, .int .u8 0, .int .u8 0, .int .u8 0, .int .u8 0, .int .u8 0, .int .u8 0, .int .u8 0], .slice none 0 0, .bool false]) (by simp [results, Tryz.results95, asAddr, hld]) rfl ?_
    exact ⟨rfl, U9.bel HD.out (Nat.le_refl _)⟩
  · have s8 : ¬ (n : Int) < (SZ : Int) := by omega
    have s1 : (SZ : Int) ≤ (n : Int) := by omega
    have s2 : (SZ : Int) ≤ (c : Int) := by omega
    have HJN : Hid (joinK (T.take SZ) C = [] ∨ cutB 177 (hd6 num) (joinK (T.take SZ) C) ≠ T.take SZ) := (show _ ∨ _ from by
      have h1 := HQ.out
      rcases hcase with h2 | h2
      · omega
      · rw [h1.2.2]; exact h2)
    clear hgt hcase
    go_enter Tryz.func95, Tryz.ntmps95
    go_upto_region 6 with fail
    generalize w.alloc (.cells #[.slice none 0 0, .int .u8 0, .int .u8 0, .int .u8 0, .int .u8 0, .int .u8 0, .int .u8 0, .int .u8 0, .int .u8 0, .int .u8 0, .int .u8 0, .int .u8 0, .int .u8 0, .int .u8 0, .int .u8 0, .int .u8 0, .int .u8 0, .int .u8 0, .int .u8 0, .int .u8 0, .int .u8 0, .int .u8 0, .int .u8 0, .int .u8 0, .int .u8 0, .int .u8 0, .int .u8 0, .int .u8 0, .int .u8 0, .int .u8 0, .int .u8 0, .int .u8 0, .int .u8 0] 77) = w0 at *
    refine wp_region_noPanic ?_
    refine wp_region_held_drew (S := fun V => True) (by kernel_rfl) trivial ?_
    intro hHeld
    have HD1 : Hid (Below w.heap.size w w0.drew) := HD.out.drew
    have HV1 : Hid (VA w0.drew w.heap.size [.slice none 0 0, .int .u8 0, .int .u8 0, .int .u8 0, .int .u8 0, .int .u8 0, .int .u8 0, .int .u8 0, .int .u8 0, .int .u8 0, .int .u8 0, .int .u8 0, .int .u8 0, .int .u8 0, .int .u8 0, .int .u8 0, .int .u8 0, .int .u8 0, .int .u8 0, .int .u8 0, .int .u8 0, .int .u8 0, .int .u8 0, .int .u8 0, .int .u8 0, .int .u8 0, .int .u8 0, .int .u8 0, .int .u8 0, .int .u8 0, .int .u8 0, .int .u8 0, .int .u8 0] 77) := VA.drew HV.out
    clear HD HV y7
    generalize w0.drew = w1 at *
    refine takeD 0 28 (.slice (some ⟨b, off, none⟩) n c) (by exact rfl) rfl (by kernel_rfl) (by kernel_rfl) (by kernel_rfl) (fun _ _ _ h => h) (Or.inl ⟨by rfl, ?_⟩) (by assumption) ?_
    · intro wq hS
      go_simp
    try simp only [Act.put, List.setIfInBounds_toArray, List.set_cons_zero, List.set_cons_succ]
    refine takeD 1 29 (.int .i64 (SZ : Int)) (by exact rfl) rfl (by kernel_rfl) (by kernel_rfl) (by kernel_rfl) (fun _ _ _ h => h) (Or.inl ⟨by rfl, ?_⟩) (by assumption) ?_
    · intro wq hS
      go_simp
    try simp only [Act.put, List.setIfInBounds_toArray, List.set_cons_zero, List.set_cons_succ]
    refine takeD 2 30 (.slice (some ⟨b, off, none⟩) SZ c) (by exact rfl) rfl (by kernel_rfl) (by kernel_rfl) (by kernel_rfl) (fun _ _ _ h => h) (Or.inl ⟨by rfl, ?_⟩) (by assumption) ?_
    · intro wq hS
      go_simp
    try simp only [Act.put, List.setIfInBounds_toArray, List.set_cons_zero, List.set_cons_succ]
    refine takeD 3 31 (.int .i64 (num : Int)) (by exact rfl) rfl (by kernel_rfl) (by kernel_rfl) (by kernel_rfl) (fun _ _ _ h => h) (Or.inl ⟨by rfl, ?_⟩) (by assumption) ?_
    · intro wq hS
      go_simp
    try simp only [Act.put, List.setIfInBounds_toArray, List.set_cons_zero, List.set_cons_succ]
    refine wpAnyH_ready (rs := [4]) (by kernel_rfl) (by simp) ?_
    refine AllReadyH.cons (by exact rfl) (fun K hK => ?_) AllReadyH.nil
    go_simp
    refine (headmk_ok num hnum w1).mono ?_
    rintro e w2 ⟨rfl, vn, b2⟩
    have HD2 : Hid (Below w.heap.size w w2) := HD1.out.trans (b2.mono HD1.out.size)
    have HV2 := (show Hid _ from HV1.out.step b2)
    have HN2 := (show Hid _ from vn)
    go_wp2_with fail
    refine hK.out _ _ trivial (fun hHeld => ?_)
    clear hK K vn b2 HD1 HV1
    try simp only [Act.put, List.setIfInBounds_toArray, List.set_cons_zero, List.set_cons_succ]
    generalize w1.heap.size = Bn at *
    refine wpAnyH_ready (rs := [5]) (by kernel_rfl) (by simp) ?_
    refine AllReadyH.cons (by exact rfl) (fun K hK => ?_) AllReadyH.nil
    go_simp
    refine (join_no w2 num Bn hnum HN2.out 177 (by omega) _ SZ c C (T.take SZ) ((HB.out.step HD2.out).cut SZ (by have := HQ.out; omega)) (by rw [List.length_take]; have := HQ.out; omega) (by omega) HJN.out).mono ?_
    rintro e w3 ⟨rfl, b3⟩
    have HD3 : Hid (Below w.heap.size w w3) := HD2.out.trans (b3.mono HD2.out.size)
    have HV3 := (show Hid _ from HV2.out.step b3)
    go_wp2_with fail
    refine hK.out _ _ trivial (fun hHeld => ?_)
    clear hK K b3 HD2 HV2 HN2
    try simp only [Act.put, List.setIfInBounds_toArray, List.set_cons_zero, List.set_cons_succ]
    refine takeD 6 27 (.tuple #[.slice none 0 0, .bool false]) (by exact rfl) rfl (by kernel_rfl) (by kernel_rfl) (by kernel_rfl) (fun _ _ _ h => h) (Or.inl ⟨by rfl, ?_⟩) (by assumption) ?_
    · intro wq hS
      go_simp
    try simp only [Act.put, List.setIfInBounds_toArray, List.set_cons_zero, List.set_cons_succ]
    refine takeD 7 34 (.slice none 0 0) (by exact rfl) rfl (by kernel_rfl) (by kernel_rfl) (by kernel_rfl) (fun _ _ _ h => h) (Or.inl ⟨by rfl, ?_⟩) (by assumption) ?_
    · intro wq hS
      go_simp
    try simp only [Act.put, List.setIfInBounds_toArray, List.set_cons_zero, List.set_cons_succ]
    refine takeD 8 35 (.bool false) (by exact rfl) rfl (by kernel_rfl) (by kernel_rfl) (by kernel_rfl) (fun _ _ _ h => h) (Or.inl ⟨by rfl, ?_⟩) (by assumption) ?_
    · intro wq hS
      go_simp
    try simp only [Act.put, List.setIfInBounds_toArray, List.set_cons_zero, List.set_cons_succ]
    refine takeD 9 8 (.slice none 0 0) (by exact rfl) rfl (by kernel_rfl) (by kernel_rfl) (by kernel_rfl) (fun _ _ _ h => h) (Or.inl ⟨by rfl, ?_⟩) (by assumption) ?_
    · intro wq hS
      go_simp
    try simp only [Act.put, List.setIfInBounds_toArray, List.set_cons_zero, List.set_cons_succ]
    refine takeD 10 9 (.bool false) (by exact rfl) rfl (by kernel_rfl) (by kernel_rfl) (by kernel_rfl) (fun _ _ _ h => h) (Or.inl ⟨by rfl, ?_⟩) (by assumption) ?_
    · intro wq hS
      go_simp
    try simp only [Act.put, List.setIfInBounds_toArray, List.set_cons_zero, List.set_cons_succ]
    refine wpAnyH_done (by kernel_rfl) ?_ _
    refine NoPanic.normal ?_
    clear hHeld
    go_wp2_with (refine stA rfl 77 _ _ rfl w.heap.size (by rfl) _ [.slice none 0 0, .int .u8 0, .int .u8 0, .int .u8 0, .int .u8 0, .int .u8 0, .int .u8 0, .int .u8 0, .int .u8 0, .int .u8 0, .int .u8 0, .int .u8 0, .int .u8 0, .int .u8 0, .int .u8 0, .int .u8 0, .int .u8 0, .int .u8 0, .int .u8 0, .int .u8 0, .int .u8 0, .int .u8 0, .int .u8 0, .int .u8 0, .int .u8 0, .int .u8 0, .int .u8 0, .int .u8 0, .int .u8 0, .int .u8 0, .int .u8 0, .int .u8 0, .int .u8 0] (by rfl) _ HV3.out info33 (by rfl) (fun u hu => by simp at hu; rcases hu with rfl | rfl <;> rfl) ?_; intro w9 R9 U9)
    have hld := run_loadVar_row (P := Tryz.prog) w9 w.heap.size 77 77 _ (0, 0) _ R9.blk Tryz.underlying77 rfl info33
    refine bodyPost_ret (v := .tuple #[.agg #[.slice none 0 0, .int .u8 0, .int .u8 0, .int .u8 0, .int .u8 0, .int .u8 0, .int .u8 0, .int .u8 0, .int .u8 0, .int .u8 0, .int .u8 0, .int .u8 0, .int .u8 0, .int .u8 0, .int .u8 0, .int .u8 0, .int .u8 0, .int .u8 0, .int .u8 0, .int .u8 0, .int .u8 0, .int .u8 0, .int .u8 0, .int .u8 0, .int .u8 0, .int .u8 0, .int .u8 0, .int .u8 0, .int .u8 0, .int .u8 0, .int .u8 0, .int .u8 0, .int .u8 0], .slice none 0 0, .bool false]) (by simp [results, Tryz.results95, asAddr, hld]) rfl ?_
    exact ⟨rfl, U9.bel HD3.out (Nat.le_refl _)⟩
end Go.Proofs.YtkmdegmpffgplaaGreatDoor
/- log XXXV: take of a file behind whose records something else stands. -/
namespace Go.Proofs.YtkmdegmpffgplaaGreatDoor
open Go.RowKit Go.Maps Go.Sort Go.Shelf pk
set_option linter.unusedVariables false
set_option linter.unusedSimpArgs false
set_option maxRecDepth 100000 in
set_option maxHeartbeats 4000000 in
theorem take_rest (w : World) (lp p B : Nat) (g : LG) (h : Lg w lp p g) (hB : B ≤ lp) (ho : g.ok) (hgl : g.last.length = 32 ∧ By g.last) (hTb : TbB B w) (v : Value) (rs : List Rc) (T : List Nat) (hv : Bs w v (segB g.next rs ++ T)) (hs : SafeU w v) (hk : Lkd g rs) (hr : ∀ r ∈ rs, Rok r) (hfit : g.next + rs.length ≤ (g.high + 1) * g.per + 1) (hnx : g.next + rs.length < 4294967296) (hcnt : rs.length ≤ 100000) (hbad : g.next + rs.length ≤ (g.high + 1) * g.per → Bad (g.next + rs.length) T) :
    Calls Tryz.prog 73 #[.pointer (some ⟨lp, 0, none⟩), v] w fun e w' => (∃ u ra rn rc, e = .returned (.tuple #[u, .slice ra rn rc]) ∧ Pay w' w.heap.size u (rs.map (·.1)) ∧ Bs w' (.slice ra rn rc) T ∧ SafeU w' (.slice ra rn rc)) ∧ Lg w' lp p (adv g rs) ∧ But (fun i => i = lp) w w' ∧ KeL w w' ∧ Below B w w' := by
  have HTB : Hid (TbB B w) := hTb
  have HLT : Hid (lp < w.heap.size ∧ B ≤ w.heap.size) := ⟨h.lt, Nat.le_trans hB (Nat.le_of_lt h.lt)⟩
  have HR : Hid (∀ r ∈ rs, Rok r) := hr
  have HF : Hid (g.next + rs.length ≤ (g.high + 1) * g.per + 1 ∧ g.next + rs.length < 4294967296 ∧ rs.length ≤ 100000) := ⟨hfit, hnx, hcnt⟩
  have HO : Hid (g.ok ∧ g.last.length = 32 ∧ By g.last) := ⟨ho, hgl⟩
  have HBAD : Hid (g.next + rs.length ≤ (g.high + 1) * g.per → Bad (g.next + rs.length) T) := hbad
  clear hbad
  have HST : Hid (Lg w lp p g ∧ Bs w v (segB g.next rs ++ T) ∧ SafeU w v ∧ Lkd g rs) := ⟨h, hv, hs, hk⟩
  obtain ⟨_, va, vc, rfl, _⟩ := hv
  generalize (segB g.next rs ++ T).length = vn at *
  clear h hTb hs hk hr hfit hnx hcnt ho hgl
  go_enter Tryz.func73, Tryz.ntmps73
  go_wp2_with fail
  go_loopw [1, 6] (fun sv u wr => ∃ (done rem : List Rc) (a : Option Addr) (n c : Nat) (uv : Value), uv = u ∧ sv = .slice a n c ∧ Hid (rs = done ++ rem) ∧ Hid (Lg wr lp p (adv g done)) ∧ Hid (Bs wr (.slice a n c) (segB (adv g done).next rem ++ T) ∧ SafeU wr (.slice a n c)) ∧ Hid (Lkd (adv g done) rem) ∧ Hid ((adv g done).last.length = 32 ∧ By (adv g done).last) ∧ Hid (Pay wr w.heap.size u (done.map (·.1))) ∧ Hid (But (fun i => i = lp) w wr ∧ KeL w wr ∧ Below B w wr)) (fun sv _ _ => vlen sv)
  case atStart => exact ⟨[], rs, va, vn, vc, _, rfl, rfl, rfl, HST.out.1, ⟨HST.out.2.1, HST.out.2.2.1⟩, HST.out.2.2.2, HO.out.2, ⟨[], rfl, own_nil KT w _, fun t ht => by cases ht⟩, ⟨But.refl _ _, KeL.bel (Below.refl _ _), Below.refl _ _⟩⟩
  case round =>
    obtain ⟨done, rem, a, n, c, u, huv, rfl, HE, HL, HV, HLK, HGL, HPY, HBU⟩ := hrel
    subst huv
    obtain ⟨hp1, hp2, hp3, hp4, hp5⟩ := adv_per g done
    have HLEN : Hid (done.length + rem.length = rs.length) := (show _ = _ by rw [HE.out, List.length_append])
    generalize hgj : adv g done = gj at *
    have HGJ := (show Hid _ from hgj)
    have HPER : Hid (gj.per = g.per ∧ gj.low = g.low ∧ gj.high = g.high ∧ gj.next = g.next + done.length) := ⟨hp1, hp2, hp3, hp5⟩
    have HOK : Hid gj.ok := ⟨by rw [hp1]; exact HO.out.1.per, by rw [hp2]; exact HO.out.1.low, by rw [hp3]; exact HO.out.1.high, by have := HF.out; have := HLEN.out; omega⟩
    have hnn := HOK.out.next
    clear hgj hp1 hp2 hp3 hp4 hp5
    have HLO := (show Hid _ from fun w' (k : Lg w' lp p gj) => lastOf_ok w' lp p gj k HOK.out gj.high HOK.out.high)
    obtain ⟨la, hla⟩ : ∃ la, la = (gj.high + 1) * gj.per := ⟨_, rfl⟩
    rw [← hla] at HLO
    have HLA : Hid (la = (g.high + 1) * g.per) := (show _ = _ by rw [hla, HPER.out.2.2.1, HPER.out.1])
    have hlb : la ≤ 100000001000 := by
      rw [HLA.out]
      have h1 := HO.out.1.per
      have h2 := HO.out.1.high
      exact Nat.le_trans (Nat.mul_le_mul (show g.high + 1 ≤ 100000001 by omega) h1.2) (by omega)
    clear hla
    cases rem with
    | nil =>
      have HVT : Hid (Bs wr (.slice a n c) T ∧ SafeU wr (.slice a n c)) := HV.out
      have hnc : n ≤ c ∧ c ≤ 9223372036854775807 := ⟨HV.out.1.len.2.1, HV.out.1.len.2.2⟩
      have HFE : Hid (rs = done) := (show rs = done by rw [HE.out, List.append_nil])
      by_cases hcnd : gj.next ≤ la
      · have HC : Hid ((gj.next : Int) ≤ (la : Int)) := (show (gj.next : Int) ≤ (la : Int) by omega)
        clear hcnd
        go_upto_region 2 with fail
        refine wp_region_noPanic ?_
        refine wp_region_held_drew (S := fun V => Lg V lp p gj) (by kernel_rfl) (VA.drew HL.out) ?_
        intro hHeld
        have HDr : Hid (Below wr.heap.size wr wr.drew) := (Below.refl _ _).drew
        generalize wr.drew = wd at *
        refine takeD 0 10 (.pointer (some ⟨lp, 0, none⟩)) (by exact rfl) rfl (by kernel_rfl) (by kernel_rfl) (by kernel_rfl) (fun _ _ _ h => h) (Or.inl ⟨by rfl, ?_⟩) (by assumption) ?_
        · intro wq hS
          go_simp
        try simp only [Act.put, List.setIfInBounds_toArray, List.set_cons_zero, List.set_cons_succ]
        refine takeD 1 11 (.pointer (some ⟨lp, 0, none⟩)) (by exact rfl) rfl (by kernel_rfl) (by kernel_rfl) (by kernel_rfl) (fun _ _ _ h => h) (Or.inl ⟨by rfl, ?_⟩) (by assumption) ?_
        · intro wq hS
          go_simp
        try simp only [Act.put, List.setIfInBounds_toArray, List.set_cons_zero, List.set_cons_succ]
        refine takeD 2 12 (.pointer (some ⟨lp, 4, none⟩)) (by exact rfl) rfl (by kernel_rfl) (by kernel_rfl) (by kernel_rfl) (fun _ _ _ h => h) (Or.inl ⟨by rfl, ?_⟩) (by assumption) ?_
        · intro wq hS
          go_simp
        try simp only [Act.put, List.setIfInBounds_toArray, List.set_cons_zero, List.set_cons_succ]
        refine takeD 3 13 (.int .i64 (gj.next : Int)) (by exact rfl) rfl (by kernel_rfl) (by kernel_rfl) (by kernel_rfl) (fun _ _ _ h => h) (Or.inl ⟨by rfl, ?_⟩) (by assumption) ?_
        · intro wq hS
          have c := hS.cell 4 (v := .int .i64 (gj.next : Int)) rfl
          go_simp
        try simp only [Act.put, List.setIfInBounds_toArray, List.set_cons_zero, List.set_cons_succ]
        refine takeD 4 14 (.pointer (some ⟨lp, 0, none⟩)) (by exact rfl) rfl (by kernel_rfl) (by kernel_rfl) (by kernel_rfl) (fun _ _ _ h => h) (Or.inl ⟨by rfl, ?_⟩) (by assumption) ?_
        · intro wq hS
          go_simp
        try simp only [Act.put, List.setIfInBounds_toArray, List.set_cons_zero, List.set_cons_succ]
        refine takeD 5 15 (.pointer (some ⟨lp, 0, none⟩)) (by exact rfl) rfl (by kernel_rfl) (by kernel_rfl) (by kernel_rfl) (fun _ _ _ h => h) (Or.inl ⟨by rfl, ?_⟩) (by assumption) ?_
        · intro wq hS
          go_simp
        try simp only [Act.put, List.setIfInBounds_toArray, List.set_cons_zero, List.set_cons_succ]
        refine takeD 6 16 (.pointer (some ⟨lp, 0, none⟩)) (by exact rfl) rfl (by kernel_rfl) (by kernel_rfl) (by kernel_rfl) (fun _ _ _ h => h) (Or.inl ⟨by rfl, ?_⟩) (by assumption) ?_
        · intro wq hS
          go_simp
        try simp only [Act.put, List.setIfInBounds_toArray, List.set_cons_zero, List.set_cons_succ]
        refine takeD 7 17 (.pointer (some ⟨lp, 3, none⟩)) (by exact rfl) rfl (by kernel_rfl) (by kernel_rfl) (by kernel_rfl) (fun _ _ _ h => h) (Or.inl ⟨by rfl, ?_⟩) (by assumption) ?_
        · intro wq hS
          go_simp
        try simp only [Act.put, List.setIfInBounds_toArray, List.set_cons_zero, List.set_cons_succ]
        refine takeD 8 18 (.int .i64 (gj.high : Int)) (by exact rfl) rfl (by kernel_rfl) (by kernel_rfl) (by kernel_rfl) (fun _ _ _ h => h) (Or.inl ⟨by rfl, ?_⟩) (by assumption) ?_
        · intro wq hS
          have c := hS.cell 3 (v := .int .i64 (gj.high : Int)) rfl
          go_simp
        try simp only [Act.put, List.setIfInBounds_toArray, List.set_cons_zero, List.set_cons_succ]
        refine wpAnyH_ready (rs := [9]) (by kernel_rfl) (by simp) ?_
        refine AllReadyH.cons (by exact rfl) (fun K hK => ?_) AllReadyH.nil
        go_simp
        refine (HLO.out wd hHeld).mono ?_
        rintro e we ⟨rfl, rfl⟩
        skip
        go_wp2_with fail
        refine hK.out _ _ hHeld (fun hHeld => ?_)
        clear hK K 
        try simp only [Act.put, List.setIfInBounds_toArray, List.set_cons_zero, List.set_cons_succ]
        refine takeD 10 20 (.bool true) (by exact rfl) rfl (by kernel_rfl) (by kernel_rfl) (by kernel_rfl) (fun _ _ _ h => h) (Or.inl ⟨by rfl, ?_⟩) (by assumption) ?_
        · intro wq hS
          have hc := HC.out
          have hd : gj.next ≤ la := by omega
          go_simp
        try simp only [Act.put, List.setIfInBounds_toArray, List.set_cons_zero, List.set_cons_succ]
        refine wpAnyH_done (by kernel_rfl) ?_ _
        refine NoPanic.normal ?_
        clear hHeld
        have y4 := (HL.out.step HDr.out).cell 4 (v := .int .i64 (gj.next : Int)) rfl
        go_wp2_with fail
        have HBT : Hid (Bad gj.next T ∧ gj.next < 4294967296) := (show _ ∧ _ from by
          have h1 := HPER.out.2.2.2
          have h2 := HFE.out
          have h3 := HC.out
          have h4 := HLA.out
          have h5 := HF.out
          rw [h1, ← h2]
          exact ⟨HBAD.out (by rw [h2, ← h1, ← h4]; omega), by omega⟩)
        refine (readFirst_bad gj.next HBT.out.2 a n c T we (HVT.out.1.step HDr.out) HBT.out.1).mono ?_
        rintro e w1 ⟨rfl, b1⟩
        clear y4
        have HD1 : Hid (Below wr.heap.size wr w1) := HDr.out.trans (b1.mono HDr.out.size)
        have HVZ := (show Hid _ from va_new w1 [.slice none 0 0, .int .u8 0, .int .u8 0, .int .u8 0, .int .u8 0, .int .u8 0, .int .u8 0, .int .u8 0, .int .u8 0, .int .u8 0, .int .u8 0, .int .u8 0, .int .u8 0, .int .u8 0, .int .u8 0, .int .u8 0, .int .u8 0, .int .u8 0, .int .u8 0, .int .u8 0, .int .u8 0, .int .u8 0, .int .u8 0, .int .u8 0, .int .u8 0, .int .u8 0, .int .u8 0, .int .u8 0, .int .u8 0, .int .u8 0, .int .u8 0, .int .u8 0, .int .u8 0] 77)
        clear b1 HDr
        go_wp2_with (refine stA rfl 77 _ _ rfl w1.heap.size (by rfl) _ (rcd none 0 0 (List.replicate 32 0)) (by rfl) _ HVZ.out (info33.trans (by rw [rcd_len])) (by rw [rcd_len]; rfl) (fun u hu => rcd_one hu) ?_; intro w2 R2 U2)
        have HD2 : Hid (Below wr.heap.size wr w2) := U2.bel (HD1.out.alloc HD1.out.size _) HD1.out.size
        clear R2 U2 HVZ HD1
        refine bodyPost_ret (v := .tuple #[u, .slice a n c]) (by simp [results, Tryz.results73, go_sem, asAddr]) rfl ?_
        rw [HFE.out, HGJ.out]
        exact ⟨⟨_, _, _, _, rfl, HPY.out.step HD2.out, HVT.out.1.step HD2.out, HVT.out.2.kel (Kee.kel (Kee.bel HD2.out))⟩, HL.out.step HD2.out, HBU.out.1.then HD2.out, HBU.out.2.1.trans (KeL.bel HD2.out), HBU.out.2.2.trans (HD2.out.mono (Nat.le_trans HLT.out.2 HBU.out.1.size))⟩
      · have HC : Hid (¬ (gj.next : Int) ≤ (la : Int)) := (show ¬ (gj.next : Int) ≤ (la : Int) by omega)
        clear hcnd
        go_upto_region 2 with fail
        refine wp_region_noPanic ?_
        refine wp_region_held_drew (S := fun V => Lg V lp p gj) (by kernel_rfl) (VA.drew HL.out) ?_
        intro hHeld
        have HDr : Hid (Below wr.heap.size wr wr.drew) := (Below.refl _ _).drew
        generalize wr.drew = wd at *
        refine takeD 0 10 (.pointer (some ⟨lp, 0, none⟩)) (by exact rfl) rfl (by kernel_rfl) (by kernel_rfl) (by kernel_rfl) (fun _ _ _ h => h) (Or.inl ⟨by rfl, ?_⟩) (by assumption) ?_
        · intro wq hS
          go_simp
        try simp only [Act.put, List.setIfInBounds_toArray, List.set_cons_zero, List.set_cons_succ]
        refine takeD 1 11 (.pointer (some ⟨lp, 0, none⟩)) (by exact rfl) rfl (by kernel_rfl) (by kernel_rfl) (by kernel_rfl) (fun _ _ _ h => h) (Or.inl ⟨by rfl, ?_⟩) (by assumption) ?_
        · intro wq hS
          go_simp
        try simp only [Act.put, List.setIfInBounds_toArray, List.set_cons_zero, List.set_cons_succ]
        refine takeD 2 12 (.pointer (some ⟨lp, 4, none⟩)) (by exact rfl) rfl (by kernel_rfl) (by kernel_rfl) (by kernel_rfl) (fun _ _ _ h => h) (Or.inl ⟨by rfl, ?_⟩) (by assumption) ?_
        · intro wq hS
          go_simp
        try simp only [Act.put, List.setIfInBounds_toArray, List.set_cons_zero, List.set_cons_succ]
        refine takeD 3 13 (.int .i64 (gj.next : Int)) (by exact rfl) rfl (by kernel_rfl) (by kernel_rfl) (by kernel_rfl) (fun _ _ _ h => h) (Or.inl ⟨by rfl, ?_⟩) (by assumption) ?_
        · intro wq hS
          have c := hS.cell 4 (v := .int .i64 (gj.next : Int)) rfl
          go_simp
        try simp only [Act.put, List.setIfInBounds_toArray, List.set_cons_zero, List.set_cons_succ]
        refine takeD 4 14 (.pointer (some ⟨lp, 0, none⟩)) (by exact rfl) rfl (by kernel_rfl) (by kernel_rfl) (by kernel_rfl) (fun _ _ _ h => h) (Or.inl ⟨by rfl, ?_⟩) (by assumption) ?_
        · intro wq hS
          go_simp
        try simp only [Act.put, List.setIfInBounds_toArray, List.set_cons_zero, List.set_cons_succ]
        refine takeD 5 15 (.pointer (some ⟨lp, 0, none⟩)) (by exact rfl) rfl (by kernel_rfl) (by kernel_rfl) (by kernel_rfl) (fun _ _ _ h => h) (Or.inl ⟨by rfl, ?_⟩) (by assumption) ?_
        · intro wq hS
          go_simp
        try simp only [Act.put, List.setIfInBounds_toArray, List.set_cons_zero, List.set_cons_succ]
        refine takeD 6 16 (.pointer (some ⟨lp, 0, none⟩)) (by exact rfl) rfl (by kernel_rfl) (by kernel_rfl) (by kernel_rfl) (fun _ _ _ h => h) (Or.inl ⟨by rfl, ?_⟩) (by assumption) ?_
        · intro wq hS
          go_simp
        try simp only [Act.put, List.setIfInBounds_toArray, List.set_cons_zero, List.set_cons_succ]
        refine takeD 7 17 (.pointer (some ⟨lp, 3, none⟩)) (by exact rfl) rfl (by kernel_rfl) (by kernel_rfl) (by kernel_rfl) (fun _ _ _ h => h) (Or.inl ⟨by rfl, ?_⟩) (by assumption) ?_
        · intro wq hS
          go_simp
        try simp only [Act.put, List.setIfInBounds_toArray, List.set_cons_zero, List.set_cons_succ]
        refine takeD 8 18 (.int .i64 (gj.high : Int)) (by exact rfl) rfl (by kernel_rfl) (by kernel_rfl) (by kernel_rfl) (fun _ _ _ h => h) (Or.inl ⟨by rfl, ?_⟩) (by assumption) ?_
        · intro wq hS
          have c := hS.cell 3 (v := .int .i64 (gj.high : Int)) rfl
          go_simp
        try simp only [Act.put, List.setIfInBounds_toArray, List.set_cons_zero, List.set_cons_succ]
        refine wpAnyH_ready (rs := [9]) (by kernel_rfl) (by simp) ?_
        refine AllReadyH.cons (by exact rfl) (fun K hK => ?_) AllReadyH.nil
        go_simp
        refine (HLO.out wd hHeld).mono ?_
        rintro e we ⟨rfl, rfl⟩
        skip
        go_wp2_with fail
        refine hK.out _ _ hHeld (fun hHeld => ?_)
        clear hK K 
        try simp only [Act.put, List.setIfInBounds_toArray, List.set_cons_zero, List.set_cons_succ]
        refine takeD 10 20 (.bool false) (by exact rfl) rfl (by kernel_rfl) (by kernel_rfl) (by kernel_rfl) (fun _ _ _ h => h) (Or.inl ⟨by rfl, ?_⟩) (by assumption) ?_
        · intro wq hS
          have hc := HC.out
          have hd : la < gj.next := by omega
          go_simp
        try simp only [Act.put, List.setIfInBounds_toArray, List.set_cons_zero, List.set_cons_succ]
        refine wpAnyH_done (by kernel_rfl) ?_ _
        refine NoPanic.normal ?_
        clear hHeld
        go_wp2_with fail
        refine bodyPost_ret (v := .tuple #[u, .slice a n c]) (by simp [results, Tryz.results73, go_sem, asAddr]) rfl ?_
        rw [HFE.out, HGJ.out]
        exact ⟨⟨_, _, _, _, rfl, HPY.out.step HDr.out, HVT.out.1.step HDr.out, HVT.out.2.kel (Kee.kel (Kee.bel HDr.out))⟩, HL.out.step HDr.out, HBU.out.1.then HDr.out, HBU.out.2.1.trans (KeL.bel HDr.out), HBU.out.2.2.trans (HDr.out.mono (Nat.le_trans HLT.out.2 HBU.out.1.size))⟩
    | cons r rem' =>
      have HRK : Hid (Rok r) := HR.out r (by rw [HE.out]; simp)
      have HC : Hid ((gj.next : Int) ≤ (la : Int)) := (show (gj.next : Int) ≤ (la : Int) by
        have h1 := HLA.out
        have h2 := HF.out.1
        rw [← h1] at h2
        have h3 := HLEN.out
        have h4 := HPER.out.2.2.2
        simp only [List.length_cons] at h3
        omega)
      have HNL : Hid (gj.next < 4294967296 ∧ (done.map (·.1)).length ≤ 100000) := (show gj.next < 4294967296 ∧ (done.map (·.1)).length ≤ 100000 by
        have h2 := HF.out
        have h3 := HLEN.out
        have h4 := HPER.out.2.2.2
        simp only [List.length_cons] at h3
        rw [List.length_map]
        omega)
      go_upto_region 2 with fail
      refine wp_region_noPanic ?_
      refine wp_region_held_drew (S := fun V => Lg V lp p gj) (by kernel_rfl) (VA.drew HL.out) ?_
      intro hHeld
      have HDr : Hid (Below wr.heap.size wr wr.drew) := (Below.refl _ _).drew
      generalize wr.drew = wd at *
      refine takeD 0 10 (.pointer (some ⟨lp, 0, none⟩)) (by exact rfl) rfl (by kernel_rfl) (by kernel_rfl) (by kernel_rfl) (fun _ _ _ h => h) (Or.inl ⟨by rfl, ?_⟩) (by assumption) ?_
      · intro wq hS
        go_simp
      try simp only [Act.put, List.setIfInBounds_toArray, List.set_cons_zero, List.set_cons_succ]
      refine takeD 1 11 (.pointer (some ⟨lp, 0, none⟩)) (by exact rfl) rfl (by kernel_rfl) (by kernel_rfl) (by kernel_rfl) (fun _ _ _ h => h) (Or.inl ⟨by rfl, ?_⟩) (by assumption) ?_
      · intro wq hS
        go_simp
      try simp only [Act.put, List.setIfInBounds_toArray, List.set_cons_zero, List.set_cons_succ]
      refine takeD 2 12 (.pointer (some ⟨lp, 4, none⟩)) (by exact rfl) rfl (by kernel_rfl) (by kernel_rfl) (by kernel_rfl) (fun _ _ _ h => h) (Or.inl ⟨by rfl, ?_⟩) (by assumption) ?_
      · intro wq hS
        go_simp
      try simp only [Act.put, List.setIfInBounds_toArray, List.set_cons_zero, List.set_cons_succ]
      refine takeD 3 13 (.int .i64 (gj.next : Int)) (by exact rfl) rfl (by kernel_rfl) (by kernel_rfl) (by kernel_rfl) (fun _ _ _ h => h) (Or.inl ⟨by rfl, ?_⟩) (by assumption) ?_
      · intro wq hS
        have c := hS.cell 4 (v := .int .i64 (gj.next : Int)) rfl
        go_simp
      try simp only [Act.put, List.setIfInBounds_toArray, List.set_cons_zero, List.set_cons_succ]
      refine takeD 4 14 (.pointer (some ⟨lp, 0, none⟩)) (by exact rfl) rfl (by kernel_rfl) (by kernel_rfl) (by kernel_rfl) (fun _ _ _ h => h) (Or.inl ⟨by rfl, ?_⟩) (by assumption) ?_
      · intro wq hS
        go_simp
      try simp only [Act.put, List.setIfInBounds_toArray, List.set_cons_zero, List.set_cons_succ]
      refine takeD 5 15 (.pointer (some ⟨lp, 0, none⟩)) (by exact rfl) rfl (by kernel_rfl) (by kernel_rfl) (by kernel_rfl) (fun _ _ _ h => h) (Or.inl ⟨by rfl, ?_⟩) (by assumption) ?_
      · intro wq hS
        go_simp
      try simp only [Act.put, List.setIfInBounds_toArray, List.set_cons_zero, List.set_cons_succ]
      refine takeD 6 16 (.pointer (some ⟨lp, 0, none⟩)) (by exact rfl) rfl (by kernel_rfl) (by kernel_rfl) (by kernel_rfl) (fun _ _ _ h => h) (Or.inl ⟨by rfl, ?_⟩) (by assumption) ?_
      · intro wq hS
        go_simp
      try simp only [Act.put, List.setIfInBounds_toArray, List.set_cons_zero, List.set_cons_succ]
      refine takeD 7 17 (.pointer (some ⟨lp, 3, none⟩)) (by exact rfl) rfl (by kernel_rfl) (by kernel_rfl) (by kernel_rfl) (fun _ _ _ h => h) (Or.inl ⟨by rfl, ?_⟩) (by assumption) ?_
      · intro wq hS
        go_simp
      try simp only [Act.put, List.setIfInBounds_toArray, List.set_cons_zero, List.set_cons_succ]
      refine takeD 8 18 (.int .i64 (gj.high : Int)) (by exact rfl) rfl (by kernel_rfl) (by kernel_rfl) (by kernel_rfl) (fun _ _ _ h => h) (Or.inl ⟨by rfl, ?_⟩) (by assumption) ?_
      · intro wq hS
        have c := hS.cell 3 (v := .int .i64 (gj.high : Int)) rfl
        go_simp
      try simp only [Act.put, List.setIfInBounds_toArray, List.set_cons_zero, List.set_cons_succ]
      refine wpAnyH_ready (rs := [9]) (by kernel_rfl) (by simp) ?_
      refine AllReadyH.cons (by exact rfl) (fun K hK => ?_) AllReadyH.nil
      go_simp
      refine (HLO.out wd hHeld).mono ?_
      rintro e we ⟨rfl, rfl⟩
      skip
      go_wp2_with fail
      refine hK.out _ _ hHeld (fun hHeld => ?_)
      clear hK K 
      try simp only [Act.put, List.setIfInBounds_toArray, List.set_cons_zero, List.set_cons_succ]
      refine takeD 10 20 (.bool true) (by exact rfl) rfl (by kernel_rfl) (by kernel_rfl) (by kernel_rfl) (fun _ _ _ h => h) (Or.inl ⟨by rfl, ?_⟩) (by assumption) ?_
      · intro wq hS
        have hc := HC.out
        have hd : gj.next ≤ la := by omega
        go_simp
      try simp only [Act.put, List.setIfInBounds_toArray, List.set_cons_zero, List.set_cons_succ]
      refine wpAnyH_done (by kernel_rfl) ?_ _
      refine NoPanic.normal ?_
      clear hHeld
      have y4 := (HL.out.step HDr.out).cell 4 (v := .int .i64 (gj.next : Int)) rfl
      go_wp2_with fail
      refine (readFirst_ok gj.next r.1 r.2 (segB (gj.next + 1) rem' ++ T) a n c we (by have h1 := HV.out.1.step HDr.out; rw [show segB gj.next (r :: rem') = secL gj.next r.1 r.2 ++ segB (gj.next + 1) rem' from rfl, List.append_assoc] at h1; exact h1) (HV.out.2.kel (Kee.kel (Kee.bel HDr.out))) HRK.out.pb HRK.out.lb HRK.out.p0 HRK.out.pl HRK.out.ll HNL.out.1).mono ?_
      rintro e w1 ⟨⟨pa, rv, rfl, hpb, hps, hrb, hrs, ra, rc, hrv⟩, b1⟩
      have HMS : Hid ((segB (gj.next + 1) rem' ++ T).length < n) := (show _ < _ by
        have h1 := HV.out.1.len.1
        rw [List.length_append] at h1 ⊢
        have h2 : (segB gj.next (r :: rem')).length = (secL gj.next r.1 r.2).length + (segB (gj.next + 1) rem').length := by show (secL gj.next r.1 r.2 ++ segB (gj.next + 1) rem').length = _; rw [List.length_append]
        have h3 : 32 ≤ (secL gj.next r.1 r.2).length := by rw [secL_len]; unfold cn4; omega
        omega)
      generalize hrn : (segB (gj.next + 1) rem' ++ T).length = rn at *
      have HRN := (show Hid _ from hrn)
      generalize hLL : r.1.length = L at *
      have HLN := (show Hid _ from hLL)
      subst hrv
      have HD1 : Hid (Below wr.heap.size wr w1) := HDr.out.trans (b1.mono HDr.out.size)
      have HPB : Hid (Bs w1 (.slice pa L L) r.1 ∧ SafeU w1 (.slice pa L L)) := ⟨hpb, hps⟩
      have HRB : Hid (Bs w1 (.slice ra rn rc) (segB (gj.next + 1) rem' ++ T) ∧ SafeU w1 (.slice ra rn rc)) := ⟨hrb, hrs⟩
      have HVZ := (show Hid _ from va_new w1 [.slice none 0 0, .int .u8 0, .int .u8 0, .int .u8 0, .int .u8 0, .int .u8 0, .int .u8 0, .int .u8 0, .int .u8 0, .int .u8 0, .int .u8 0, .int .u8 0, .int .u8 0, .int .u8 0, .int .u8 0, .int .u8 0, .int .u8 0, .int .u8 0, .int .u8 0, .int .u8 0, .int .u8 0, .int .u8 0, .int .u8 0, .int .u8 0, .int .u8 0, .int .u8 0, .int .u8 0, .int .u8 0, .int .u8 0, .int .u8 0, .int .u8 0, .int .u8 0, .int .u8 0] 77)
      clear hpb hps hrb hrs b1 HDr hrn hLL y4
      go_upto_region 4 with (refine stA rfl 77 _ _ rfl w1.heap.size (by rfl) _ (rcd pa L L r.2) (by rfl) _ HVZ.out (info33.trans (by rw [rcd_len])) (by rw [rcd_len]; rfl) (fun u hu => rcd_one hu) ?_; intro w2 R2 U2)
      have HR2 : Hid (VA w2 w1.heap.size (rcd pa L L r.2) 77) := R2
      have HD12 : Hid (Below w1.heap.size w1 w2) := U2.bel ((Below.refl _ _).alloc (Nat.le_refl _) _) (Nat.le_refl _)
      have HPB2 : Hid (Bs w2 (.slice pa L L) r.1 ∧ SafeU w2 (.slice pa L L)) := ⟨HPB.out.1.step HD12.out, HPB.out.2.kel (Kee.kel (Kee.bel HD12.out))⟩
      have HRB2 : Hid (Bs w2 (.slice ra rn rc) (segB (gj.next + 1) rem' ++ T) ∧ SafeU w2 (.slice ra rn rc)) := ⟨HRB.out.1.step HD12.out, HRB.out.2.kel (Kee.kel (Kee.bel HD12.out))⟩
      have HD2 : Hid (Below wr.heap.size wr w2) := HD1.out.trans (HD12.out.mono HD1.out.size)
      clear R2 U2 HVZ HPB HRB HD12 HD1
      generalize w1.heap.size = q at *
      go_wp2_with (refine ldAw (by rfl) 77 _ rfl q (by rfl) _ _ HR2.out _ Tryz.underlying77 rfl (info33.trans (by rw [rcd_len])) ?_)
      have HSW : Hid (B ≤ wr.heap.size) := Nat.le_trans HLT.out.2 HBU.out.1.size
      refine (isLinked_ok w2 lp p B gj (HL.out.step HD2.out) HOK.out HGL.out (HTB.out.on (HBU.out.2.2.trans (HD2.out.mono HSW.out))) (Nat.le_trans HSW.out HD2.out.size) pa L L r.1 r.2 HPB2.out.1 (by rw [HLN.out]; have := HRK.out.pl; rw [HLN.out] at this; exact this) HLK.out.1).mono ?_
      rintro e w3 ⟨rfl, b3⟩
      have HD3 : Hid (Below wr.heap.size wr w3) := HD2.out.trans (b3.mono HD2.out.size)
      have HR3 : Hid (VA w3 q (rcd pa L L r.2) 77) := HR2.out.step b3
      have HPB3 : Hid (Bs w3 (.slice pa L L) r.1 ∧ SafeU w3 (.slice pa L L)) := ⟨HPB2.out.1.step b3, HPB2.out.2.kel (Kee.kel (Kee.bel b3))⟩
      have HRB3 : Hid (Bs w3 (.slice ra rn rc) (segB (gj.next + 1) rem' ++ T) ∧ SafeU w3 (.slice ra rn rc)) := ⟨HRB2.out.1.step b3, HRB2.out.2.kel (Kee.kel (Kee.bel b3))⟩
      have HL3 : Hid (Lg w3 lp p gj) := HL.out.step HD3.out
      obtain ⟨ts, ht1, ht2, ht3⟩ := (HPY.out.step HD3.out).ex
      have HTL : Hid (ts.length ≤ 100000) := (show ts.length ≤ 100000 by have h1 := congrArg List.length ht1; have h2 := HNL.out.2; rw [List.length_map] at h1; omega)
      have HT1 := (show Hid _ from ht1)
      have HOW := (show Hid _ from ht2)
      have HT3 := (show Hid _ from ht3)
      have HSZ : Hid (w.heap.size ≤ w3.heap.size) := Nat.le_trans HBU.out.1.size HD3.out.size
      have y0 := HR3.out.cell 0 (v := .slice pa L L) rfl
      clear b3 ht1 ht2 ht3 HPB2 HRB2 HR2 HD2
      go_upto_region 6 with (at_builtin; refine appOneG (K := KT) rfl _ _ rfl w.heap.size ts _ ⟨pa, L, r.1⟩ (by rfl) (by rfl) HOW.out HSZ.out (by have := HTL.out; show (ts.length + 1) * 24 ≤ _; omega) (by have := HTL.out; omega) _ (by show _ = [Value.slice pa r.1.length L].toArray; rw [HLN.out]) ?_; intro v4 w4 o4 b4 g4)
      have BA := (Below.refl w3.heap.size w3).alloc (Nat.le_refl _) (.cells #[.slice pa L L] 22)
      have OA := HOW.out.alloc (.cells #[.slice pa L L] 22)
      have HR4 : Hid (VA w4 q (rcd pa L L r.2) 77) := va_grown (HR3.out.step BA) OA g4 (by decide)
      have HL4 : Hid (Lg w4 lp p gj) := va_grown (HL3.out.step BA) OA g4 (by decide)
      have HPB4 : Hid (Bs w4 (.slice pa L L) r.1 ∧ SafeU w4 (.slice pa L L)) := ⟨bs_grown (HPB3.out.1.step BA) (HPB3.out.2.kel (Kee.kel (Kee.bel BA))) OA g4, (HPB3.out.2.kel (Kee.kel (Kee.bel BA))).grown OA g4⟩
      have HRB4 : Hid (Bs w4 (.slice ra rn rc) (segB (gj.next + 1) rem' ++ T) ∧ SafeU w4 (.slice ra rn rc)) := ⟨bs_grown (HRB3.out.1.step BA) (HRB3.out.2.kel (Kee.kel (Kee.bel BA))) OA g4, (HRB3.out.2.kel (Kee.kel (Kee.bel BA))).grown OA g4⟩
      have HPY4 : Hid (Pay w4 w.heap.size v4 ((done ++ [r]).map (·.1))) := by
        refine ⟨ts ++ [⟨pa, L, r.1⟩], by rw [List.map_append, List.map_append, HT1.out]; rfl, o4, fun t ht => ?_⟩
        rcases List.mem_append.1 ht with ht | ht
        · have h3 := HT3.out t ht
          exact ⟨bs_grown (h3.1.step BA) (h3.2.kel (Kee.kel (Kee.bel BA))) OA g4, (h3.2.kel (Kee.kel (Kee.bel BA))).grown OA g4⟩
        · rw [List.mem_singleton] at ht
          subst ht
          show Bs w4 (.slice pa r.1.length L) r.1 ∧ SafeU w4 (.slice pa r.1.length L)
          rw [HLN.out]
          exact HPB4.out
      have HBW4 : Hid (Below w.heap.size w3 w4) := b4
      have HB4 : Hid (But (fun i => i = lp) w w4) := (HBU.out.1.then HD3.out).below2 b4
      have HK4 : Hid (KeL w w4) := (HBU.out.2.1.trans (KeL.bel HD3.out)).below2 HB4.out b4
      have HC4 : Hid (Below B w w4) := (HBU.out.2.2.trans (HD3.out.mono HSW.out)).trans (b4.mono HLT.out.2)
      clear o4 b4 g4 BA OA y0 HOW HT1 HT3 HTL HR3 HPB3 HRB3 HL3 HD3 HPY HPB4
      go_wp2_with (refine ldA rfl 77 _ rfl q (by rfl) _ _ HR4.out _ Tryz.underlying77 rfl (info33.trans (by rw [rcd_len])) ?_)
      refine (follow_ok w4 lp p B gj HL4.out hB HOK.out pa L L r.2).mono ?_
      rintro e w5 ⟨⟨u5, rfl⟩, hL5, hK5, hB5, hT5⟩
      have HL5 : Hid (Lg w5 lp p (gj.fol r)) := hL5
      have HRB5 : Hid (Bs w5 (.slice ra rn rc) (segB (gj.next + 1) rem' ++ T) ∧ SafeU w5 (.slice ra rn rc)) := ⟨HRB4.out.1.kel HRB4.out.2.l hK5.kel, HRB4.out.2.kel hK5.kel⟩
      have HPY5 : Hid (Pay w5 w.heap.size v4 ((done ++ [r]).map (·.1))) := HPY4.out.kel hK5
      have HBU5 : Hid (But (fun i => i = lp) w w5 ∧ KeL w w5 ∧ Below B w w5) := ⟨HB4.out.trans hT5 (fun _ _ h => h), HK4.out.trans hK5, HC4.out.trans hB5⟩
      clear hL5 hK5 hB5 hT5 HRB4 HPY4 HB4 HK4 HC4 HL4 HR4
      go_wp2_with fail
      go_roundw
      case rel =>
        have e1 : adv g (done ++ [r]) = gj.fol r := by rw [adv_fol, HGJ.out]
        refine ⟨done ++ [r], rem', ra, rn, rc, _, rfl, rfl, ?_, ?_, ?_, ?_, ?_, HPY5, HBU5⟩
        · show rs = _; rw [HE.out, List.append_assoc]; rfl
        · show Lg _ _ _ _; rw [e1]; exact HL5.out
        · show Bs _ _ _ ∧ _; rw [e1]; exact HRB5.out
        · show Lkd _ _; rw [e1]; exact HLK.out.2
        · show _ = 32 ∧ _; rw [e1]; exact ⟨HRK.out.ll, HRK.out.lb⟩
      case measure => exact HMS.out
end Go.Proofs.YtkmdegmpffgplaaGreatDoor
