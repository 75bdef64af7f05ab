/- digits: withDigit: ten times a size, and a digit. -/
import Derived.Test.YtgcmbiahakampaaJa
import Derived.Test.YtgcmbiahakampaaWc
namespace Go.Proofs.Ytgcmbiahakampaa
open Go.RowKit
set_option linter.unusedVariables false
set_option linter.unusedSimpArgs false

/-- what withDigit answers: the two words of 10 M + d, and whether they are those of a coefficient -/
theorem wdig_go (m0 m1 d l0 h0 l1 c1 b2 h2 h3 c3 : Nat) (ok : Bool) (w : World) (hd9 : d ≤ 9) (hm0 : m0 < 18446744073709551616) (hm1 : m1 < 18446744073709551616)
    (e1 : h0 = m0 * 10 / 18446744073709551616) (e2 : l0 = m0 * 10 % 18446744073709551616) (e3 : l1 = (l0 + d) % 18446744073709551616) (e4 : c1 = (l0 + d) / 18446744073709551616)
    (e5 : b2 = m1 * 10 / 18446744073709551616) (e6 : h2 = m1 * 10 % 18446744073709551616) (e7 : h3 = (h2 + h0 + c1) % 18446744073709551616) (e8 : c3 = (h2 + h0 + c1) / 18446744073709551616)
    (eo : ok = (decide (b2 = 0) && decide (c3 = 0) && decide (h3 < 9223372036854775808))) :
    Calls Try.prog 62 #[.agg (zc m0 m1).toArray, .int .u8 (d : Int)] w fun e w' => e = .returned (.tuple #[.agg (zc l1 h3).toArray, .bool ok]) ∧ Below w.heap.size w w' := by
  have M1 : ∀ w, Calls Try.prog 63 #[.int .u64 (m0 : Int), .int .u64 10] w fun e w' => e = .returned (.tuple #[.int .u64 (h0 : Int), .int .u64 (l0 : Int)]) ∧ w' = w := fun w => by
    have := mul64_any m0 10 w hm0 (by decide)
    rw [← e1, ← e2] at this
    exact this
  have M2 : ∀ w, Calls Try.prog 63 #[.int .u64 (m1 : Int), .int .u64 10] w fun e w' => e = .returned (.tuple #[.int .u64 (b2 : Int), .int .u64 (h2 : Int)]) ∧ w' = w := fun w => by
    have := mul64_any m1 10 w hm1 (by decide)
    rw [← e5, ← e6] at this
    exact this
  have c1b : c1 ≤ 1 := by omega
  have A1 : ∀ w, (callFunc 61 #[.int .u64 (l0 : Int), .int .u64 (d : Int), .int .u64 0]).run Try.prog w = .ok (.value (.tuple #[.int .u64 (l1 : Int), .int .u64 (c1 : Int)])) w := fun w => by
    rw [run_Add64 _ _ _ (by omega) (by omega) (by omega) (by omega), show ((l0 : Int) + d + 0) % 18446744073709551616 = l1 by omega, show ((l0 : Int) + d + 0) / 18446744073709551616 = c1 by omega]
  have A2 : ∀ w, (callFunc 61 #[.int .u64 (h2 : Int), .int .u64 (h0 : Int), .int .u64 (c1 : Int)]).run Try.prog w = .ok (.value (.tuple #[.int .u64 (h3 : Int), .int .u64 (c3 : Int)])) w := fun w => by
    rw [run_Add64 _ _ _ (by omega) (by omega) (by omega) (by omega), show ((h2 : Int) + h0 + c1) % 18446744073709551616 = h3 by omega, show ((h2 : Int) + h0 + c1) / 18446744073709551616 = c3 by omega]
  have VN_0 := (show Hid _ from (va_new w (zc m0 m1) 48).alloc (.cells (zc 0 0).toArray 48))
  have VR_0 := (show Hid _ from va_new (w.alloc (.cells (zc m0 m1).toArray 48)) (zc 0 0) 48)
  rw [show (w.alloc (.cells (zc m0 m1).toArray 48)).heap.size = w.heap.size + 1 by simp] at VR_0
  have BB_0 := (show Hid _ from ((Below.refl w.heap.size w).alloc (Nat.le_refl _) (.cells (zc m0 m1).toArray 48)).alloc (by simp) (.cells (zc 0 0).toArray 48))
  have h3b : (h3 : Int) < 18446744073709551616 := by omega
  have HE := (show Hid _ from eo)
  have d9 : (d : Int) ≤ 9 := by omega
  clear e1 e2 e3 e4 e5 e6 e7 e8 eo
  go_enter Try.func62, Try.ntmps62
  have n0 := VN_0.out.cell 0 (v := .int .u64 (m0 : Int)) rfl
  have n1 := VN_0.out.cell 1 (v := .int .u64 (m1 : Int)) rfl
  go_upto_region 1 with fail
  change Code.wp _ _ _ _ ((w.alloc (.cells (zc m0 m1).toArray 48)).alloc (.cells (zc 0 0).toArray 48))
  generalize (w.alloc (.cells (zc m0 m1).toArray 48)).alloc (.cells (zc 0 0).toArray 48) = wa at *
  go_wp2_with fail
  refine (M1 _).mono ?_
  rintro e w1 ⟨rfl, hq⟩
  obtain rfl := hq.symm
  clear hq
  go_wp2_with fail
  refine (M2 _).mono ?_
  rintro e w1 ⟨rfl, hq⟩
  obtain rfl := hq.symm
  clear hq
  go_upto_region 5 with fail
  clear n0 n1 M1 M2 A1 A2
  by_cases hb : b2 = 0
  · have gb : (b2 : Int) = 0 := by omega
    by_cases hc : c3 = 0
    · have gc : (c3 : Int) = 0 := by omega
      by_cases hh : h3 < 9223372036854775808
      · have gh : (h3 : Int) / 9223372036854775808 = 0 := by omega
        have ht : ok = true := by rw [HE.out]; simp [hb, hc, hh]
        clear hb hc hh
        go_wp2_with (refine stA rfl 48 _ _ rfl (w.heap.size + 1) (by rfl) (zc 0 0) (zc l1 h3) (by rfl) 48 VR_0.out infoZ rfl (zc_one _ _) ?_; intro wf vf uf)
        have hld := run_loadVar_row (P := Try.prog) wf (w.heap.size + 1) 48 48 _ (0, 0) _ vf.blk Try.underlying48 rfl infoZ
        exact bodyPost_ret (v := .tuple #[.agg (zc l1 h3).toArray, .bool true]) (by simp [results, Try.results62, asAddr, hld]) rfl ⟨by rw [ht], uf.bel BB_0.out (by omega)⟩
      · have gh : ((h3 : Int) / 9223372036854775808 == 0) = false := by simp; omega
        have gh2 : ¬ (h3 : Int) / 9223372036854775808 = 0 := by omega
        have ht : ok = false := by rw [HE.out]; simp [hb, hc, hh]
        clear hb hc hh
        go_wp2_with (refine stA rfl 48 _ _ rfl (w.heap.size + 1) (by rfl) (zc 0 0) (zc l1 h3) (by rfl) 48 VR_0.out infoZ rfl (zc_one _ _) ?_; intro wf vf uf)
        have hld := run_loadVar_row (P := Try.prog) wf (w.heap.size + 1) 48 48 _ (0, 0) _ vf.blk Try.underlying48 rfl infoZ
        exact bodyPost_ret (v := .tuple #[.agg (zc l1 h3).toArray, .bool false]) (by simp [results, Try.results62, asAddr, hld]) rfl ⟨by rw [ht], uf.bel BB_0.out (by omega)⟩
    · have gc : ¬ (c3 : Int) = 0 := by omega
      have gc2 : ((c3 : Int) == 0) = false := by simp; omega
      have ht : ok = false := by rw [HE.out]; simp [hb, hc]
      clear hb hc
      go_wp2_with (refine stA rfl 48 _ _ rfl (w.heap.size + 1) (by rfl) (zc 0 0) (zc l1 h3) (by rfl) 48 VR_0.out infoZ rfl (zc_one _ _) ?_; intro wf vf uf)
      have hld := run_loadVar_row (P := Try.prog) wf (w.heap.size + 1) 48 48 _ (0, 0) _ vf.blk Try.underlying48 rfl infoZ
      exact bodyPost_ret (v := .tuple #[.agg (zc l1 h3).toArray, .bool false]) (by simp [results, Try.results62, asAddr, hld]) rfl ⟨by rw [ht], uf.bel BB_0.out (by omega)⟩
  · have gb : ¬ (b2 : Int) = 0 := by omega
    have gb2 : ((b2 : Int) == 0) = false := by simp; omega
    have ht : ok = false := by rw [HE.out]; simp [hb]
    clear hb
    go_wp2_with (refine stA rfl 48 _ _ rfl (w.heap.size + 1) (by rfl) (zc 0 0) (zc l1 h3) (by rfl) 48 VR_0.out infoZ rfl (zc_one _ _) ?_; intro wf vf uf)
    have hld := run_loadVar_row (P := Try.prog) wf (w.heap.size + 1) 48 48 _ (0, 0) _ vf.blk Try.underlying48 rfl infoZ
    exact bodyPost_ret (v := .tuple #[.agg (zc l1 h3).toArray, .bool false]) (by simp [results, Try.results62, asAddr, hld]) rfl ⟨by rw [ht], uf.bel BB_0.out (by omega)⟩
end Go.Proofs.Ytgcmbiahakampaa
/- digits: the reader: take. -/
namespace Go.Proofs.Ytgcmbiahakampaa
open Go.RowKit
set_option linter.unusedVariables false
set_option linter.unusedSimpArgs false

/-- a reader's cells: its text, its place, its size, whether it is beyond -/
def rc (s : ByteArray) (i m0 m1 : Nat) (b : Bool) : List Value := [.string s, .int .i64 (i : Int), .int .u64 (m0 : Int), .int .u64 (m1 : Int), .bool b]
set_option maxHeartbeats 1000000 in
theorem take_end (r : Nat) (s : ByteArray) (i m0 m1 : Nat) (b : Bool) (c : Int) (w : World) (V : VA w r (rc s i m0 m1 b) 85) (h : i = s.size) :
    Calls Try.prog 37 #[.pointer (some ⟨r, 0, none⟩), .int .u8 c] w fun e w' => e = .returned (.bool false) ∧ VA w' r (rc s i m0 m1 b) 85 ∧ Upd r w w' := by
  have hq : ((i : Int) == (s.size : Int)) = true := by simp; omega
  clear h
  have U0 : Upd r w w.drew := ⟨rfl, rfl, rfl, rfl, fun _ _ => rfl⟩
  have HV := (show Hid _ from V)
  have HU := (show Hid _ from U0)
  go_enter Try.func37, Try.ntmps37
  go_upto_region 1 with fail
  refine wp_region_noPanic ?_
  refine wp_region_held_drew (S := fun w' => VA w' r (rc s i m0 m1 b) 85 ∧ Upd r w w') (by kernel_rfl) ⟨HV.out.drew, HU.out⟩ (fun hHeld => ?_)
  clear V U0 HU HV
  generalize w.drew = wz at *
  refine takeD 0 5 (.pointer (some ⟨r, 0, none⟩)) (by exact rfl) rfl (by kernel_rfl) (by kernel_rfl) (by kernel_rfl) (fun _ _ _ h => h) (Or.inl ⟨by rfl, ?_⟩) (by assumption) ?_
  · intro wq hS
    go_simp
  try simp only [Act.put, List.setIfInBounds_toArray, List.set_cons_zero, List.set_cons_succ]
  refine takeD 1 6 (.pointer (some ⟨r, 0, none⟩)) (by exact rfl) rfl (by kernel_rfl) (by kernel_rfl) (by kernel_rfl) (fun _ _ _ h => h) (Or.inl ⟨by rfl, ?_⟩) (by assumption) ?_
  · intro wq hS
    go_simp
  try simp only [Act.put, List.setIfInBounds_toArray, List.set_cons_zero, List.set_cons_succ]
  refine takeD 2 7 (.pointer (some ⟨r, 1, none⟩)) (by exact rfl) rfl (by kernel_rfl) (by kernel_rfl) (by kernel_rfl) (fun _ _ _ h => h) (Or.inl ⟨by rfl, ?_⟩) (by assumption) ?_
  · intro wq hS
    go_simp
  try simp only [Act.put, List.setIfInBounds_toArray, List.set_cons_zero, List.set_cons_succ]
  refine takeD 3 8 (.int .i64 (i : Int)) (by exact rfl) rfl (by kernel_rfl) (by kernel_rfl) (by kernel_rfl) (fun _ _ _ h => h) (Or.inl ⟨by rfl, ?_⟩) (by assumption) ?_
  · intro wq hS
    have h0 := hS.1.cell 1 (v := .int .i64 (i : Int)) rfl
    go_simp
  try simp only [Act.put, List.setIfInBounds_toArray, List.set_cons_zero, List.set_cons_succ]
  refine takeD 4 9 (.pointer (some ⟨r, 0, none⟩)) (by exact rfl) rfl (by kernel_rfl) (by kernel_rfl) (by kernel_rfl) (fun _ _ _ h => h) (Or.inl ⟨by rfl, ?_⟩) (by assumption) ?_
  · intro wq hS
    go_simp
  try simp only [Act.put, List.setIfInBounds_toArray, List.set_cons_zero, List.set_cons_succ]
  refine takeD 5 10 (.pointer (some ⟨r, 0, none⟩)) (by exact rfl) rfl (by kernel_rfl) (by kernel_rfl) (by kernel_rfl) (fun _ _ _ h => h) (Or.inl ⟨by rfl, ?_⟩) (by assumption) ?_
  · intro wq hS
    go_simp
  try simp only [Act.put, List.setIfInBounds_toArray, List.set_cons_zero, List.set_cons_succ]
  refine takeD 6 11 (.pointer (some ⟨r, 0, none⟩)) (by exact rfl) rfl (by kernel_rfl) (by kernel_rfl) (by kernel_rfl) (fun _ _ _ h => h) (Or.inl ⟨by rfl, ?_⟩) (by assumption) ?_
  · intro wq hS
    go_simp
  try simp only [Act.put, List.setIfInBounds_toArray, List.set_cons_zero, List.set_cons_succ]
  refine takeD 7 12 (.string s) (by exact rfl) rfl (by kernel_rfl) (by kernel_rfl) (by kernel_rfl) (fun _ _ _ h => h) (Or.inl ⟨by rfl, ?_⟩) (by assumption) ?_
  · intro wq hS
    have h0 := hS.1.cell 0 (v := .string s) rfl
    go_simp
  try simp only [Act.put, List.setIfInBounds_toArray, List.set_cons_zero, List.set_cons_succ]
  refine takeD 8 13 (.int .i64 (s.size : Int)) (by exact rfl) rfl (by kernel_rfl) (by kernel_rfl) (by kernel_rfl) (fun _ _ _ h => h) (Or.inl ⟨by rfl, ?_⟩) (by assumption) ?_
  · intro wq hS
    go_simp
  try simp only [Act.put, List.setIfInBounds_toArray, List.set_cons_zero, List.set_cons_succ]
  refine takeD 9 14 (.bool true) (by exact rfl) rfl (by kernel_rfl) (by kernel_rfl) (by kernel_rfl) (fun _ _ _ h => h) (Or.inl ⟨by rfl, ?_⟩) (by assumption) ?_
  · intro wq hS
    go_simp
  try simp only [Act.put, List.setIfInBounds_toArray, List.set_cons_zero, List.set_cons_succ]
  refine takeD 10 15 (.bool true) (by exact rfl) rfl (by kernel_rfl) (by kernel_rfl) (by kernel_rfl) (fun _ _ _ h => h) (Or.inl ⟨by rfl, ?_⟩) (by assumption) ?_
  · intro wq hS
    go_simp
  try simp only [Act.put, List.setIfInBounds_toArray, List.set_cons_zero, List.set_cons_succ]
  refine takeD 11 16 undef (by exact rfl) rfl (by kernel_rfl) (by kernel_rfl) (by kernel_rfl) (fun _ _ _ h => h) (Or.inr ⟨by rfl, rfl⟩) (by assumption) ?_
  try simp only [Act.put, List.setIfInBounds_toArray, List.set_cons_zero, List.set_cons_succ]
  refine takeD 12 17 undef (by exact rfl) rfl (by kernel_rfl) (by kernel_rfl) (by kernel_rfl) (fun _ _ _ h => h) (Or.inr ⟨by rfl, rfl⟩) (by assumption) ?_
  try simp only [Act.put, List.setIfInBounds_toArray, List.set_cons_zero, List.set_cons_succ]
  refine takeD 13 18 undef (by exact rfl) rfl (by kernel_rfl) (by kernel_rfl) (by kernel_rfl) (fun _ _ _ h => h) (Or.inr ⟨by rfl, rfl⟩) (by assumption) ?_
  try simp only [Act.put, List.setIfInBounds_toArray, List.set_cons_zero, List.set_cons_succ]
  refine takeD 14 19 undef (by exact rfl) rfl (by kernel_rfl) (by kernel_rfl) (by kernel_rfl) (fun _ _ _ h => h) (Or.inr ⟨by rfl, rfl⟩) (by assumption) ?_
  try simp only [Act.put, List.setIfInBounds_toArray, List.set_cons_zero, List.set_cons_succ]
  refine takeD 15 20 undef (by exact rfl) rfl (by kernel_rfl) (by kernel_rfl) (by kernel_rfl) (fun _ _ _ h => h) (Or.inr ⟨by rfl, rfl⟩) (by assumption) ?_
  try simp only [Act.put, List.setIfInBounds_toArray, List.set_cons_zero, List.set_cons_succ]
  refine takeD 16 21 undef (by exact rfl) rfl (by kernel_rfl) (by kernel_rfl) (by kernel_rfl) (fun _ _ _ h => h) (Or.inr ⟨by rfl, rfl⟩) (by assumption) ?_
  try simp only [Act.put, List.setIfInBounds_toArray, List.set_cons_zero, List.set_cons_succ]
  refine takeD 17 22 undef (by exact rfl) rfl (by kernel_rfl) (by kernel_rfl) (by kernel_rfl) (fun _ _ _ h => h) (Or.inr ⟨by rfl, rfl⟩) (by assumption) ?_
  try simp only [Act.put, List.setIfInBounds_toArray, List.set_cons_zero, List.set_cons_succ]
  refine takeD 18 23 undef (by exact rfl) rfl (by kernel_rfl) (by kernel_rfl) (by kernel_rfl) (fun _ _ _ h => h) (Or.inr ⟨by rfl, rfl⟩) (by assumption) ?_
  try simp only [Act.put, List.setIfInBounds_toArray, List.set_cons_zero, List.set_cons_succ]
  refine takeD 19 24 undef (by exact rfl) rfl (by kernel_rfl) (by kernel_rfl) (by kernel_rfl) (fun _ _ _ h => h) (Or.inr ⟨by rfl, rfl⟩) (by assumption) ?_
  try simp only [Act.put, List.setIfInBounds_toArray, List.set_cons_zero, List.set_cons_succ]
  refine takeD 20 25 undef (by exact rfl) rfl (by kernel_rfl) (by kernel_rfl) (by kernel_rfl) (fun _ _ _ h => h) (Or.inr ⟨by rfl, rfl⟩) (by assumption) ?_
  try simp only [Act.put, List.setIfInBounds_toArray, List.set_cons_zero, List.set_cons_succ]
  refine takeD 21 26 undef (by exact rfl) rfl (by kernel_rfl) (by kernel_rfl) (by kernel_rfl) (fun _ _ _ h => h) (Or.inr ⟨by rfl, rfl⟩) (by assumption) ?_
  try simp only [Act.put, List.setIfInBounds_toArray, List.set_cons_zero, List.set_cons_succ]
  refine takeD 22 27 (.bool true) (by exact rfl) rfl (by kernel_rfl) (by kernel_rfl) (by kernel_rfl) (fun _ _ _ h => h) (Or.inl ⟨by rfl, ?_⟩) (by assumption) ?_
  · intro wq hS
    go_simp
  try simp only [Act.put, List.setIfInBounds_toArray, List.set_cons_zero, List.set_cons_succ]
  refine wpAnyH_done (by kernel_rfl) ?_ _
  refine NoPanic.normal ?_
  obtain ⟨hV, hU⟩ := hHeld
  have HV := (show Hid _ from hV)
  have HU := (show Hid _ from hU)
  clear hV hU
  go_wp2_with fail
  go_ret
  exact ⟨rfl, HV.out, HU.out⟩
set_option maxHeartbeats 1000000 in
theorem take_no (r : Nat) (s : ByteArray) (i m0 m1 : Nat) (b : Bool) (c : Int) (w : World) (V : VA w r (rc s i m0 m1 b) 85) (h : i < s.size) (hc : ¬ ((s[i].toNat : Nat) : Int) = c) :
    Calls Try.prog 37 #[.pointer (some ⟨r, 0, none⟩), .int .u8 c] w fun e w' => e = .returned (.bool false) ∧ VA w' r (rc s i m0 m1 b) 85 ∧ Upd r w w' := by
  have hq : ((i : Int) == (s.size : Int)) = false := by simp; omega
  have hq2 : (((s[i].toNat : Nat) : Int) != c) = true := by simp [hc]
  have U0 : Upd r w w.drew := ⟨rfl, rfl, rfl, rfl, fun _ _ => rfl⟩
  have HV := (show Hid _ from V)
  have HU := (show Hid _ from U0)
  go_enter Try.func37, Try.ntmps37
  go_upto_region 1 with fail
  refine wp_region_noPanic ?_
  refine wp_region_held_drew (S := fun w' => VA w' r (rc s i m0 m1 b) 85 ∧ Upd r w w') (by kernel_rfl) ⟨HV.out.drew, HU.out⟩ (fun hHeld => ?_)
  clear V U0 HU HV
  generalize w.drew = wz at *
  refine takeD 0 5 (.pointer (some ⟨r, 0, none⟩)) (by exact rfl) rfl (by kernel_rfl) (by kernel_rfl) (by kernel_rfl) (fun _ _ _ h => h) (Or.inl ⟨by rfl, ?_⟩) (by assumption) ?_
  · intro wq hS
    go_simp
  try simp only [Act.put, List.setIfInBounds_toArray, List.set_cons_zero, List.set_cons_succ]
  refine takeD 1 6 (.pointer (some ⟨r, 0, none⟩)) (by exact rfl) rfl (by kernel_rfl) (by kernel_rfl) (by kernel_rfl) (fun _ _ _ h => h) (Or.inl ⟨by rfl, ?_⟩) (by assumption) ?_
  · intro wq hS
    go_simp
  try simp only [Act.put, List.setIfInBounds_toArray, List.set_cons_zero, List.set_cons_succ]
  refine takeD 2 7 (.pointer (some ⟨r, 1, none⟩)) (by exact rfl) rfl (by kernel_rfl) (by kernel_rfl) (by kernel_rfl) (fun _ _ _ h => h) (Or.inl ⟨by rfl, ?_⟩) (by assumption) ?_
  · intro wq hS
    go_simp
  try simp only [Act.put, List.setIfInBounds_toArray, List.set_cons_zero, List.set_cons_succ]
  refine takeD 3 8 (.int .i64 (i : Int)) (by exact rfl) rfl (by kernel_rfl) (by kernel_rfl) (by kernel_rfl) (fun _ _ _ h => h) (Or.inl ⟨by rfl, ?_⟩) (by assumption) ?_
  · intro wq hS
    have h0 := hS.1.cell 1 (v := .int .i64 (i : Int)) rfl
    go_simp
  try simp only [Act.put, List.setIfInBounds_toArray, List.set_cons_zero, List.set_cons_succ]
  refine takeD 4 9 (.pointer (some ⟨r, 0, none⟩)) (by exact rfl) rfl (by kernel_rfl) (by kernel_rfl) (by kernel_rfl) (fun _ _ _ h => h) (Or.inl ⟨by rfl, ?_⟩) (by assumption) ?_
  · intro wq hS
    go_simp
  try simp only [Act.put, List.setIfInBounds_toArray, List.set_cons_zero, List.set_cons_succ]
  refine takeD 5 10 (.pointer (some ⟨r, 0, none⟩)) (by exact rfl) rfl (by kernel_rfl) (by kernel_rfl) (by kernel_rfl) (fun _ _ _ h => h) (Or.inl ⟨by rfl, ?_⟩) (by assumption) ?_
  · intro wq hS
    go_simp
  try simp only [Act.put, List.setIfInBounds_toArray, List.set_cons_zero, List.set_cons_succ]
  refine takeD 6 11 (.pointer (some ⟨r, 0, none⟩)) (by exact rfl) rfl (by kernel_rfl) (by kernel_rfl) (by kernel_rfl) (fun _ _ _ h => h) (Or.inl ⟨by rfl, ?_⟩) (by assumption) ?_
  · intro wq hS
    go_simp
  try simp only [Act.put, List.setIfInBounds_toArray, List.set_cons_zero, List.set_cons_succ]
  refine takeD 7 12 (.string s) (by exact rfl) rfl (by kernel_rfl) (by kernel_rfl) (by kernel_rfl) (fun _ _ _ h => h) (Or.inl ⟨by rfl, ?_⟩) (by assumption) ?_
  · intro wq hS
    have h0 := hS.1.cell 0 (v := .string s) rfl
    go_simp
  try simp only [Act.put, List.setIfInBounds_toArray, List.set_cons_zero, List.set_cons_succ]
  refine takeD 8 13 (.int .i64 (s.size : Int)) (by exact rfl) rfl (by kernel_rfl) (by kernel_rfl) (by kernel_rfl) (fun _ _ _ h => h) (Or.inl ⟨by rfl, ?_⟩) (by assumption) ?_
  · intro wq hS
    go_simp
  try simp only [Act.put, List.setIfInBounds_toArray, List.set_cons_zero, List.set_cons_succ]
  refine takeD 9 14 (.bool false) (by exact rfl) rfl (by kernel_rfl) (by kernel_rfl) (by kernel_rfl) (fun _ _ _ h => h) (Or.inl ⟨by rfl, ?_⟩) (by assumption) ?_
  · intro wq hS
    go_simp
  try simp only [Act.put, List.setIfInBounds_toArray, List.set_cons_zero, List.set_cons_succ]
  refine takeD 10 15 (.bool false) (by exact rfl) rfl (by kernel_rfl) (by kernel_rfl) (by kernel_rfl) (fun _ _ _ h => h) (Or.inl ⟨by rfl, ?_⟩) (by assumption) ?_
  · intro wq hS
    go_simp
  try simp only [Act.put, List.setIfInBounds_toArray, List.set_cons_zero, List.set_cons_succ]
  refine takeD 11 16 (.pointer (some ⟨r, 0, none⟩)) (by exact rfl) rfl (by kernel_rfl) (by kernel_rfl) (by kernel_rfl) (fun _ _ _ h => h) (Or.inl ⟨by rfl, ?_⟩) (by assumption) ?_
  · intro wq hS
    go_simp
  try simp only [Act.put, List.setIfInBounds_toArray, List.set_cons_zero, List.set_cons_succ]
  refine takeD 12 17 (.pointer (some ⟨r, 0, none⟩)) (by exact rfl) rfl (by kernel_rfl) (by kernel_rfl) (by kernel_rfl) (fun _ _ _ h => h) (Or.inl ⟨by rfl, ?_⟩) (by assumption) ?_
  · intro wq hS
    go_simp
  try simp only [Act.put, List.setIfInBounds_toArray, List.set_cons_zero, List.set_cons_succ]
  refine takeD 13 18 (.pointer (some ⟨r, 0, none⟩)) (by exact rfl) rfl (by kernel_rfl) (by kernel_rfl) (by kernel_rfl) (fun _ _ _ h => h) (Or.inl ⟨by rfl, ?_⟩) (by assumption) ?_
  · intro wq hS
    go_simp
  try simp only [Act.put, List.setIfInBounds_toArray, List.set_cons_zero, List.set_cons_succ]
  refine takeD 14 19 (.string s) (by exact rfl) rfl (by kernel_rfl) (by kernel_rfl) (by kernel_rfl) (fun _ _ _ h => h) (Or.inl ⟨by rfl, ?_⟩) (by assumption) ?_
  · intro wq hS
    have h0 := hS.1.cell 0 (v := .string s) rfl
    go_simp
  try simp only [Act.put, List.setIfInBounds_toArray, List.set_cons_zero, List.set_cons_succ]
  refine takeD 15 20 (.pointer (some ⟨r, 0, none⟩)) (by exact rfl) rfl (by kernel_rfl) (by kernel_rfl) (by kernel_rfl) (fun _ _ _ h => h) (Or.inl ⟨by rfl, ?_⟩) (by assumption) ?_
  · intro wq hS
    go_simp
  try simp only [Act.put, List.setIfInBounds_toArray, List.set_cons_zero, List.set_cons_succ]
  refine takeD 16 21 (.pointer (some ⟨r, 0, none⟩)) (by exact rfl) rfl (by kernel_rfl) (by kernel_rfl) (by kernel_rfl) (fun _ _ _ h => h) (Or.inl ⟨by rfl, ?_⟩) (by assumption) ?_
  · intro wq hS
    go_simp
  try simp only [Act.put, List.setIfInBounds_toArray, List.set_cons_zero, List.set_cons_succ]
  refine takeD 17 22 (.pointer (some ⟨r, 1, none⟩)) (by exact rfl) rfl (by kernel_rfl) (by kernel_rfl) (by kernel_rfl) (fun _ _ _ h => h) (Or.inl ⟨by rfl, ?_⟩) (by assumption) ?_
  · intro wq hS
    go_simp
  try simp only [Act.put, List.setIfInBounds_toArray, List.set_cons_zero, List.set_cons_succ]
  refine takeD 18 23 (.int .i64 (i : Int)) (by exact rfl) rfl (by kernel_rfl) (by kernel_rfl) (by kernel_rfl) (fun _ _ _ h => h) (Or.inl ⟨by rfl, ?_⟩) (by assumption) ?_
  · intro wq hS
    have h0 := hS.1.cell 1 (v := .int .i64 (i : Int)) rfl
    go_simp
  try simp only [Act.put, List.setIfInBounds_toArray, List.set_cons_zero, List.set_cons_succ]
  refine takeD 19 24 (.int .u8 ((s[i].toNat : Nat) : Int)) (by exact rfl) rfl (by kernel_rfl) (by kernel_rfl) (by kernel_rfl) (fun _ _ _ h => h) (Or.inl ⟨by rfl, ?_⟩) (by assumption) ?_
  · intro wq hS
    go_simp
  try simp only [Act.put, List.setIfInBounds_toArray, List.set_cons_zero, List.set_cons_succ]
  refine takeD 20 25 (.int .u8 c) (by exact rfl) rfl (by kernel_rfl) (by kernel_rfl) (by kernel_rfl) (fun _ _ _ h => h) (Or.inl ⟨by rfl, ?_⟩) (by assumption) ?_
  · intro wq hS
    go_simp
  try simp only [Act.put, List.setIfInBounds_toArray, List.set_cons_zero, List.set_cons_succ]
  refine takeD 21 26 (.bool true) (by exact rfl) rfl (by kernel_rfl) (by kernel_rfl) (by kernel_rfl) (fun _ _ _ h => h) (Or.inl ⟨by rfl, ?_⟩) (by assumption) ?_
  · intro wq hS
    go_simp
  try simp only [Act.put, List.setIfInBounds_toArray, List.set_cons_zero, List.set_cons_succ]
  refine takeD 22 27 (.bool true) (by exact rfl) rfl (by kernel_rfl) (by kernel_rfl) (by kernel_rfl) (fun _ _ _ h => h) (Or.inl ⟨by rfl, ?_⟩) (by assumption) ?_
  · intro wq hS
    go_simp
  try simp only [Act.put, List.setIfInBounds_toArray, List.set_cons_zero, List.set_cons_succ]
  refine wpAnyH_done (by kernel_rfl) ?_ _
  refine NoPanic.normal ?_
  obtain ⟨hV, hU⟩ := hHeld
  have HV := (show Hid _ from hV)
  have HU := (show Hid _ from hU)
  clear hV hU
  go_wp2_with fail
  go_ret
  exact ⟨rfl, HV.out, HU.out⟩
set_option maxHeartbeats 1000000 in
theorem take_yes (r : Nat) (s : ByteArray) (i m0 m1 : Nat) (b : Bool) (c : Int) (w : World) (V : VA w r (rc s i m0 m1 b) 85) (h : i < s.size) (hc : ((s[i].toNat : Nat) : Int) = c) (hb : s.size ≤ 64) :
    Calls Try.prog 37 #[.pointer (some ⟨r, 0, none⟩), .int .u8 c] w fun e w' => e = .returned (.bool true) ∧ VA w' r (rc s (i + 1) m0 m1 b) 85 ∧ Upd r w w' := by
  have hq : ((i : Int) == (s.size : Int)) = false := by simp; omega
  have hq2 : (((s[i].toNat : Nat) : Int) != c) = false := by simp [hc]
  clear hc
  have U0 : Upd r w w.drew := ⟨rfl, rfl, rfl, rfl, fun _ _ => rfl⟩
  have HV := (show Hid _ from V)
  have HU := (show Hid _ from U0)
  go_enter Try.func37, Try.ntmps37
  go_upto_region 1 with fail
  refine wp_region_noPanic ?_
  refine wp_region_held_drew (S := fun w' => VA w' r (rc s i m0 m1 b) 85 ∧ Upd r w w') (by kernel_rfl) ⟨HV.out.drew, HU.out⟩ (fun hHeld => ?_)
  clear V U0 HU HV
  generalize w.drew = wz at *
  refine takeD 0 5 (.pointer (some ⟨r, 0, none⟩)) (by exact rfl) rfl (by kernel_rfl) (by kernel_rfl) (by kernel_rfl) (fun _ _ _ h => h) (Or.inl ⟨by rfl, ?_⟩) (by assumption) ?_
  · intro wq hS
    go_simp
  try simp only [Act.put, List.setIfInBounds_toArray, List.set_cons_zero, List.set_cons_succ]
  refine takeD 1 6 (.pointer (some ⟨r, 0, none⟩)) (by exact rfl) rfl (by kernel_rfl) (by kernel_rfl) (by kernel_rfl) (fun _ _ _ h => h) (Or.inl ⟨by rfl, ?_⟩) (by assumption) ?_
  · intro wq hS
    go_simp
  try simp only [Act.put, List.setIfInBounds_toArray, List.set_cons_zero, List.set_cons_succ]
  refine takeD 2 7 (.pointer (some ⟨r, 1, none⟩)) (by exact rfl) rfl (by kernel_rfl) (by kernel_rfl) (by kernel_rfl) (fun _ _ _ h => h) (Or.inl ⟨by rfl, ?_⟩) (by assumption) ?_
  · intro wq hS
    go_simp
  try simp only [Act.put, List.setIfInBounds_toArray, List.set_cons_zero, List.set_cons_succ]
  refine takeD 3 8 (.int .i64 (i : Int)) (by exact rfl) rfl (by kernel_rfl) (by kernel_rfl) (by kernel_rfl) (fun _ _ _ h => h) (Or.inl ⟨by rfl, ?_⟩) (by assumption) ?_
  · intro wq hS
    have h0 := hS.1.cell 1 (v := .int .i64 (i : Int)) rfl
    go_simp
  try simp only [Act.put, List.setIfInBounds_toArray, List.set_cons_zero, List.set_cons_succ]
  refine takeD 4 9 (.pointer (some ⟨r, 0, none⟩)) (by exact rfl) rfl (by kernel_rfl) (by kernel_rfl) (by kernel_rfl) (fun _ _ _ h => h) (Or.inl ⟨by rfl, ?_⟩) (by assumption) ?_
  · intro wq hS
    go_simp
  try simp only [Act.put, List.setIfInBounds_toArray, List.set_cons_zero, List.set_cons_succ]
  refine takeD 5 10 (.pointer (some ⟨r, 0, none⟩)) (by exact rfl) rfl (by kernel_rfl) (by kernel_rfl) (by kernel_rfl) (fun _ _ _ h => h) (Or.inl ⟨by rfl, ?_⟩) (by assumption) ?_
  · intro wq hS
    go_simp
  try simp only [Act.put, List.setIfInBounds_toArray, List.set_cons_zero, List.set_cons_succ]
  refine takeD 6 11 (.pointer (some ⟨r, 0, none⟩)) (by exact rfl) rfl (by kernel_rfl) (by kernel_rfl) (by kernel_rfl) (fun _ _ _ h => h) (Or.inl ⟨by rfl, ?_⟩) (by assumption) ?_
  · intro wq hS
    go_simp
  try simp only [Act.put, List.setIfInBounds_toArray, List.set_cons_zero, List.set_cons_succ]
  refine takeD 7 12 (.string s) (by exact rfl) rfl (by kernel_rfl) (by kernel_rfl) (by kernel_rfl) (fun _ _ _ h => h) (Or.inl ⟨by rfl, ?_⟩) (by assumption) ?_
  · intro wq hS
    have h0 := hS.1.cell 0 (v := .string s) rfl
    go_simp
  try simp only [Act.put, List.setIfInBounds_toArray, List.set_cons_zero, List.set_cons_succ]
  refine takeD 8 13 (.int .i64 (s.size : Int)) (by exact rfl) rfl (by kernel_rfl) (by kernel_rfl) (by kernel_rfl) (fun _ _ _ h => h) (Or.inl ⟨by rfl, ?_⟩) (by assumption) ?_
  · intro wq hS
    go_simp
  try simp only [Act.put, List.setIfInBounds_toArray, List.set_cons_zero, List.set_cons_succ]
  refine takeD 9 14 (.bool false) (by exact rfl) rfl (by kernel_rfl) (by kernel_rfl) (by kernel_rfl) (fun _ _ _ h => h) (Or.inl ⟨by rfl, ?_⟩) (by assumption) ?_
  · intro wq hS
    go_simp
  try simp only [Act.put, List.setIfInBounds_toArray, List.set_cons_zero, List.set_cons_succ]
  refine takeD 10 15 (.bool false) (by exact rfl) rfl (by kernel_rfl) (by kernel_rfl) (by kernel_rfl) (fun _ _ _ h => h) (Or.inl ⟨by rfl, ?_⟩) (by assumption) ?_
  · intro wq hS
    go_simp
  try simp only [Act.put, List.setIfInBounds_toArray, List.set_cons_zero, List.set_cons_succ]
  refine takeD 11 16 (.pointer (some ⟨r, 0, none⟩)) (by exact rfl) rfl (by kernel_rfl) (by kernel_rfl) (by kernel_rfl) (fun _ _ _ h => h) (Or.inl ⟨by rfl, ?_⟩) (by assumption) ?_
  · intro wq hS
    go_simp
  try simp only [Act.put, List.setIfInBounds_toArray, List.set_cons_zero, List.set_cons_succ]
  refine takeD 12 17 (.pointer (some ⟨r, 0, none⟩)) (by exact rfl) rfl (by kernel_rfl) (by kernel_rfl) (by kernel_rfl) (fun _ _ _ h => h) (Or.inl ⟨by rfl, ?_⟩) (by assumption) ?_
  · intro wq hS
    go_simp
  try simp only [Act.put, List.setIfInBounds_toArray, List.set_cons_zero, List.set_cons_succ]
  refine takeD 13 18 (.pointer (some ⟨r, 0, none⟩)) (by exact rfl) rfl (by kernel_rfl) (by kernel_rfl) (by kernel_rfl) (fun _ _ _ h => h) (Or.inl ⟨by rfl, ?_⟩) (by assumption) ?_
  · intro wq hS
    go_simp
  try simp only [Act.put, List.setIfInBounds_toArray, List.set_cons_zero, List.set_cons_succ]
  refine takeD 14 19 (.string s) (by exact rfl) rfl (by kernel_rfl) (by kernel_rfl) (by kernel_rfl) (fun _ _ _ h => h) (Or.inl ⟨by rfl, ?_⟩) (by assumption) ?_
  · intro wq hS
    have h0 := hS.1.cell 0 (v := .string s) rfl
    go_simp
  try simp only [Act.put, List.setIfInBounds_toArray, List.set_cons_zero, List.set_cons_succ]
  refine takeD 15 20 (.pointer (some ⟨r, 0, none⟩)) (by exact rfl) rfl (by kernel_rfl) (by kernel_rfl) (by kernel_rfl) (fun _ _ _ h => h) (Or.inl ⟨by rfl, ?_⟩) (by assumption) ?_
  · intro wq hS
    go_simp
  try simp only [Act.put, List.setIfInBounds_toArray, List.set_cons_zero, List.set_cons_succ]
  refine takeD 16 21 (.pointer (some ⟨r, 0, none⟩)) (by exact rfl) rfl (by kernel_rfl) (by kernel_rfl) (by kernel_rfl) (fun _ _ _ h => h) (Or.inl ⟨by rfl, ?_⟩) (by assumption) ?_
  · intro wq hS
    go_simp
  try simp only [Act.put, List.setIfInBounds_toArray, List.set_cons_zero, List.set_cons_succ]
  refine takeD 17 22 (.pointer (some ⟨r, 1, none⟩)) (by exact rfl) rfl (by kernel_rfl) (by kernel_rfl) (by kernel_rfl) (fun _ _ _ h => h) (Or.inl ⟨by rfl, ?_⟩) (by assumption) ?_
  · intro wq hS
    go_simp
  try simp only [Act.put, List.setIfInBounds_toArray, List.set_cons_zero, List.set_cons_succ]
  refine takeD 18 23 (.int .i64 (i : Int)) (by exact rfl) rfl (by kernel_rfl) (by kernel_rfl) (by kernel_rfl) (fun _ _ _ h => h) (Or.inl ⟨by rfl, ?_⟩) (by assumption) ?_
  · intro wq hS
    have h0 := hS.1.cell 1 (v := .int .i64 (i : Int)) rfl
    go_simp
  try simp only [Act.put, List.setIfInBounds_toArray, List.set_cons_zero, List.set_cons_succ]
  refine takeD 19 24 (.int .u8 ((s[i].toNat : Nat) : Int)) (by exact rfl) rfl (by kernel_rfl) (by kernel_rfl) (by kernel_rfl) (fun _ _ _ h => h) (Or.inl ⟨by rfl, ?_⟩) (by assumption) ?_
  · intro wq hS
    go_simp
  try simp only [Act.put, List.setIfInBounds_toArray, List.set_cons_zero, List.set_cons_succ]
  refine takeD 20 25 (.int .u8 c) (by exact rfl) rfl (by kernel_rfl) (by kernel_rfl) (by kernel_rfl) (fun _ _ _ h => h) (Or.inl ⟨by rfl, ?_⟩) (by assumption) ?_
  · intro wq hS
    go_simp
  try simp only [Act.put, List.setIfInBounds_toArray, List.set_cons_zero, List.set_cons_succ]
  refine takeD 21 26 (.bool false) (by exact rfl) rfl (by kernel_rfl) (by kernel_rfl) (by kernel_rfl) (fun _ _ _ h => h) (Or.inl ⟨by rfl, ?_⟩) (by assumption) ?_
  · intro wq hS
    go_simp
  try simp only [Act.put, List.setIfInBounds_toArray, List.set_cons_zero, List.set_cons_succ]
  refine takeD 22 27 (.bool false) (by exact rfl) rfl (by kernel_rfl) (by kernel_rfl) (by kernel_rfl) (fun _ _ _ h => h) (Or.inl ⟨by rfl, ?_⟩) (by assumption) ?_
  · intro wq hS
    go_simp
  try simp only [Act.put, List.setIfInBounds_toArray, List.set_cons_zero, List.set_cons_succ]
  refine wpAnyH_done (by kernel_rfl) ?_ _
  refine NoPanic.normal ?_
  obtain ⟨hV, hU⟩ := hHeld
  have HV := (show Hid _ from hV)
  have HU := (show Hid _ from hU)
  have a1 := hV.cell 1 (v := .int .i64 (i : Int)) rfl
  have f1 := hV.free 1
  clear hV hU
  go_wp2_with fail
  go_ret
  refine ⟨rfl, ?_, HU.out.trans (upd_set wz r 1 _)⟩
  have := HV.out.set 1 (.int .i64 ((i + 1 : Nat) : Int))
  simpa [rc] using this
end Go.Proofs.Ytgcmbiahakampaa
/- digits: the reader: keep. -/
namespace Go.Proofs.Ytgcmbiahakampaa
open Go.RowKit
set_option linter.unusedVariables false
set_option linter.unusedSimpArgs false

theorem keep_beyond (r : Nat) (s : ByteArray) (i m0 m1 : Nat) (d : Int) (w : World) (V : VA w r (rc s i m0 m1 true) 85) :
    Calls Try.prog 59 #[.pointer (some ⟨r, 0, none⟩), .int .u8 d] w fun e w' => e = .returned (.tuple #[]) ∧ VA w' r (rc s i m0 m1 true) 85 ∧ Below r w w' := by
  have b1 := V.cell 4 (v := .bool true) rfl
  have HV := (show Hid _ from V)
  clear V
  go_enter Try.func59, Try.ntmps59
  go_wp2_with fail
  first | exact bodyPost_end (v := .tuple #[]) (by simp [results, Try.results59, go_sem]) rfl ⟨rfl, HV.out, Below.refl _ _⟩ | exact bodyPost_ret (v := .tuple #[]) (by simp [results, Try.results59, go_sem]) rfl ⟨rfl, HV.out, Below.refl _ _⟩
set_option maxHeartbeats 1000000 in
theorem keep_ok (r : Nat) (s : ByteArray) (i m0 m1 l1 h3 : Nat) (d : Int) (w : World) (V : VA w r (rc s i m0 m1 false) 85)
    (hw : ∀ w, Calls Try.prog 62 #[.agg (zc m0 m1).toArray, .int .u8 d] w fun e w' => e = .returned (.tuple #[.agg (zc l1 h3).toArray, .bool true]) ∧ Below w.heap.size w w') :
    Calls Try.prog 59 #[.pointer (some ⟨r, 0, none⟩), .int .u8 d] w fun e w' => e = .returned (.tuple #[]) ∧ VA w' r (rc s i l1 h3 false) 85 ∧ Below r w w' := by
  have b1 := V.cell 4 (v := .bool false) rfl
  have s0 := V.cell 2 (v := .int .u64 (m0 : Int)) rfl
  have s1 := V.cell 3 (v := .int .u64 (m1 : Int)) rfl
  have HL : Hid (r < w.heap.size) := V.lt
  have HV := (show Hid _ from V)
  clear V
  simp only [zc] at hw
  go_enter Try.func59, Try.ntmps59
  go_wp2_with fail
  clear b1 s0 s1
  refine (hw _).mono ?_
  rintro e w1 ⟨rfl, b1⟩
  have HV1 := (show Hid _ from HV.out.step b1)
  have HB1 := (show Hid (Below r w w1) from b1.mono (Nat.le_of_lt HL.out))
  have HL1 : Hid (r < w1.heap.size) := Nat.lt_of_lt_of_le HL.out b1.size
  clear b1 HV HL
  go_upto_region 2 with fail
  change Code.wp _ _ _ _ (w1.alloc (.cells (zc l1 h3).toArray 48))
  have HN := (show Hid _ from va_new w1 (zc l1 h3) 48)
  have HV2 := (show Hid _ from HV1.out.alloc (.cells (zc l1 h3).toArray 48))
  have HB2 := (show Hid _ from HB1.out.alloc (Nat.le_of_lt HL1.out) (.cells (zc l1 h3).toArray 48))
  clear HV1 HB1
  obtain ⟨q, hq⟩ : ∃ q, q = w1.heap.size := ⟨_, rfl⟩
  rw [← hq] at HN HL1
  rw [← hq]
  generalize w1.alloc (.cells (zc l1 h3).toArray 48) = w2 at *
  clear hq
  have n0 := HN.out.cell 0 (v := .int .u64 (l1 : Int)) rfl
  have n1 := HN.out.cell 1 (v := .int .u64 (h3 : Int)) rfl
  have r2 := HV2.out.cell 2 (v := .int .u64 (m0 : Int)) rfl
  have f2 := HV2.out.free 2
  have V3 := HV2.out.set 2 (.int .u64 (l1 : Int))
  have r3 := V3.cell 3 (v := .int .u64 (m1 : Int)) rfl
  have f3 := V3.free 3
  have HV4 := (show Hid _ from V3.set 3 (.int .u64 (h3 : Int)))
  have HB4 := (show Hid _ from (HB2.out.setCell (p := ⟨r, 2, none⟩) (Nat.le_refl _) (.int .u64 (l1 : Int))).setCell (p := ⟨r, 3, none⟩) (Nat.le_refl _) (.int .u64 (h3 : Int)))
  clear V3
  go_wp2_with fail
  first | exact bodyPost_end (v := .tuple #[]) (by simp [results, Try.results59, go_sem]) rfl ⟨rfl, HV4.out, HB4.out⟩ | exact bodyPost_ret (v := .tuple #[]) (by simp [results, Try.results59, go_sem]) rfl ⟨rfl, HV4.out, HB4.out⟩
set_option maxHeartbeats 1000000 in
theorem keep_over (r : Nat) (s : ByteArray) (i m0 m1 l1 h3 : Nat) (d : Int) (w : World) (V : VA w r (rc s i m0 m1 false) 85)
    (hw : ∀ w, Calls Try.prog 62 #[.agg (zc m0 m1).toArray, .int .u8 d] w fun e w' => e = .returned (.tuple #[.agg (zc l1 h3).toArray, .bool false]) ∧ Below w.heap.size w w') :
    Calls Try.prog 59 #[.pointer (some ⟨r, 0, none⟩), .int .u8 d] w fun e w' => e = .returned (.tuple #[]) ∧ VA w' r (rc s i m0 m1 true) 85 ∧ Below r w w' := by
  have b1 := V.cell 4 (v := .bool false) rfl
  have s0 := V.cell 2 (v := .int .u64 (m0 : Int)) rfl
  have s1 := V.cell 3 (v := .int .u64 (m1 : Int)) rfl
  have HL : Hid (r < w.heap.size) := V.lt
  have HV := (show Hid _ from V)
  clear V
  simp only [zc] at hw
  go_enter Try.func59, Try.ntmps59
  go_wp2_with fail
  clear b1 s0 s1
  refine (hw _).mono ?_
  rintro e w1 ⟨rfl, b1⟩
  have HV1 := (show Hid _ from HV.out.step b1)
  have HB1 := (show Hid (Below r w w1) from b1.mono (Nat.le_of_lt HL.out))
  have HL1 : Hid (r < w1.heap.size) := Nat.lt_of_lt_of_le HL.out b1.size
  clear b1 HV HL
  go_upto_region 2 with fail
  change Code.wp _ _ _ _ (w1.alloc (.cells (zc l1 h3).toArray 48))
  have HN := (show Hid _ from va_new w1 (zc l1 h3) 48)
  have HV2 := (show Hid _ from HV1.out.alloc (.cells (zc l1 h3).toArray 48))
  have HB2 := (show Hid _ from HB1.out.alloc (Nat.le_of_lt HL1.out) (.cells (zc l1 h3).toArray 48))
  clear HV1 HB1
  obtain ⟨q, hq⟩ : ∃ q, q = w1.heap.size := ⟨_, rfl⟩
  rw [← hq] at HN HL1
  rw [← hq]
  generalize w1.alloc (.cells (zc l1 h3).toArray 48) = w2 at *
  clear hq
  have r4 := HV2.out.cell 4 (v := .bool false) rfl
  have f4 := HV2.out.free 4
  have HV4 := (show Hid _ from HV2.out.set 4 (.bool true))
  have HB4 := (show Hid _ from HB2.out.setCell (p := ⟨r, 4, none⟩) (Nat.le_refl _) (.bool true))
  go_wp2_with fail
  first | exact bodyPost_end (v := .tuple #[]) (by simp [results, Try.results59, go_sem]) rfl ⟨rfl, HV4.out, HB4.out⟩ | exact bodyPost_ret (v := .tuple #[]) (by simp [results, Try.results59, go_sem]) rfl ⟨rfl, HV4.out, HB4.out⟩
end Go.Proofs.Ytgcmbiahakampaa
