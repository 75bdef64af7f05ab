/- digits: withDigit: ten times a size, and a digit. -/
import Derived.Test.YteohncnjjgoemaaGreatDoorJa
import Derived.Test.YteohncnjjgoemaaGreatDoorM5
import Derived.WalkLawsBesides
namespace Go.Proofs.YteohncnjjgoemaaGreatDoor.dg
open Go.RowKit
set_option linter.unusedVariables false
set_option linter.unusedSimpArgs false

/-- what withDigit answers: the two words of 10 M + d, and whether they are those of a coefficient -/
theorem wdig_go (m0 m1 d l0 h0 l1 c1 b2 h2 h3 c3 : Nat) (ok : Bool) (w : World) (hd9 : d ≤ 9) (hm0 : m0 < 18446744073709551616) (hm1 : m1 < 18446744073709551616)
    (e1 : h0 = m0 * 10 / 18446744073709551616) (e2 : l0 = m0 * 10 % 18446744073709551616) (e3 : l1 = (l0 + d) % 18446744073709551616) (e4 : c1 = (l0 + d) / 18446744073709551616)
    (e5 : b2 = m1 * 10 / 18446744073709551616) (e6 : h2 = m1 * 10 % 18446744073709551616) (e7 : h3 = (h2 + h0 + c1) % 18446744073709551616) (e8 : c3 = (h2 + h0 + c1) / 18446744073709551616)
    (eo : ok = (decide (b2 = 0) && decide (c3 = 0) && decide (h3 < 9223372036854775808))) :
    Calls Tryz.prog 114 #[.agg (zc m0 m1).toArray, .int .u8 (d : Int)] w fun e w' => e = .returned (.tuple #[.agg (zc l1 h3).toArray, .bool ok]) ∧ Below w.heap.size w w' := by
  have M1 : ∀ w, Calls Tryz.prog 57 #[.int .u64 (m0 : Int), .int .u64 10] w fun e w' => e = .returned (.tuple #[.int .u64 (h0 : Int), .int .u64 (l0 : Int)]) ∧ w' = w := fun w => by
    have := mul64_any m0 10 w hm0 (by decide)
    rw [← e1, ← e2] at this
    exact this
  have M2 : ∀ w, Calls Tryz.prog 57 #[.int .u64 (m1 : Int), .int .u64 10] w fun e w' => e = .returned (.tuple #[.int .u64 (b2 : Int), .int .u64 (h2 : Int)]) ∧ w' = w := fun w => by
    have := mul64_any m1 10 w hm1 (by decide)
    rw [← e5, ← e6] at this
    exact this
  have c1b : c1 ≤ 1 := by omega
  have A1 : ∀ w, (callFunc 109 #[.int .u64 (l0 : Int), .int .u64 (d : Int), .int .u64 0]).run Tryz.prog w = .ok (.value (.tuple #[.int .u64 (l1 : Int), .int .u64 (c1 : Int)])) w := fun w => by
    rw [run_Add64 _ _ _ (by omega) (by omega) (by omega) (by omega), show ((l0 : Int) + d + 0) % 18446744073709551616 = l1 by omega, show ((l0 : Int) + d + 0) / 18446744073709551616 = c1 by omega]
  have A2 : ∀ w, (callFunc 109 #[.int .u64 (h2 : Int), .int .u64 (h0 : Int), .int .u64 (c1 : Int)]).run Tryz.prog w = .ok (.value (.tuple #[.int .u64 (h3 : Int), .int .u64 (c3 : Int)])) w := fun w => by
    rw [run_Add64 _ _ _ (by omega) (by omega) (by omega) (by omega), show ((h2 : Int) + h0 + c1) % 18446744073709551616 = h3 by omega, show ((h2 : Int) + h0 + c1) / 18446744073709551616 = c3 by omega]
  have VN_0 := (show Hid _ from (va_new w (zc m0 m1) 77).alloc (.cells (zc 0 0).toArray 77))
  have VR_0 := (show Hid _ from va_new (w.alloc (.cells (zc m0 m1).toArray 77)) (zc 0 0) 77)
  rw [show (w.alloc (.cells (zc m0 m1).toArray 77)).heap.size = w.heap.size + 1 by simp] at VR_0
  have BB_0 := (show Hid _ from ((Below.refl w.heap.size w).alloc (Nat.le_refl _) (.cells (zc m0 m1).toArray 77)).alloc (by simp) (.cells (zc 0 0).toArray 77))
  have h3b : (h3 : Int) < 18446744073709551616 := by omega
  have HE := (show Hid _ from eo)
  have d9 : (d : Int) ≤ 9 := by omega
  clear e1 e2 e3 e4 e5 e6 e7 e8 eo
  go_enter Tryz.func114, Tryz.ntmps114
  have n0 := VN_0.out.cell 0 (v := .int .u64 (m0 : Int)) rfl
  have n1 := VN_0.out.cell 1 (v := .int .u64 (m1 : Int)) rfl
  go_upto_region 1 with fail
  change Code.wp _ _ _ _ ((w.alloc (.cells (zc m0 m1).toArray 77)).alloc (.cells (zc 0 0).toArray 77))
  generalize (w.alloc (.cells (zc m0 m1).toArray 77)).alloc (.cells (zc 0 0).toArray 77) = wa at *
  go_wp2_with fail
  refine (M1 _).mono ?_
  rintro e w1 ⟨rfl, hq⟩
  obtain rfl := hq.symm
  clear hq
  go_wp2_with fail
  refine (M2 _).mono ?_
  rintro e w1 ⟨rfl, hq⟩
  obtain rfl := hq.symm
  clear hq
  go_upto_region 5 with fail
  clear n0 n1 M1 M2 A1 A2
  by_cases hb : b2 = 0
  · have gb : (b2 : Int) = 0 := by omega
    by_cases hc : c3 = 0
    · have gc : (c3 : Int) = 0 := by omega
      by_cases hh : h3 < 9223372036854775808
      · have gh : (h3 : Int) / 9223372036854775808 = 0 := by omega
        have ht : ok = true := by rw [HE.out]; simp [hb, hc, hh]
        clear hb hc hh
        go_wp2_with (refine stA rfl 77 _ _ rfl (w.heap.size + 1) (by rfl) (zc 0 0) (zc l1 h3) (by rfl) 77 VR_0.out infoZ rfl (zc_one _ _) ?_; intro wf vf uf)
        have hld := run_loadVar_row (P := Tryz.prog) wf (w.heap.size + 1) 77 77 _ (0, 0) _ vf.blk Tryz.underlying77 rfl infoZ
        exact bodyPost_ret (v := .tuple #[.agg (zc l1 h3).toArray, .bool true]) (by simp [results, Tryz.results114, asAddr, hld]) rfl ⟨by rw [ht], uf.bel BB_0.out (by omega)⟩
      · have gh : ((h3 : Int) / 9223372036854775808 == 0) = false := by simp; omega
        have gh2 : ¬ (h3 : Int) / 9223372036854775808 = 0 := by omega
        have ht : ok = false := by rw [HE.out]; simp [hb, hc, hh]
        clear hb hc hh
        go_wp2_with (refine stA rfl 77 _ _ rfl (w.heap.size + 1) (by rfl) (zc 0 0) (zc l1 h3) (by rfl) 77 VR_0.out infoZ rfl (zc_one _ _) ?_; intro wf vf uf)
        have hld := run_loadVar_row (P := Tryz.prog) wf (w.heap.size + 1) 77 77 _ (0, 0) _ vf.blk Tryz.underlying77 rfl infoZ
        exact bodyPost_ret (v := .tuple #[.agg (zc l1 h3).toArray, .bool false]) (by simp [results, Tryz.results114, asAddr, hld]) rfl ⟨by rw [ht], uf.bel BB_0.out (by omega)⟩
    · have gc : ¬ (c3 : Int) = 0 := by omega
      have gc2 : ((c3 : Int) == 0) = false := by simp; omega
      have ht : ok = false := by rw [HE.out]; simp [hb, hc]
      clear hb hc
      go_wp2_with (refine stA rfl 77 _ _ rfl (w.heap.size + 1) (by rfl) (zc 0 0) (zc l1 h3) (by rfl) 77 VR_0.out infoZ rfl (zc_one _ _) ?_; intro wf vf uf)
      have hld := run_loadVar_row (P := Tryz.prog) wf (w.heap.size + 1) 77 77 _ (0, 0) _ vf.blk Tryz.underlying77 rfl infoZ
      exact bodyPost_ret (v := .tuple #[.agg (zc l1 h3).toArray, .bool false]) (by simp [results, Tryz.results114, asAddr, hld]) rfl ⟨by rw [ht], uf.bel BB_0.out (by omega)⟩
  · have gb : ¬ (b2 : Int) = 0 := by omega
    have gb2 : ((b2 : Int) == 0) = false := by simp; omega
    have ht : ok = false := by rw [HE.out]; simp [hb]
    clear hb
    go_wp2_with (refine stA rfl 77 _ _ rfl (w.heap.size + 1) (by rfl) (zc 0 0) (zc l1 h3) (by rfl) 77 VR_0.out infoZ rfl (zc_one _ _) ?_; intro wf vf uf)
    have hld := run_loadVar_row (P := Tryz.prog) wf (w.heap.size + 1) 77 77 _ (0, 0) _ vf.blk Tryz.underlying77 rfl infoZ
    exact bodyPost_ret (v := .tuple #[.agg (zc l1 h3).toArray, .bool false]) (by simp [results, Tryz.results114, asAddr, hld]) rfl ⟨by rw [ht], uf.bel BB_0.out (by omega)⟩
end Go.Proofs.YteohncnjjgoemaaGreatDoor.dg
/- digits: the reader: take. -/
namespace Go.Proofs.YteohncnjjgoemaaGreatDoor.dg
open Go.RowKit
set_option linter.unusedVariables false
set_option linter.unusedSimpArgs false

/-- a reader's cells: its text, its place, its size, whether it is beyond -/
def rc (s : ByteArray) (i m0 m1 : Nat) (b : Bool) : List Value := [.string s, .int .i64 (i : Int), .int .u64 (m0 : Int), .int .u64 (m1 : Int), .bool b]
set_option maxHeartbeats 1000000 in
theorem take_end (r : Nat) (s : ByteArray) (i m0 m1 : Nat) (b : Bool) (c : Int) (w : World) (V : VA w r (rc s i m0 m1 b) 131) (h : i = s.size) :
    Calls Tryz.prog 73 #[.pointer (some ⟨r, 0, none⟩), .int .u8 c] w fun e w' => e = .returned (.bool false) ∧ VA w' r (rc s i m0 m1 b) 131 ∧ Upd r w w' := by
  have hq : ((i : Int) == (s.size : Int)) = true := by simp; omega
  clear h
  have U0 : Upd r w w.drew := ⟨rfl, rfl, rfl, rfl, fun _ _ => rfl⟩
  have HV := (show Hid _ from V)
  have HU := (show Hid _ from U0)
  go_enter Tryz.func73, Tryz.ntmps73
  go_upto_region 1 with fail
  refine wp_region_noPanic ?_
  refine wp_region_held_drew (S := fun w' => VA w' r (rc s i m0 m1 b) 131 ∧ Upd r w w') (by kernel_rfl) ⟨HV.out.drew, HU.out⟩ (fun hHeld => ?_)
  clear V U0 HU HV
  generalize w.drew = wz at *
  refine takeD 0 5 (.pointer (some ⟨r, 0, none⟩)) (by exact rfl) rfl (by kernel_rfl) (by kernel_rfl) (by kernel_rfl) (fun _ _ _ h => h) (Or.inl ⟨by rfl, ?_⟩) (by assumption) ?_
  · intro wq hS
    go_simp
  try simp only [Act.put, List.setIfInBounds_toArray, List.set_cons_zero, List.set_cons_succ]
  refine takeD 1 6 (.pointer (some ⟨r, 0, none⟩)) (by exact rfl) rfl (by kernel_rfl) (by kernel_rfl) (by kernel_rfl) (fun _ _ _ h => h) (Or.inl ⟨by rfl, ?_⟩) (by assumption) ?_
  · intro wq hS
    go_simp
  try simp only [Act.put, List.setIfInBounds_toArray, List.set_cons_zero, List.set_cons_succ]
  refine takeD 2 7 (.pointer (some ⟨r, 1, none⟩)) (by exact rfl) rfl (by kernel_rfl) (by kernel_rfl) (by kernel_rfl) (fun _ _ _ h => h) (Or.inl ⟨by rfl, ?_⟩) (by assumption) ?_
  · intro wq hS
    go_simp
  try simp only [Act.put, List.setIfInBounds_toArray, List.set_cons_zero, List.set_cons_succ]
  refine takeD 3 8 (.int .i64 (i : Int)) (by exact rfl) rfl (by kernel_rfl) (by kernel_rfl) (by kernel_rfl) (fun _ _ _ h => h) (Or.inl ⟨by rfl, ?_⟩) (by assumption) ?_
  · intro wq hS
    have h0 := hS.1.cell 1 (v := .int .i64 (i : Int)) rfl
    go_simp
  try simp only [Act.put, List.setIfInBounds_toArray, List.set_cons_zero, List.set_cons_succ]
  refine takeD 4 9 (.pointer (some ⟨r, 0, none⟩)) (by exact rfl) rfl (by kernel_rfl) (by kernel_rfl) (by kernel_rfl) (fun _ _ _ h => h) (Or.inl ⟨by rfl, ?_⟩) (by assumption) ?_
  · intro wq hS
    go_simp
  try simp only [Act.put, List.setIfInBounds_toArray, List.set_cons_zero, List.set_cons_succ]
  refine takeD 5 10 (.pointer (some ⟨r, 0, none⟩)) (by exact rfl) rfl (by kernel_rfl) (by kernel_rfl) (by kernel_rfl) (fun _ _ _ h => h) (Or.inl ⟨by rfl, ?_⟩) (by assumption) ?_
  · intro wq hS
    go_simp
  try simp only [Act.put, List.setIfInBounds_toArray, List.set_cons_zero, List.set_cons_succ]
  refine takeD 6 11 (.pointer (some ⟨r, 0, none⟩)) (by exact rfl) rfl (by kernel_rfl) (by kernel_rfl) (by kernel_rfl) (fun _ _ _ h => h) (Or.inl ⟨by rfl, ?_⟩) (by assumption) ?_
  · intro wq hS
    go_simp
  try simp only [Act.put, List.setIfInBounds_toArray, List.set_cons_zero, List.set_cons_succ]
  refine takeD 7 12 (.string s) (by exact rfl) rfl (by kernel_rfl) (by kernel_rfl) (by kernel_rfl) (fun _ _ _ h => h) (Or.inl ⟨by rfl, ?_⟩) (by assumption) ?_
  · intro wq hS
    have h0 := hS.1.cell 0 (v := .string s) rfl
    go_simp
  try simp only [Act.put, List.setIfInBounds_toArray, List.set_cons_zero, List.set_cons_succ]
  refine takeD 8 13 (.int .i64 (s.size : Int)) (by exact rfl) rfl (by kernel_rfl) (by kernel_rfl) (by kernel_rfl) (fun _ _ _ h => h) (Or.inl ⟨by rfl, ?_⟩) (by assumption) ?_
  · intro wq hS
    go_simp
  try simp only [Act.put, List.setIfInBounds_toArray, List.set_cons_zero, List.set_cons_succ]
  refine takeD 9 14 (.bool true) (by exact rfl) rfl (by kernel_rfl) (by kernel_rfl) (by kernel_rfl) (fun _ _ _ h => h) (Or.inl ⟨by rfl, ?_⟩) (by assumption) ?_
  · intro wq hS
    go_simp
  try simp only [Act.put, List.setIfInBounds_toArray, List.set_cons_zero, List.set_cons_succ]
  refine takeD 10 15 (.bool true) (by exact rfl) rfl (by kernel_rfl) (by kernel_rfl) (by kernel_rfl) (fun _ _ _ h => h) (Or.inl ⟨by rfl, ?_⟩) (by assumption) ?_
  · intro wq hS
    go_simp
  try simp only [Act.put, List.setIfInBounds_toArray, List.set_cons_zero, List.set_cons_succ]
  refine takeD 11 16 undef (by exact rfl) rfl (by kernel_rfl) (by kernel_rfl) (by kernel_rfl) (fun _ _ _ h => h) (Or.inr ⟨by rfl, rfl⟩) (by assumption) ?_
  try simp only [Act.put, List.setIfInBounds_toArray, List.set_cons_zero, List.set_cons_succ]
  refine takeD 12 17 undef (by exact rfl) rfl (by kernel_rfl) (by kernel_rfl) (by kernel_rfl) (fun _ _ _ h => h) (Or.inr ⟨by rfl, rfl⟩) (by assumption) ?_
  try simp only [Act.put, List.setIfInBounds_toArray, List.set_cons_zero, List.set_cons_succ]
  refine takeD 13 18 undef (by exact rfl) rfl (by kernel_rfl) (by kernel_rfl) (by kernel_rfl) (fun _ _ _ h => h) (Or.inr ⟨by rfl, rfl⟩) (by assumption) ?_
  try simp only [Act.put, List.setIfInBounds_toArray, List.set_cons_zero, List.set_cons_succ]
  refine takeD 14 19 undef (by exact rfl) rfl (by kernel_rfl) (by kernel_rfl) (by kernel_rfl) (fun _ _ _ h => h) (Or.inr ⟨by rfl, rfl⟩) (by assumption) ?_
  try simp only [Act.put, List.setIfInBounds_toArray, List.set_cons_zero, List.set_cons_succ]
  refine takeD 15 20 undef (by exact rfl) rfl (by kernel_rfl) (by kernel_rfl) (by kernel_rfl) (fun _ _ _ h => h) (Or.inr ⟨by rfl, rfl⟩) (by assumption) ?_
  try simp only [Act.put, List.setIfInBounds_toArray, List.set_cons_zero, List.set_cons_succ]
  refine takeD 16 21 undef (by exact rfl) rfl (by kernel_rfl) (by kernel_rfl) (by kernel_rfl) (fun _ _ _ h => h) (Or.inr ⟨by rfl, rfl⟩) (by assumption) ?_
  try simp only [Act.put, List.setIfInBounds_toArray, List.set_cons_zero, List.set_cons_succ]
  refine takeD 17 22 undef (by exact rfl) rfl (by kernel_rfl) (by kernel_rfl) (by kernel_rfl) (fun _ _ _ h => h) (Or.inr ⟨by rfl, rfl⟩) (by assumption) ?_
  try simp only [Act.put, List.setIfInBounds_toArray, List.set_cons_zero, List.set_cons_succ]
  refine takeD 18 23 undef (by exact rfl) rfl (by kernel_rfl) (by kernel_rfl) (by kernel_rfl) (fun _ _ _ h => h) (Or.inr ⟨by rfl, rfl⟩) (by assumption) ?_
  try simp only [Act.put, List.setIfInBounds_toArray, List.set_cons_zero, List.set_cons_succ]
  refine takeD 19 24 undef (by exact rfl) rfl (by kernel_rfl) (by kernel_rfl) (by kernel_rfl) (fun _ _ _ h => h) (Or.inr ⟨by rfl, rfl⟩) (by assumption) ?_
  try simp only [Act.put, List.setIfInBounds_toArray, List.set_cons_zero, List.set_cons_succ]
  refine takeD 20 25 undef (by exact rfl) rfl (by kernel_rfl) (by kernel_rfl) (by kernel_rfl) (fun _ _ _ h => h) (Or.inr ⟨by rfl, rfl⟩) (by assumption) ?_
  try simp only [Act.put, List.setIfInBounds_toArray, List.set_cons_zero, List.set_cons_succ]
  refine takeD 21 26 undef (by exact rfl) rfl (by kernel_rfl) (by kernel_rfl) (by kernel_rfl) (fun _ _ _ h => h) (Or.inr ⟨by rfl, rfl⟩) (by assumption) ?_
  try simp only [Act.put, List.setIfInBounds_toArray, List.set_cons_zero, List.set_cons_succ]
  refine takeD 22 27 (.bool true) (by exact rfl) rfl (by kernel_rfl) (by kernel_rfl) (by kernel_rfl) (fun _ _ _ h => h) (Or.inl ⟨by rfl, ?_⟩) (by assumption) ?_
  · intro wq hS
    go_simp
  try simp only [Act.put, List.setIfInBounds_toArray, List.set_cons_zero, List.set_cons_succ]
  refine wpAnyH_done (by kernel_rfl) ?_ _
  refine NoPanic.normal ?_
  obtain ⟨hV, hU⟩ := hHeld
  have HV := (show Hid _ from hV)
  have HU := (show Hid _ from hU)
  clear hV hU
  go_wp2_with fail
  go_ret
  exact ⟨rfl, HV.out, HU.out⟩
set_option maxHeartbeats 1000000 in
theorem take_no (r : Nat) (s : ByteArray) (i m0 m1 : Nat) (b : Bool) (c : Int) (w : World) (V : VA w r (rc s i m0 m1 b) 131) (h : i < s.size) (hc : ¬ ((s[i].toNat : Nat) : Int) = c) :
    Calls Tryz.prog 73 #[.pointer (some ⟨r, 0, none⟩), .int .u8 c] w fun e w' => e = .returned (.bool false) ∧ VA w' r (rc s i m0 m1 b) 131 ∧ Upd r w w' := by
  have hq : ((i : Int) == (s.size : Int)) = false := by simp; omega
  have hq2 : (((s[i].toNat : Nat) : Int) != c) = true := by simp [hc]
  have U0 : Upd r w w.drew := ⟨rfl, rfl, rfl, rfl, fun _ _ => rfl⟩
  have HV := (show Hid _ from V)
  have HU := (show Hid _ from U0)
  go_enter Tryz.func73, Tryz.ntmps73
  go_upto_region 1 with fail
  refine wp_region_noPanic ?_
  refine wp_region_held_drew (S := fun w' => VA w' r (rc s i m0 m1 b) 131 ∧ Upd r w w') (by kernel_rfl) ⟨HV.out.drew, HU.out⟩ (fun hHeld => ?_)
  clear V U0 HU HV
  generalize w.drew = wz at *
  refine takeD 0 5 (.pointer (some ⟨r, 0, none⟩)) (by exact rfl) rfl (by kernel_rfl) (by kernel_rfl) (by kernel_rfl) (fun _ _ _ h => h) (Or.inl ⟨by rfl, ?_⟩) (by assumption) ?_
  · intro wq hS
    go_simp
  try simp only [Act.put, List.setIfInBounds_toArray, List.set_cons_zero, List.set_cons_succ]
  refine takeD 1 6 (.pointer (some ⟨r, 0, none⟩)) (by exact rfl) rfl (by kernel_rfl) (by kernel_rfl) (by kernel_rfl) (fun _ _ _ h => h) (Or.inl ⟨by rfl, ?_⟩) (by assumption) ?_
  · intro wq hS
    go_simp
  try simp only [Act.put, List.setIfInBounds_toArray, List.set_cons_zero, List.set_cons_succ]
  refine takeD 2 7 (.pointer (some ⟨r, 1, none⟩)) (by exact rfl) rfl (by kernel_rfl) (by kernel_rfl) (by kernel_rfl) (fun _ _ _ h => h) (Or.inl ⟨by rfl, ?_⟩) (by assumption) ?_
  · intro wq hS
    go_simp
  try simp only [Act.put, List.setIfInBounds_toArray, List.set_cons_zero, List.set_cons_succ]
  refine takeD 3 8 (.int .i64 (i : Int)) (by exact rfl) rfl (by kernel_rfl) (by kernel_rfl) (by kernel_rfl) (fun _ _ _ h => h) (Or.inl ⟨by rfl, ?_⟩) (by assumption) ?_
  · intro wq hS
    have h0 := hS.1.cell 1 (v := .int .i64 (i : Int)) rfl
    go_simp
  try simp only [Act.put, List.setIfInBounds_toArray, List.set_cons_zero, List.set_cons_succ]
  refine takeD 4 9 (.pointer (some ⟨r, 0, none⟩)) (by exact rfl) rfl (by kernel_rfl) (by kernel_rfl) (by kernel_rfl) (fun _ _ _ h => h) (Or.inl ⟨by rfl, ?_⟩) (by assumption) ?_
  · intro wq hS
    go_simp
  try simp only [Act.put, List.setIfInBounds_toArray, List.set_cons_zero, List.set_cons_succ]
  refine takeD 5 10 (.pointer (some ⟨r, 0, none⟩)) (by exact rfl) rfl (by kernel_rfl) (by kernel_rfl) (by kernel_rfl) (fun _ _ _ h => h) (Or.inl ⟨by rfl, ?_⟩) (by assumption) ?_
  · intro wq hS
    go_simp
  try simp only [Act.put, List.setIfInBounds_toArray, List.set_cons_zero, List.set_cons_succ]
  refine takeD 6 11 (.pointer (some ⟨r, 0, none⟩)) (by exact rfl) rfl (by kernel_rfl) (by kernel_rfl) (by kernel_rfl) (fun _ _ _ h => h) (Or.inl ⟨by rfl, ?_⟩) (by assumption) ?_
  · intro wq hS
    go_simp
  try simp only [Act.put, List.setIfInBounds_toArray, List.set_cons_zero, List.set_cons_succ]
  refine takeD 7 12 (.string s) (by exact rfl) rfl (by kernel_rfl) (by kernel_rfl) (by kernel_rfl) (fun _ _ _ h => h) (Or.inl ⟨by rfl, ?_⟩) (by assumption) ?_
  · intro wq hS
    have h0 := hS.1.cell 0 (v := .string s) rfl
    go_simp
  try simp only [Act.put, List.setIfInBounds_toArray, List.set_cons_zero, List.set_cons_succ]
  refine takeD 8 13 (.int .i64 (s.size : Int)) (by exact rfl) rfl (by kernel_rfl) (by kernel_rfl) (by kernel_rfl) (fun _ _ _ h => h) (Or.inl ⟨by rfl, ?_⟩) (by assumption) ?_
  · intro wq hS
    go_simp
  try simp only [Act.put, List.setIfInBounds_toArray, List.set_cons_zero, List.set_cons_succ]
  refine takeD 9 14 (.bool false) (by exact rfl) rfl (by kernel_rfl) (by kernel_rfl) (by kernel_rfl) (fun _ _ _ h => h) (Or.inl ⟨by rfl, ?_⟩) (by assumption) ?_
  · intro wq hS
    go_simp
  try simp only [Act.put, List.setIfInBounds_toArray, List.set_cons_zero, List.set_cons_succ]
  refine takeD 10 15 (.bool false) (by exact rfl) rfl (by kernel_rfl) (by kernel_rfl) (by kernel_rfl) (fun _ _ _ h => h) (Or.inl ⟨by rfl, ?_⟩) (by assumption) ?_
  · intro wq hS
    go_simp
  try simp only [Act.put, List.setIfInBounds_toArray, List.set_cons_zero, List.set_cons_succ]
  refine takeD 11 16 (.pointer (some ⟨r, 0, none⟩)) (by exact rfl) rfl (by kernel_rfl) (by kernel_rfl) (by kernel_rfl) (fun _ _ _ h => h) (Or.inl ⟨by rfl, ?_⟩) (by assumption) ?_
  · intro wq hS
    go_simp
  try simp only [Act.put, List.setIfInBounds_toArray, List.set_cons_zero, List.set_cons_succ]
  refine takeD 12 17 (.pointer (some ⟨r, 0, none⟩)) (by exact rfl) rfl (by kernel_rfl) (by kernel_rfl) (by kernel_rfl) (fun _ _ _ h => h) (Or.inl ⟨by rfl, ?_⟩) (by assumption) ?_
  · intro wq hS
    go_simp
  try simp only [Act.put, List.setIfInBounds_toArray, List.set_cons_zero, List.set_cons_succ]
  refine takeD 13 18 (.pointer (some ⟨r, 0, none⟩)) (by exact rfl) rfl (by kernel_rfl) (by kernel_rfl) (by kernel_rfl) (fun _ _ _ h => h) (Or.inl ⟨by rfl, ?_⟩) (by assumption) ?_
  · intro wq hS
    go_simp
  try simp only [Act.put, List.setIfInBounds_toArray, List.set_cons_zero, List.set_cons_succ]
  refine takeD 14 19 (.string s) (by exact rfl) rfl (by kernel_rfl) (by kernel_rfl) (by kernel_rfl) (fun _ _ _ h => h) (Or.inl ⟨by rfl, ?_⟩) (by assumption) ?_
  · intro wq hS
    have h0 := hS.1.cell 0 (v := .string s) rfl
    go_simp
  try simp only [Act.put, List.setIfInBounds_toArray, List.set_cons_zero, List.set_cons_succ]
  refine takeD 15 20 (.pointer (some ⟨r, 0, none⟩)) (by exact rfl) rfl (by kernel_rfl) (by kernel_rfl) (by kernel_rfl) (fun _ _ _ h => h) (Or.inl ⟨by rfl, ?_⟩) (by assumption) ?_
  · intro wq hS
    go_simp
  try simp only [Act.put, List.setIfInBounds_toArray, List.set_cons_zero, List.set_cons_succ]
  refine takeD 16 21 (.pointer (some ⟨r, 0, none⟩)) (by exact rfl) rfl (by kernel_rfl) (by kernel_rfl) (by kernel_rfl) (fun _ _ _ h => h) (Or.inl ⟨by rfl, ?_⟩) (by assumption) ?_
  · intro wq hS
    go_simp
  try simp only [Act.put, List.setIfInBounds_toArray, List.set_cons_zero, List.set_cons_succ]
  refine takeD 17 22 (.pointer (some ⟨r, 1, none⟩)) (by exact rfl) rfl (by kernel_rfl) (by kernel_rfl) (by kernel_rfl) (fun _ _ _ h => h) (Or.inl ⟨by rfl, ?_⟩) (by assumption) ?_
  · intro wq hS
    go_simp
  try simp only [Act.put, List.setIfInBounds_toArray, List.set_cons_zero, List.set_cons_succ]
  refine takeD 18 23 (.int .i64 (i : Int)) (by exact rfl) rfl (by kernel_rfl) (by kernel_rfl) (by kernel_rfl) (fun _ _ _ h => h) (Or.inl ⟨by rfl, ?_⟩) (by assumption) ?_
  · intro wq hS
    have h0 := hS.1.cell 1 (v := .int .i64 (i : Int)) rfl
    go_simp
  try simp only [Act.put, List.setIfInBounds_toArray, List.set_cons_zero, List.set_cons_succ]
  refine takeD 19 24 (.int .u8 ((s[i].toNat : Nat) : Int)) (by exact rfl) rfl (by kernel_rfl) (by kernel_rfl) (by kernel_rfl) (fun _ _ _ h => h) (Or.inl ⟨by rfl, ?_⟩) (by assumption) ?_
  · intro wq hS
    go_simp
  try simp only [Act.put, List.setIfInBounds_toArray, List.set_cons_zero, List.set_cons_succ]
  refine takeD 20 25 (.int .u8 c) (by exact rfl) rfl (by kernel_rfl) (by kernel_rfl) (by kernel_rfl) (fun _ _ _ h => h) (Or.inl ⟨by rfl, ?_⟩) (by assumption) ?_
  · intro wq hS
    go_simp
  try simp only [Act.put, List.setIfInBounds_toArray, List.set_cons_zero, List.set_cons_succ]
  refine takeD 21 26 (.bool true) (by exact rfl) rfl (by kernel_rfl) (by kernel_rfl) (by kernel_rfl) (fun _ _ _ h => h) (Or.inl ⟨by rfl, ?_⟩) (by assumption) ?_
  · intro wq hS
    go_simp
  try simp only [Act.put, List.setIfInBounds_toArray, List.set_cons_zero, List.set_cons_succ]
  refine takeD 22 27 (.bool true) (by exact rfl) rfl (by kernel_rfl) (by kernel_rfl) (by kernel_rfl) (fun _ _ _ h => h) (Or.inl ⟨by rfl, ?_⟩) (by assumption) ?_
  · intro wq hS
    go_simp
  try simp only [Act.put, List.setIfInBounds_toArray, List.set_cons_zero, List.set_cons_succ]
  refine wpAnyH_done (by kernel_rfl) ?_ _
  refine NoPanic.normal ?_
  obtain ⟨hV, hU⟩ := hHeld
  have HV := (show Hid _ from hV)
  have HU := (show Hid _ from hU)
  clear hV hU
  go_wp2_with fail
  go_ret
  exact ⟨rfl, HV.out, HU.out⟩
set_option maxHeartbeats 1000000 in
theorem take_yes (r : Nat) (s : ByteArray) (i m0 m1 : Nat) (b : Bool) (c : Int) (w : World) (V : VA w r (rc s i m0 m1 b) 131) (h : i < s.size) (hc : ((s[i].toNat : Nat) : Int) = c) (hb : s.size ≤ 64) :
    Calls Tryz.prog 73 #[.pointer (some ⟨r, 0, none⟩), .int .u8 c] w fun e w' => e = .returned (.bool true) ∧ VA w' r (rc s (i + 1) m0 m1 b) 131 ∧ Upd r w w' := by
  have hq : ((i : Int) == (s.size : Int)) = false := by simp; omega
  have hq2 : (((s[i].toNat : Nat) : Int) != c) = false := by simp [hc]
  clear hc
  have U0 : Upd r w w.drew := ⟨rfl, rfl, rfl, rfl, fun _ _ => rfl⟩
  have HV := (show Hid _ from V)
  have HU := (show Hid _ from U0)
  go_enter Tryz.func73, Tryz.ntmps73
  go_upto_region 1 with fail
  refine wp_region_noPanic ?_
  refine wp_region_held_drew (S := fun w' => VA w' r (rc s i m0 m1 b) 131 ∧ Upd r w w') (by kernel_rfl) ⟨HV.out.drew, HU.out⟩ (fun hHeld => ?_)
  clear V U0 HU HV
  generalize w.drew = wz at *
  refine takeD 0 5 (.pointer (some ⟨r, 0, none⟩)) (by exact rfl) rfl (by kernel_rfl) (by kernel_rfl) (by kernel_rfl) (fun _ _ _ h => h) (Or.inl ⟨by rfl, ?_⟩) (by assumption) ?_
  · intro wq hS
    go_simp
  try simp only [Act.put, List.setIfInBounds_toArray, List.set_cons_zero, List.set_cons_succ]
  refine takeD 1 6 (.pointer (some ⟨r, 0, none⟩)) (by exact rfl) rfl (by kernel_rfl) (by kernel_rfl) (by kernel_rfl) (fun _ _ _ h => h) (Or.inl ⟨by rfl, ?_⟩) (by assumption) ?_
  · intro wq hS
    go_simp
  try simp only [Act.put, List.setIfInBounds_toArray, List.set_cons_zero, List.set_cons_succ]
  refine takeD 2 7 (.pointer (some ⟨r, 1, none⟩)) (by exact rfl) rfl (by kernel_rfl) (by kernel_rfl) (by kernel_rfl) (fun _ _ _ h => h) (Or.inl ⟨by rfl, ?_⟩) (by assumption) ?_
  · intro wq hS
    go_simp
  try simp only [Act.put, List.setIfInBounds_toArray, List.set_cons_zero, List.set_cons_succ]
  refine takeD 3 8 (.int .i64 (i : Int)) (by exact rfl) rfl (by kernel_rfl) (by kernel_rfl) (by kernel_rfl) (fun _ _ _ h => h) (Or.inl ⟨by rfl, ?_⟩) (by assumption) ?_
  · intro wq hS
    have h0 := hS.1.cell 1 (v := .int .i64 (i : Int)) rfl
    go_simp
  try simp only [Act.put, List.setIfInBounds_toArray, List.set_cons_zero, List.set_cons_succ]
  refine takeD 4 9 (.pointer (some ⟨r, 0, none⟩)) (by exact rfl) rfl (by kernel_rfl) (by kernel_rfl) (by kernel_rfl) (fun _ _ _ h => h) (Or.inl ⟨by rfl, ?_⟩) (by assumption) ?_
  · intro wq hS
    go_simp
  try simp only [Act.put, List.setIfInBounds_toArray, List.set_cons_zero, List.set_cons_succ]
  refine takeD 5 10 (.pointer (some ⟨r, 0, none⟩)) (by exact rfl) rfl (by kernel_rfl) (by kernel_rfl) (by kernel_rfl) (fun _ _ _ h => h) (Or.inl ⟨by rfl, ?_⟩) (by assumption) ?_
  · intro wq hS
    go_simp
  try simp only [Act.put, List.setIfInBounds_toArray, List.set_cons_zero, List.set_cons_succ]
  refine takeD 6 11 (.pointer (some ⟨r, 0, none⟩)) (by exact rfl) rfl (by kernel_rfl) (by kernel_rfl) (by kernel_rfl) (fun _ _ _ h => h) (Or.inl ⟨by rfl, ?_⟩) (by assumption) ?_
  · intro wq hS
    go_simp
  try simp only [Act.put, List.setIfInBounds_toArray, List.set_cons_zero, List.set_cons_succ]
  refine takeD 7 12 (.string s) (by exact rfl) rfl (by kernel_rfl) (by kernel_rfl) (by kernel_rfl) (fun _ _ _ h => h) (Or.inl ⟨by rfl, ?_⟩) (by assumption) ?_
  · intro wq hS
    have h0 := hS.1.cell 0 (v := .string s) rfl
    go_simp
  try simp only [Act.put, List.setIfInBounds_toArray, List.set_cons_zero, List.set_cons_succ]
  refine takeD 8 13 (.int .i64 (s.size : Int)) (by exact rfl) rfl (by kernel_rfl) (by kernel_rfl) (by kernel_rfl) (fun _ _ _ h => h) (Or.inl ⟨by rfl, ?_⟩) (by assumption) ?_
  · intro wq hS
    go_simp
  try simp only [Act.put, List.setIfInBounds_toArray, List.set_cons_zero, List.set_cons_succ]
  refine takeD 9 14 (.bool false) (by exact rfl) rfl (by kernel_rfl) (by kernel_rfl) (by kernel_rfl) (fun _ _ _ h => h) (Or.inl ⟨by rfl, ?_⟩) (by assumption) ?_
  · intro wq hS
    go_simp
  try simp only [Act.put, List.setIfInBounds_toArray, List.set_cons_zero, List.set_cons_succ]
  refine takeD 10 15 (.bool false) (by exact rfl) rfl (by kernel_rfl) (by kernel_rfl) (by kernel_rfl) (fun _ _ _ h => h) (Or.inl ⟨by rfl, ?_⟩) (by assumption) ?_
  · intro wq hS
    go_simp
  try simp only [Act.put, List.setIfInBounds_toArray, List.set_cons_zero, List.set_cons_succ]
  refine takeD 11 16 (.pointer (some ⟨r, 0, none⟩)) (by exact rfl) rfl (by kernel_rfl) (by kernel_rfl) (by kernel_rfl) (fun _ _ _ h => h) (Or.inl ⟨by rfl, ?_⟩) (by assumption) ?_
  · intro wq hS
    go_simp
  try simp only [Act.put, List.setIfInBounds_toArray, List.set_cons_zero, List.set_cons_succ]
  refine takeD 12 17 (.pointer (some ⟨r, 0, none⟩)) (by exact rfl) rfl (by kernel_rfl) (by kernel_rfl) (by kernel_rfl) (fun _ _ _ h => h) (Or.inl ⟨by rfl, ?_⟩) (by assumption) ?_
  · intro wq hS
    go_simp
  try simp only [Act.put, List.setIfInBounds_toArray, List.set_cons_zero, List.set_cons_succ]
  refine takeD 13 18 (.pointer (some ⟨r, 0, none⟩)) (by exact rfl) rfl (by kernel_rfl) (by kernel_rfl) (by kernel_rfl) (fun _ _ _ h => h) (Or.inl ⟨by rfl, ?_⟩) (by assumption) ?_
  · intro wq hS
    go_simp
  try simp only [Act.put, List.setIfInBounds_toArray, List.set_cons_zero, List.set_cons_succ]
  refine takeD 14 19 (.string s) (by exact rfl) rfl (by kernel_rfl) (by kernel_rfl) (by kernel_rfl) (fun _ _ _ h => h) (Or.inl ⟨by rfl, ?_⟩) (by assumption) ?_
  · intro wq hS
    have h0 := hS.1.cell 0 (v := .string s) rfl
    go_simp
  try simp only [Act.put, List.setIfInBounds_toArray, List.set_cons_zero, List.set_cons_succ]
  refine takeD 15 20 (.pointer (some ⟨r, 0, none⟩)) (by exact rfl) rfl (by kernel_rfl) (by kernel_rfl) (by kernel_rfl) (fun _ _ _ h => h) (Or.inl ⟨by rfl, ?_⟩) (by assumption) ?_
  · intro wq hS
    go_simp
  try simp only [Act.put, List.setIfInBounds_toArray, List.set_cons_zero, List.set_cons_succ]
  refine takeD 16 21 (.pointer (some ⟨r, 0, none⟩)) (by exact rfl) rfl (by kernel_rfl) (by kernel_rfl) (by kernel_rfl) (fun _ _ _ h => h) (Or.inl ⟨by rfl, ?_⟩) (by assumption) ?_
  · intro wq hS
    go_simp
  try simp only [Act.put, List.setIfInBounds_toArray, List.set_cons_zero, List.set_cons_succ]
  refine takeD 17 22 (.pointer (some ⟨r, 1, none⟩)) (by exact rfl) rfl (by kernel_rfl) (by kernel_rfl) (by kernel_rfl) (fun _ _ _ h => h) (Or.inl ⟨by rfl, ?_⟩) (by assumption) ?_
  · intro wq hS
    go_simp
  try simp only [Act.put, List.setIfInBounds_toArray, List.set_cons_zero, List.set_cons_succ]
  refine takeD 18 23 (.int .i64 (i : Int)) (by exact rfl) rfl (by kernel_rfl) (by kernel_rfl) (by kernel_rfl) (fun _ _ _ h => h) (Or.inl ⟨by rfl, ?_⟩) (by assumption) ?_
  · intro wq hS
    have h0 := hS.1.cell 1 (v := .int .i64 (i : Int)) rfl
    go_simp
  try simp only [Act.put, List.setIfInBounds_toArray, List.set_cons_zero, List.set_cons_succ]
  refine takeD 19 24 (.int .u8 ((s[i].toNat : Nat) : Int)) (by exact rfl) rfl (by kernel_rfl) (by kernel_rfl) (by kernel_rfl) (fun _ _ _ h => h) (Or.inl ⟨by rfl, ?_⟩) (by assumption) ?_
  · intro wq hS
    go_simp
  try simp only [Act.put, List.setIfInBounds_toArray, List.set_cons_zero, List.set_cons_succ]
  refine takeD 20 25 (.int .u8 c) (by exact rfl) rfl (by kernel_rfl) (by kernel_rfl) (by kernel_rfl) (fun _ _ _ h => h) (Or.inl ⟨by rfl, ?_⟩) (by assumption) ?_
  · intro wq hS
    go_simp
  try simp only [Act.put, List.setIfInBounds_toArray, List.set_cons_zero, List.set_cons_succ]
  refine takeD 21 26 (.bool false) (by exact rfl) rfl (by kernel_rfl) (by kernel_rfl) (by kernel_rfl) (fun _ _ _ h => h) (Or.inl ⟨by rfl, ?_⟩) (by assumption) ?_
  · intro wq hS
    go_simp
  try simp only [Act.put, List.setIfInBounds_toArray, List.set_cons_zero, List.set_cons_succ]
  refine takeD 22 27 (.bool false) (by exact rfl) rfl (by kernel_rfl) (by kernel_rfl) (by kernel_rfl) (fun _ _ _ h => h) (Or.inl ⟨by rfl, ?_⟩) (by assumption) ?_
  · intro wq hS
    go_simp
  try simp only [Act.put, List.setIfInBounds_toArray, List.set_cons_zero, List.set_cons_succ]
  refine wpAnyH_done (by kernel_rfl) ?_ _
  refine NoPanic.normal ?_
  obtain ⟨hV, hU⟩ := hHeld
  have HV := (show Hid _ from hV)
  have HU := (show Hid _ from hU)
  have a1 := hV.cell 1 (v := .int .i64 (i : Int)) rfl
  have f1 := hV.free 1
  clear hV hU
  go_wp2_with fail
  go_ret
  refine ⟨rfl, ?_, HU.out.trans (upd_set wz r 1 _)⟩
  have := HV.out.set 1 (.int .i64 ((i + 1 : Nat) : Int))
  simpa [rc] using this
end Go.Proofs.YteohncnjjgoemaaGreatDoor.dg
/- digits: the reader: keep. -/
namespace Go.Proofs.YteohncnjjgoemaaGreatDoor.dg
open Go.RowKit
set_option linter.unusedVariables false
set_option linter.unusedSimpArgs false

theorem keep_beyond (r : Nat) (s : ByteArray) (i m0 m1 : Nat) (d : Int) (w : World) (V : VA w r (rc s i m0 m1 true) 131) :
    Calls Tryz.prog 103 #[.pointer (some ⟨r, 0, none⟩), .int .u8 d] w fun e w' => e = .returned (.tuple #[]) ∧ VA w' r (rc s i m0 m1 true) 131 ∧ Below r w w' := by
  have b1 := V.cell 4 (v := .bool true) rfl
  have HV := (show Hid _ from V)
  clear V
  go_enter Tryz.func103, Tryz.ntmps103
  go_wp2_with fail
  first | exact bodyPost_end (v := .tuple #[]) (by simp [results, Tryz.results103, go_sem]) rfl ⟨rfl, HV.out, Below.refl _ _⟩ | exact bodyPost_ret (v := .tuple #[]) (by simp [results, Tryz.results103, go_sem]) rfl ⟨rfl, HV.out, Below.refl _ _⟩
set_option maxHeartbeats 1000000 in
theorem keep_ok (r : Nat) (s : ByteArray) (i m0 m1 l1 h3 : Nat) (d : Int) (w : World) (V : VA w r (rc s i m0 m1 false) 131)
    (hw : ∀ w, Calls Tryz.prog 114 #[.agg (zc m0 m1).toArray, .int .u8 d] w fun e w' => e = .returned (.tuple #[.agg (zc l1 h3).toArray, .bool true]) ∧ Below w.heap.size w w') :
    Calls Tryz.prog 103 #[.pointer (some ⟨r, 0, none⟩), .int .u8 d] w fun e w' => e = .returned (.tuple #[]) ∧ VA w' r (rc s i l1 h3 false) 131 ∧ Below r w w' := by
  have b1 := V.cell 4 (v := .bool false) rfl
  have s0 := V.cell 2 (v := .int .u64 (m0 : Int)) rfl
  have s1 := V.cell 3 (v := .int .u64 (m1 : Int)) rfl
  have HL : Hid (r < w.heap.size) := V.lt
  have HV := (show Hid _ from V)
  clear V
  simp only [zc] at hw
  go_enter Tryz.func103, Tryz.ntmps103
  go_wp2_with fail
  clear b1 s0 s1
  refine (hw _).mono ?_
  rintro e w1 ⟨rfl, b1⟩
  have HV1 := (show Hid _ from HV.out.step b1)
  have HB1 := (show Hid (Below r w w1) from b1.mono (Nat.le_of_lt HL.out))
  have HL1 : Hid (r < w1.heap.size) := Nat.lt_of_lt_of_le HL.out b1.size
  clear b1 HV HL
  go_upto_region 2 with fail
  change Code.wp _ _ _ _ (w1.alloc (.cells (zc l1 h3).toArray 77))
  have HN := (show Hid _ from va_new w1 (zc l1 h3) 77)
  have HV2 := (show Hid _ from HV1.out.alloc (.cells (zc l1 h3).toArray 77))
  have HB2 := (show Hid _ from HB1.out.alloc (Nat.le_of_lt HL1.out) (.cells (zc l1 h3).toArray 77))
  clear HV1 HB1
  obtain ⟨q, hq⟩ : ∃ q, q = w1.heap.size := ⟨_, rfl⟩
  rw [← hq] at HN HL1
  rw [← hq]
  generalize w1.alloc (.cells (zc l1 h3).toArray 77) = w2 at *
  clear hq
  have n0 := HN.out.cell 0 (v := .int .u64 (l1 : Int)) rfl
  have n1 := HN.out.cell 1 (v := .int .u64 (h3 : Int)) rfl
  have r2 := HV2.out.cell 2 (v := .int .u64 (m0 : Int)) rfl
  have f2 := HV2.out.free 2
  have V3 := HV2.out.set 2 (.int .u64 (l1 : Int))
  have r3 := V3.cell 3 (v := .int .u64 (m1 : Int)) rfl
  have f3 := V3.free 3
  have HV4 := (show Hid _ from V3.set 3 (.int .u64 (h3 : Int)))
  have HB4 := (show Hid _ from (HB2.out.setCell (p := ⟨r, 2, none⟩) (Nat.le_refl _) (.int .u64 (l1 : Int))).setCell (p := ⟨r, 3, none⟩) (Nat.le_refl _) (.int .u64 (h3 : Int)))
  clear V3
  go_wp2_with fail
  first | exact bodyPost_end (v := .tuple #[]) (by simp [results, Tryz.results103, go_sem]) rfl ⟨rfl, HV4.out, HB4.out⟩ | exact bodyPost_ret (v := .tuple #[]) (by simp [results, Tryz.results103, go_sem]) rfl ⟨rfl, HV4.out, HB4.out⟩
set_option maxHeartbeats 1000000 in
theorem keep_over (r : Nat) (s : ByteArray) (i m0 m1 l1 h3 : Nat) (d : Int) (w : World) (V : VA w r (rc s i m0 m1 false) 131)
    (hw : ∀ w, Calls Tryz.prog 114 #[.agg (zc m0 m1).toArray, .int .u8 d] w fun e w' => e = .returned (.tuple #[.agg (zc l1 h3).toArray, .bool false]) ∧ Below w.heap.size w w') :
    Calls Tryz.prog 103 #[.pointer (some ⟨r, 0, none⟩), .int .u8 d] w fun e w' => e = .returned (.tuple #[]) ∧ VA w' r (rc s i m0 m1 true) 131 ∧ Below r w w' := by
  have b1 := V.cell 4 (v := .bool false) rfl
  have s0 := V.cell 2 (v := .int .u64 (m0 : Int)) rfl
  have s1 := V.cell 3 (v := .int .u64 (m1 : Int)) rfl
  have HL : Hid (r < w.heap.size) := V.lt
  have HV := (show Hid _ from V)
  clear V
  simp only [zc] at hw
  go_enter Tryz.func103, Tryz.ntmps103
  go_wp2_with fail
  clear b1 s0 s1
  refine (hw _).mono ?_
  rintro e w1 ⟨rfl, b1⟩
  have HV1 := (show Hid _ from HV.out.step b1)
  have HB1 := (show Hid (Below r w w1) from b1.mono (Nat.le_of_lt HL.out))
  have HL1 : Hid (r < w1.heap.size) := Nat.lt_of_lt_of_le HL.out b1.size
  clear b1 HV HL
  go_upto_region 2 with fail
  change Code.wp _ _ _ _ (w1.alloc (.cells (zc l1 h3).toArray 77))
  have HN := (show Hid _ from va_new w1 (zc l1 h3) 77)
  have HV2 := (show Hid _ from HV1.out.alloc (.cells (zc l1 h3).toArray 77))
  have HB2 := (show Hid _ from HB1.out.alloc (Nat.le_of_lt HL1.out) (.cells (zc l1 h3).toArray 77))
  clear HV1 HB1
  obtain ⟨q, hq⟩ : ∃ q, q = w1.heap.size := ⟨_, rfl⟩
  rw [← hq] at HN HL1
  rw [← hq]
  generalize w1.alloc (.cells (zc l1 h3).toArray 77) = w2 at *
  clear hq
  have r4 := HV2.out.cell 4 (v := .bool false) rfl
  have f4 := HV2.out.free 4
  have HV4 := (show Hid _ from HV2.out.set 4 (.bool true))
  have HB4 := (show Hid _ from HB2.out.setCell (p := ⟨r, 4, none⟩) (Nat.le_refl _) (.bool true))
  go_wp2_with fail
  first | exact bodyPost_end (v := .tuple #[]) (by simp [results, Tryz.results103, go_sem]) rfl ⟨rfl, HV4.out, HB4.out⟩ | exact bodyPost_ret (v := .tuple #[]) (by simp [results, Tryz.results103, go_sem]) rfl ⟨rfl, HV4.out, HB4.out⟩
end Go.Proofs.YteohncnjjgoemaaGreatDoor.dg
/- digits: the reader: digit. -/
namespace Go.Proofs.YteohncnjjgoemaaGreatDoor.dg
open Go.RowKit
set_option linter.unusedVariables false
set_option linter.unusedSimpArgs false

theorem wrU8 {n : Int} (h0 : 0 ≤ n) (h1 : n < 256) : IntKind.u8.wrap n = n := by
  show n % 256 = n
  omega
set_option maxHeartbeats 2000000 in
theorem digit_end (r : Nat) (s : ByteArray) (i m0 m1 : Nat) (b : Bool) (w : World) (V : VA w r (rc s i m0 m1 b) 131) (h : i = s.size) :
    Calls Tryz.prog 90 #[.pointer (some ⟨r, 0, none⟩)] w fun e w' => e = .returned (.bool false) ∧ VA w' r (rc s i m0 m1 b) 131 ∧ Below r w w' := by
  have hq : ((i : Int) == (s.size : Int)) = true := by simp; omega
  clear h
  have HV := (show Hid _ from V)
  clear V
  go_enter Tryz.func90, Tryz.ntmps90
  go_upto_region 1 with fail
  refine wp_region_noPanic ?_
  refine wp_region_held_drew (S := fun w' => VA w' r (rc s i m0 m1 b) 131 ∧ Below r w w') (by kernel_rfl) ⟨HV.out.drew, (Below.refl _ _).drew⟩ (fun hHeld => ?_)
  clear HV
  generalize w.drew = wz at *
  refine takeD 0 3 (.pointer (some ⟨r, 0, none⟩)) (by exact rfl) rfl (by kernel_rfl) (by kernel_rfl) (by kernel_rfl) (fun _ _ _ h => h) (Or.inl ⟨by rfl, ?_⟩) (by assumption) ?_
  · intro wq hS
    go_simp
  try simp only [Act.put, List.setIfInBounds_toArray, List.set_cons_zero, List.set_cons_succ]
  refine takeD 1 4 (.pointer (some ⟨r, 0, none⟩)) (by exact rfl) rfl (by kernel_rfl) (by kernel_rfl) (by kernel_rfl) (fun _ _ _ h => h) (Or.inl ⟨by rfl, ?_⟩) (by assumption) ?_
  · intro wq hS
    go_simp
  try simp only [Act.put, List.setIfInBounds_toArray, List.set_cons_zero, List.set_cons_succ]
  refine takeD 2 5 (.pointer (some ⟨r, 1, none⟩)) (by exact rfl) rfl (by kernel_rfl) (by kernel_rfl) (by kernel_rfl) (fun _ _ _ h => h) (Or.inl ⟨by rfl, ?_⟩) (by assumption) ?_
  · intro wq hS
    go_simp
  try simp only [Act.put, List.setIfInBounds_toArray, List.set_cons_zero, List.set_cons_succ]
  refine takeD 3 6 (.int .i64 (i : Int)) (by exact rfl) rfl (by kernel_rfl) (by kernel_rfl) (by kernel_rfl) (fun _ _ _ h => h) (Or.inl ⟨by rfl, ?_⟩) (by assumption) ?_
  · intro wq hS
    have h0 := hS.1.cell 1 (v := .int .i64 (i : Int)) rfl
    go_simp
  try simp only [Act.put, List.setIfInBounds_toArray, List.set_cons_zero, List.set_cons_succ]
  refine takeD 4 7 (.pointer (some ⟨r, 0, none⟩)) (by exact rfl) rfl (by kernel_rfl) (by kernel_rfl) (by kernel_rfl) (fun _ _ _ h => h) (Or.inl ⟨by rfl, ?_⟩) (by assumption) ?_
  · intro wq hS
    go_simp
  try simp only [Act.put, List.setIfInBounds_toArray, List.set_cons_zero, List.set_cons_succ]
  refine takeD 5 8 (.pointer (some ⟨r, 0, none⟩)) (by exact rfl) rfl (by kernel_rfl) (by kernel_rfl) (by kernel_rfl) (fun _ _ _ h => h) (Or.inl ⟨by rfl, ?_⟩) (by assumption) ?_
  · intro wq hS
    go_simp
  try simp only [Act.put, List.setIfInBounds_toArray, List.set_cons_zero, List.set_cons_succ]
  refine takeD 6 9 (.pointer (some ⟨r, 0, none⟩)) (by exact rfl) rfl (by kernel_rfl) (by kernel_rfl) (by kernel_rfl) (fun _ _ _ h => h) (Or.inl ⟨by rfl, ?_⟩) (by assumption) ?_
  · intro wq hS
    go_simp
  try simp only [Act.put, List.setIfInBounds_toArray, List.set_cons_zero, List.set_cons_succ]
  refine takeD 7 10 (.string s) (by exact rfl) rfl (by kernel_rfl) (by kernel_rfl) (by kernel_rfl) (fun _ _ _ h => h) (Or.inl ⟨by rfl, ?_⟩) (by assumption) ?_
  · intro wq hS
    have h0 := hS.1.cell 0 (v := .string s) rfl
    go_simp
  try simp only [Act.put, List.setIfInBounds_toArray, List.set_cons_zero, List.set_cons_succ]
  refine takeD 8 11 (.int .i64 (s.size : Int)) (by exact rfl) rfl (by kernel_rfl) (by kernel_rfl) (by kernel_rfl) (fun _ _ _ h => h) (Or.inl ⟨by rfl, ?_⟩) (by assumption) ?_
  · intro wq hS
    go_simp
  try simp only [Act.put, List.setIfInBounds_toArray, List.set_cons_zero, List.set_cons_succ]
  refine takeD 9 12 (.bool true) (by exact rfl) rfl (by kernel_rfl) (by kernel_rfl) (by kernel_rfl) (fun _ _ _ h => h) (Or.inl ⟨by rfl, ?_⟩) (by assumption) ?_
  · intro wq hS
    go_simp
  try simp only [Act.put, List.setIfInBounds_toArray, List.set_cons_zero, List.set_cons_succ]
  refine takeD 10 13 (.bool true) (by exact rfl) rfl (by kernel_rfl) (by kernel_rfl) (by kernel_rfl) (fun _ _ _ h => h) (Or.inl ⟨by rfl, ?_⟩) (by assumption) ?_
  · intro wq hS
    go_simp
  try simp only [Act.put, List.setIfInBounds_toArray, List.set_cons_zero, List.set_cons_succ]
  refine takeD 11 14 undef (by exact rfl) rfl (by kernel_rfl) (by kernel_rfl) (by kernel_rfl) (fun _ _ _ h => h) (Or.inr ⟨by rfl, rfl⟩) (by assumption) ?_
  try simp only [Act.put, List.setIfInBounds_toArray, List.set_cons_zero, List.set_cons_succ]
  refine takeD 12 15 undef (by exact rfl) rfl (by kernel_rfl) (by kernel_rfl) (by kernel_rfl) (fun _ _ _ h => h) (Or.inr ⟨by rfl, rfl⟩) (by assumption) ?_
  try simp only [Act.put, List.setIfInBounds_toArray, List.set_cons_zero, List.set_cons_succ]
  refine takeD 13 16 undef (by exact rfl) rfl (by kernel_rfl) (by kernel_rfl) (by kernel_rfl) (fun _ _ _ h => h) (Or.inr ⟨by rfl, rfl⟩) (by assumption) ?_
  try simp only [Act.put, List.setIfInBounds_toArray, List.set_cons_zero, List.set_cons_succ]
  refine takeD 14 17 undef (by exact rfl) rfl (by kernel_rfl) (by kernel_rfl) (by kernel_rfl) (fun _ _ _ h => h) (Or.inr ⟨by rfl, rfl⟩) (by assumption) ?_
  try simp only [Act.put, List.setIfInBounds_toArray, List.set_cons_zero, List.set_cons_succ]
  refine takeD 15 18 undef (by exact rfl) rfl (by kernel_rfl) (by kernel_rfl) (by kernel_rfl) (fun _ _ _ h => h) (Or.inr ⟨by rfl, rfl⟩) (by assumption) ?_
  try simp only [Act.put, List.setIfInBounds_toArray, List.set_cons_zero, List.set_cons_succ]
  refine takeD 16 19 undef (by exact rfl) rfl (by kernel_rfl) (by kernel_rfl) (by kernel_rfl) (fun _ _ _ h => h) (Or.inr ⟨by rfl, rfl⟩) (by assumption) ?_
  try simp only [Act.put, List.setIfInBounds_toArray, List.set_cons_zero, List.set_cons_succ]
  refine takeD 17 20 undef (by exact rfl) rfl (by kernel_rfl) (by kernel_rfl) (by kernel_rfl) (fun _ _ _ h => h) (Or.inr ⟨by rfl, rfl⟩) (by assumption) ?_
  try simp only [Act.put, List.setIfInBounds_toArray, List.set_cons_zero, List.set_cons_succ]
  refine takeD 18 21 undef (by exact rfl) rfl (by kernel_rfl) (by kernel_rfl) (by kernel_rfl) (fun _ _ _ h => h) (Or.inr ⟨by rfl, rfl⟩) (by assumption) ?_
  try simp only [Act.put, List.setIfInBounds_toArray, List.set_cons_zero, List.set_cons_succ]
  refine takeD 19 22 undef (by exact rfl) rfl (by kernel_rfl) (by kernel_rfl) (by kernel_rfl) (fun _ _ _ h => h) (Or.inr ⟨by rfl, rfl⟩) (by assumption) ?_
  try simp only [Act.put, List.setIfInBounds_toArray, List.set_cons_zero, List.set_cons_succ]
  refine takeD 20 23 undef (by exact rfl) rfl (by kernel_rfl) (by kernel_rfl) (by kernel_rfl) (fun _ _ _ h => h) (Or.inr ⟨by rfl, rfl⟩) (by assumption) ?_
  try simp only [Act.put, List.setIfInBounds_toArray, List.set_cons_zero, List.set_cons_succ]
  refine takeD 21 24 (.bool true) (by exact rfl) rfl (by kernel_rfl) (by kernel_rfl) (by kernel_rfl) (fun _ _ _ h => h) (Or.inl ⟨by rfl, ?_⟩) (by assumption) ?_
  · intro wq hS
    go_simp
  try simp only [Act.put, List.setIfInBounds_toArray, List.set_cons_zero, List.set_cons_succ]
  refine takeD 22 25 (.bool true) (by exact rfl) rfl (by kernel_rfl) (by kernel_rfl) (by kernel_rfl) (fun _ _ _ h => h) (Or.inl ⟨by rfl, ?_⟩) (by assumption) ?_
  · intro wq hS
    go_simp
  try simp only [Act.put, List.setIfInBounds_toArray, List.set_cons_zero, List.set_cons_succ]
  refine takeD 23 26 undef (by exact rfl) rfl (by kernel_rfl) (by kernel_rfl) (by kernel_rfl) (fun _ _ _ h => h) (Or.inr ⟨by rfl, rfl⟩) (by assumption) ?_
  try simp only [Act.put, List.setIfInBounds_toArray, List.set_cons_zero, List.set_cons_succ]
  refine takeD 24 27 undef (by exact rfl) rfl (by kernel_rfl) (by kernel_rfl) (by kernel_rfl) (fun _ _ _ h => h) (Or.inr ⟨by rfl, rfl⟩) (by assumption) ?_
  try simp only [Act.put, List.setIfInBounds_toArray, List.set_cons_zero, List.set_cons_succ]
  refine takeD 25 28 undef (by exact rfl) rfl (by kernel_rfl) (by kernel_rfl) (by kernel_rfl) (fun _ _ _ h => h) (Or.inr ⟨by rfl, rfl⟩) (by assumption) ?_
  try simp only [Act.put, List.setIfInBounds_toArray, List.set_cons_zero, List.set_cons_succ]
  refine takeD 26 29 undef (by exact rfl) rfl (by kernel_rfl) (by kernel_rfl) (by kernel_rfl) (fun _ _ _ h => h) (Or.inr ⟨by rfl, rfl⟩) (by assumption) ?_
  try simp only [Act.put, List.setIfInBounds_toArray, List.set_cons_zero, List.set_cons_succ]
  refine takeD 27 30 undef (by exact rfl) rfl (by kernel_rfl) (by kernel_rfl) (by kernel_rfl) (fun _ _ _ h => h) (Or.inr ⟨by rfl, rfl⟩) (by assumption) ?_
  try simp only [Act.put, List.setIfInBounds_toArray, List.set_cons_zero, List.set_cons_succ]
  refine takeD 28 31 undef (by exact rfl) rfl (by kernel_rfl) (by kernel_rfl) (by kernel_rfl) (fun _ _ _ h => h) (Or.inr ⟨by rfl, rfl⟩) (by assumption) ?_
  try simp only [Act.put, List.setIfInBounds_toArray, List.set_cons_zero, List.set_cons_succ]
  refine takeD 29 32 undef (by exact rfl) rfl (by kernel_rfl) (by kernel_rfl) (by kernel_rfl) (fun _ _ _ h => h) (Or.inr ⟨by rfl, rfl⟩) (by assumption) ?_
  try simp only [Act.put, List.setIfInBounds_toArray, List.set_cons_zero, List.set_cons_succ]
  refine takeD 30 33 undef (by exact rfl) rfl (by kernel_rfl) (by kernel_rfl) (by kernel_rfl) (fun _ _ _ h => h) (Or.inr ⟨by rfl, rfl⟩) (by assumption) ?_
  try simp only [Act.put, List.setIfInBounds_toArray, List.set_cons_zero, List.set_cons_succ]
  refine takeD 31 34 undef (by exact rfl) rfl (by kernel_rfl) (by kernel_rfl) (by kernel_rfl) (fun _ _ _ h => h) (Or.inr ⟨by rfl, rfl⟩) (by assumption) ?_
  try simp only [Act.put, List.setIfInBounds_toArray, List.set_cons_zero, List.set_cons_succ]
  refine takeD 32 35 undef (by exact rfl) rfl (by kernel_rfl) (by kernel_rfl) (by kernel_rfl) (fun _ _ _ h => h) (Or.inr ⟨by rfl, rfl⟩) (by assumption) ?_
  try simp only [Act.put, List.setIfInBounds_toArray, List.set_cons_zero, List.set_cons_succ]
  refine takeD 33 36 (.bool true) (by exact rfl) rfl (by kernel_rfl) (by kernel_rfl) (by kernel_rfl) (fun _ _ _ h => h) (Or.inl ⟨by rfl, ?_⟩) (by assumption) ?_
  · intro wq hS
    go_simp
  try simp only [Act.put, List.setIfInBounds_toArray, List.set_cons_zero, List.set_cons_succ]
  refine wpAnyH_done (by kernel_rfl) ?_ _
  refine NoPanic.normal ?_
  obtain ⟨hV, hU⟩ := hHeld
  have HV := (show Hid _ from hV)
  have HU := (show Hid _ from hU)
  clear hV hU
  go_wp2_with fail
  go_ret
  exact ⟨rfl, HV.out, HU.out⟩
set_option maxHeartbeats 2000000 in
theorem digit_low (r : Nat) (s : ByteArray) (i m0 m1 : Nat) (b : Bool) (w : World) (V : VA w r (rc s i m0 m1 b) 131) (h : i < s.size) (hc : ((s[i].toNat : Nat) : Int) < 48) :
    Calls Tryz.prog 90 #[.pointer (some ⟨r, 0, none⟩)] w fun e w' => e = .returned (.bool false) ∧ VA w' r (rc s i m0 m1 b) 131 ∧ Below r w w' := by
  have hq : ((i : Int) == (s.size : Int)) = false := by simp; omega
  have HV := (show Hid _ from V)
  clear V
  go_enter Tryz.func90, Tryz.ntmps90
  go_upto_region 1 with fail
  refine wp_region_noPanic ?_
  refine wp_region_held_drew (S := fun w' => VA w' r (rc s i m0 m1 b) 131 ∧ Below r w w') (by kernel_rfl) ⟨HV.out.drew, (Below.refl _ _).drew⟩ (fun hHeld => ?_)
  clear HV
  generalize w.drew = wz at *
  refine takeD 0 3 (.pointer (some ⟨r, 0, none⟩)) (by exact rfl) rfl (by kernel_rfl) (by kernel_rfl) (by kernel_rfl) (fun _ _ _ h => h) (Or.inl ⟨by rfl, ?_⟩) (by assumption) ?_
  · intro wq hS
    go_simp
  try simp only [Act.put, List.setIfInBounds_toArray, List.set_cons_zero, List.set_cons_succ]
  refine takeD 1 4 (.pointer (some ⟨r, 0, none⟩)) (by exact rfl) rfl (by kernel_rfl) (by kernel_rfl) (by kernel_rfl) (fun _ _ _ h => h) (Or.inl ⟨by rfl, ?_⟩) (by assumption) ?_
  · intro wq hS
    go_simp
  try simp only [Act.put, List.setIfInBounds_toArray, List.set_cons_zero, List.set_cons_succ]
  refine takeD 2 5 (.pointer (some ⟨r, 1, none⟩)) (by exact rfl) rfl (by kernel_rfl) (by kernel_rfl) (by kernel_rfl) (fun _ _ _ h => h) (Or.inl ⟨by rfl, ?_⟩) (by assumption) ?_
  · intro wq hS
    go_simp
  try simp only [Act.put, List.setIfInBounds_toArray, List.set_cons_zero, List.set_cons_succ]
  refine takeD 3 6 (.int .i64 (i : Int)) (by exact rfl) rfl (by kernel_rfl) (by kernel_rfl) (by kernel_rfl) (fun _ _ _ h => h) (Or.inl ⟨by rfl, ?_⟩) (by assumption) ?_
  · intro wq hS
    have h0 := hS.1.cell 1 (v := .int .i64 (i : Int)) rfl
    go_simp
  try simp only [Act.put, List.setIfInBounds_toArray, List.set_cons_zero, List.set_cons_succ]
  refine takeD 4 7 (.pointer (some ⟨r, 0, none⟩)) (by exact rfl) rfl (by kernel_rfl) (by kernel_rfl) (by kernel_rfl) (fun _ _ _ h => h) (Or.inl ⟨by rfl, ?_⟩) (by assumption) ?_
  · intro wq hS
    go_simp
  try simp only [Act.put, List.setIfInBounds_toArray, List.set_cons_zero, List.set_cons_succ]
  refine takeD 5 8 (.pointer (some ⟨r, 0, none⟩)) (by exact rfl) rfl (by kernel_rfl) (by kernel_rfl) (by kernel_rfl) (fun _ _ _ h => h) (Or.inl ⟨by rfl, ?_⟩) (by assumption) ?_
  · intro wq hS
    go_simp
  try simp only [Act.put, List.setIfInBounds_toArray, List.set_cons_zero, List.set_cons_succ]
  refine takeD 6 9 (.pointer (some ⟨r, 0, none⟩)) (by exact rfl) rfl (by kernel_rfl) (by kernel_rfl) (by kernel_rfl) (fun _ _ _ h => h) (Or.inl ⟨by rfl, ?_⟩) (by assumption) ?_
  · intro wq hS
    go_simp
  try simp only [Act.put, List.setIfInBounds_toArray, List.set_cons_zero, List.set_cons_succ]
  refine takeD 7 10 (.string s) (by exact rfl) rfl (by kernel_rfl) (by kernel_rfl) (by kernel_rfl) (fun _ _ _ h => h) (Or.inl ⟨by rfl, ?_⟩) (by assumption) ?_
  · intro wq hS
    have h0 := hS.1.cell 0 (v := .string s) rfl
    go_simp
  try simp only [Act.put, List.setIfInBounds_toArray, List.set_cons_zero, List.set_cons_succ]
  refine takeD 8 11 (.int .i64 (s.size : Int)) (by exact rfl) rfl (by kernel_rfl) (by kernel_rfl) (by kernel_rfl) (fun _ _ _ h => h) (Or.inl ⟨by rfl, ?_⟩) (by assumption) ?_
  · intro wq hS
    go_simp
  try simp only [Act.put, List.setIfInBounds_toArray, List.set_cons_zero, List.set_cons_succ]
  refine takeD 9 12 (.bool false) (by exact rfl) rfl (by kernel_rfl) (by kernel_rfl) (by kernel_rfl) (fun _ _ _ h => h) (Or.inl ⟨by rfl, ?_⟩) (by assumption) ?_
  · intro wq hS
    go_simp
  try simp only [Act.put, List.setIfInBounds_toArray, List.set_cons_zero, List.set_cons_succ]
  refine takeD 10 13 (.bool false) (by exact rfl) rfl (by kernel_rfl) (by kernel_rfl) (by kernel_rfl) (fun _ _ _ h => h) (Or.inl ⟨by rfl, ?_⟩) (by assumption) ?_
  · intro wq hS
    go_simp
  try simp only [Act.put, List.setIfInBounds_toArray, List.set_cons_zero, List.set_cons_succ]
  refine takeD 11 14 (.pointer (some ⟨r, 0, none⟩)) (by exact rfl) rfl (by kernel_rfl) (by kernel_rfl) (by kernel_rfl) (fun _ _ _ h => h) (Or.inl ⟨by rfl, ?_⟩) (by assumption) ?_
  · intro wq hS
    go_simp
  try simp only [Act.put, List.setIfInBounds_toArray, List.set_cons_zero, List.set_cons_succ]
  refine takeD 12 15 (.pointer (some ⟨r, 0, none⟩)) (by exact rfl) rfl (by kernel_rfl) (by kernel_rfl) (by kernel_rfl) (fun _ _ _ h => h) (Or.inl ⟨by rfl, ?_⟩) (by assumption) ?_
  · intro wq hS
    go_simp
  try simp only [Act.put, List.setIfInBounds_toArray, List.set_cons_zero, List.set_cons_succ]
  refine takeD 13 16 (.pointer (some ⟨r, 0, none⟩)) (by exact rfl) rfl (by kernel_rfl) (by kernel_rfl) (by kernel_rfl) (fun _ _ _ h => h) (Or.inl ⟨by rfl, ?_⟩) (by assumption) ?_
  · intro wq hS
    go_simp
  try simp only [Act.put, List.setIfInBounds_toArray, List.set_cons_zero, List.set_cons_succ]
  refine takeD 14 17 (.string s) (by exact rfl) rfl (by kernel_rfl) (by kernel_rfl) (by kernel_rfl) (fun _ _ _ h => h) (Or.inl ⟨by rfl, ?_⟩) (by assumption) ?_
  · intro wq hS
    have h0 := hS.1.cell 0 (v := .string s) rfl
    go_simp
  try simp only [Act.put, List.setIfInBounds_toArray, List.set_cons_zero, List.set_cons_succ]
  refine takeD 15 18 (.pointer (some ⟨r, 0, none⟩)) (by exact rfl) rfl (by kernel_rfl) (by kernel_rfl) (by kernel_rfl) (fun _ _ _ h => h) (Or.inl ⟨by rfl, ?_⟩) (by assumption) ?_
  · intro wq hS
    go_simp
  try simp only [Act.put, List.setIfInBounds_toArray, List.set_cons_zero, List.set_cons_succ]
  refine takeD 16 19 (.pointer (some ⟨r, 0, none⟩)) (by exact rfl) rfl (by kernel_rfl) (by kernel_rfl) (by kernel_rfl) (fun _ _ _ h => h) (Or.inl ⟨by rfl, ?_⟩) (by assumption) ?_
  · intro wq hS
    go_simp
  try simp only [Act.put, List.setIfInBounds_toArray, List.set_cons_zero, List.set_cons_succ]
  refine takeD 17 20 (.pointer (some ⟨r, 1, none⟩)) (by exact rfl) rfl (by kernel_rfl) (by kernel_rfl) (by kernel_rfl) (fun _ _ _ h => h) (Or.inl ⟨by rfl, ?_⟩) (by assumption) ?_
  · intro wq hS
    go_simp
  try simp only [Act.put, List.setIfInBounds_toArray, List.set_cons_zero, List.set_cons_succ]
  refine takeD 18 21 (.int .i64 (i : Int)) (by exact rfl) rfl (by kernel_rfl) (by kernel_rfl) (by kernel_rfl) (fun _ _ _ h => h) (Or.inl ⟨by rfl, ?_⟩) (by assumption) ?_
  · intro wq hS
    have h0 := hS.1.cell 1 (v := .int .i64 (i : Int)) rfl
    go_simp
  try simp only [Act.put, List.setIfInBounds_toArray, List.set_cons_zero, List.set_cons_succ]
  refine takeD 19 22 (.int .u8 ((s[i].toNat : Nat) : Int)) (by exact rfl) rfl (by kernel_rfl) (by kernel_rfl) (by kernel_rfl) (fun _ _ _ h => h) (Or.inl ⟨by rfl, ?_⟩) (by assumption) ?_
  · intro wq hS
    go_simp
  try simp only [Act.put, List.setIfInBounds_toArray, List.set_cons_zero, List.set_cons_succ]
  refine takeD 20 23 (.bool true) (by exact rfl) rfl (by kernel_rfl) (by kernel_rfl) (by kernel_rfl) (fun _ _ _ h => h) (Or.inl ⟨by rfl, ?_⟩) (by assumption) ?_
  · intro wq hS
    go_simp
  try simp only [Act.put, List.setIfInBounds_toArray, List.set_cons_zero, List.set_cons_succ]
  refine takeD 21 24 (.bool true) (by exact rfl) rfl (by kernel_rfl) (by kernel_rfl) (by kernel_rfl) (fun _ _ _ h => h) (Or.inl ⟨by rfl, ?_⟩) (by assumption) ?_
  · intro wq hS
    go_simp
  try simp only [Act.put, List.setIfInBounds_toArray, List.set_cons_zero, List.set_cons_succ]
  refine takeD 22 25 (.bool true) (by exact rfl) rfl (by kernel_rfl) (by kernel_rfl) (by kernel_rfl) (fun _ _ _ h => h) (Or.inl ⟨by rfl, ?_⟩) (by assumption) ?_
  · intro wq hS
    go_simp
  try simp only [Act.put, List.setIfInBounds_toArray, List.set_cons_zero, List.set_cons_succ]
  refine takeD 23 26 undef (by exact rfl) rfl (by kernel_rfl) (by kernel_rfl) (by kernel_rfl) (fun _ _ _ h => h) (Or.inr ⟨by rfl, rfl⟩) (by assumption) ?_
  try simp only [Act.put, List.setIfInBounds_toArray, List.set_cons_zero, List.set_cons_succ]
  refine takeD 24 27 undef (by exact rfl) rfl (by kernel_rfl) (by kernel_rfl) (by kernel_rfl) (fun _ _ _ h => h) (Or.inr ⟨by rfl, rfl⟩) (by assumption) ?_
  try simp only [Act.put, List.setIfInBounds_toArray, List.set_cons_zero, List.set_cons_succ]
  refine takeD 25 28 undef (by exact rfl) rfl (by kernel_rfl) (by kernel_rfl) (by kernel_rfl) (fun _ _ _ h => h) (Or.inr ⟨by rfl, rfl⟩) (by assumption) ?_
  try simp only [Act.put, List.setIfInBounds_toArray, List.set_cons_zero, List.set_cons_succ]
  refine takeD 26 29 undef (by exact rfl) rfl (by kernel_rfl) (by kernel_rfl) (by kernel_rfl) (fun _ _ _ h => h) (Or.inr ⟨by rfl, rfl⟩) (by assumption) ?_
  try simp only [Act.put, List.setIfInBounds_toArray, List.set_cons_zero, List.set_cons_succ]
  refine takeD 27 30 undef (by exact rfl) rfl (by kernel_rfl) (by kernel_rfl) (by kernel_rfl) (fun _ _ _ h => h) (Or.inr ⟨by rfl, rfl⟩) (by assumption) ?_
  try simp only [Act.put, List.setIfInBounds_toArray, List.set_cons_zero, List.set_cons_succ]
  refine takeD 28 31 undef (by exact rfl) rfl (by kernel_rfl) (by kernel_rfl) (by kernel_rfl) (fun _ _ _ h => h) (Or.inr ⟨by rfl, rfl⟩) (by assumption) ?_
  try simp only [Act.put, List.setIfInBounds_toArray, List.set_cons_zero, List.set_cons_succ]
  refine takeD 29 32 undef (by exact rfl) rfl (by kernel_rfl) (by kernel_rfl) (by kernel_rfl) (fun _ _ _ h => h) (Or.inr ⟨by rfl, rfl⟩) (by assumption) ?_
  try simp only [Act.put, List.setIfInBounds_toArray, List.set_cons_zero, List.set_cons_succ]
  refine takeD 30 33 undef (by exact rfl) rfl (by kernel_rfl) (by kernel_rfl) (by kernel_rfl) (fun _ _ _ h => h) (Or.inr ⟨by rfl, rfl⟩) (by assumption) ?_
  try simp only [Act.put, List.setIfInBounds_toArray, List.set_cons_zero, List.set_cons_succ]
  refine takeD 31 34 undef (by exact rfl) rfl (by kernel_rfl) (by kernel_rfl) (by kernel_rfl) (fun _ _ _ h => h) (Or.inr ⟨by rfl, rfl⟩) (by assumption) ?_
  try simp only [Act.put, List.setIfInBounds_toArray, List.set_cons_zero, List.set_cons_succ]
  refine takeD 32 35 undef (by exact rfl) rfl (by kernel_rfl) (by kernel_rfl) (by kernel_rfl) (fun _ _ _ h => h) (Or.inr ⟨by rfl, rfl⟩) (by assumption) ?_
  try simp only [Act.put, List.setIfInBounds_toArray, List.set_cons_zero, List.set_cons_succ]
  refine takeD 33 36 (.bool true) (by exact rfl) rfl (by kernel_rfl) (by kernel_rfl) (by kernel_rfl) (fun _ _ _ h => h) (Or.inl ⟨by rfl, ?_⟩) (by assumption) ?_
  · intro wq hS
    go_simp
  try simp only [Act.put, List.setIfInBounds_toArray, List.set_cons_zero, List.set_cons_succ]
  refine wpAnyH_done (by kernel_rfl) ?_ _
  refine NoPanic.normal ?_
  obtain ⟨hV, hU⟩ := hHeld
  have HV := (show Hid _ from hV)
  have HU := (show Hid _ from hU)
  clear hV hU
  go_wp2_with fail
  go_ret
  exact ⟨rfl, HV.out, HU.out⟩
set_option maxHeartbeats 2000000 in
theorem digit_high (r : Nat) (s : ByteArray) (i m0 m1 : Nat) (b : Bool) (w : World) (V : VA w r (rc s i m0 m1 b) 131) (h : i < s.size) (hc : 57 < ((s[i].toNat : Nat) : Int)) :
    Calls Tryz.prog 90 #[.pointer (some ⟨r, 0, none⟩)] w fun e w' => e = .returned (.bool false) ∧ VA w' r (rc s i m0 m1 b) 131 ∧ Below r w w' := by
  have hq : ((i : Int) == (s.size : Int)) = false := by simp; omega
  have hc2 : ¬ ((s[i].toNat : Nat) : Int) < 48 := by omega
  have HV := (show Hid _ from V)
  clear V
  go_enter Tryz.func90, Tryz.ntmps90
  go_upto_region 1 with fail
  refine wp_region_noPanic ?_
  refine wp_region_held_drew (S := fun w' => VA w' r (rc s i m0 m1 b) 131 ∧ Below r w w') (by kernel_rfl) ⟨HV.out.drew, (Below.refl _ _).drew⟩ (fun hHeld => ?_)
  clear HV
  generalize w.drew = wz at *
  refine takeD 0 3 (.pointer (some ⟨r, 0, none⟩)) (by exact rfl) rfl (by kernel_rfl) (by kernel_rfl) (by kernel_rfl) (fun _ _ _ h => h) (Or.inl ⟨by rfl, ?_⟩) (by assumption) ?_
  · intro wq hS
    go_simp
  try simp only [Act.put, List.setIfInBounds_toArray, List.set_cons_zero, List.set_cons_succ]
  refine takeD 1 4 (.pointer (some ⟨r, 0, none⟩)) (by exact rfl) rfl (by kernel_rfl) (by kernel_rfl) (by kernel_rfl) (fun _ _ _ h => h) (Or.inl ⟨by rfl, ?_⟩) (by assumption) ?_
  · intro wq hS
    go_simp
  try simp only [Act.put, List.setIfInBounds_toArray, List.set_cons_zero, List.set_cons_succ]
  refine takeD 2 5 (.pointer (some ⟨r, 1, none⟩)) (by exact rfl) rfl (by kernel_rfl) (by kernel_rfl) (by kernel_rfl) (fun _ _ _ h => h) (Or.inl ⟨by rfl, ?_⟩) (by assumption) ?_
  · intro wq hS
    go_simp
  try simp only [Act.put, List.setIfInBounds_toArray, List.set_cons_zero, List.set_cons_succ]
  refine takeD 3 6 (.int .i64 (i : Int)) (by exact rfl) rfl (by kernel_rfl) (by kernel_rfl) (by kernel_rfl) (fun _ _ _ h => h) (Or.inl ⟨by rfl, ?_⟩) (by assumption) ?_
  · intro wq hS
    have h0 := hS.1.cell 1 (v := .int .i64 (i : Int)) rfl
    go_simp
  try simp only [Act.put, List.setIfInBounds_toArray, List.set_cons_zero, List.set_cons_succ]
  refine takeD 4 7 (.pointer (some ⟨r, 0, none⟩)) (by exact rfl) rfl (by kernel_rfl) (by kernel_rfl) (by kernel_rfl) (fun _ _ _ h => h) (Or.inl ⟨by rfl, ?_⟩) (by assumption) ?_
  · intro wq hS
    go_simp
  try simp only [Act.put, List.setIfInBounds_toArray, List.set_cons_zero, List.set_cons_succ]
  refine takeD 5 8 (.pointer (some ⟨r, 0, none⟩)) (by exact rfl) rfl (by kernel_rfl) (by kernel_rfl) (by kernel_rfl) (fun _ _ _ h => h) (Or.inl ⟨by rfl, ?_⟩) (by assumption) ?_
  · intro wq hS
    go_simp
  try simp only [Act.put, List.setIfInBounds_toArray, List.set_cons_zero, List.set_cons_succ]
  refine takeD 6 9 (.pointer (some ⟨r, 0, none⟩)) (by exact rfl) rfl (by kernel_rfl) (by kernel_rfl) (by kernel_rfl) (fun _ _ _ h => h) (Or.inl ⟨by rfl, ?_⟩) (by assumption) ?_
  · intro wq hS
    go_simp
  try simp only [Act.put, List.setIfInBounds_toArray, List.set_cons_zero, List.set_cons_succ]
  refine takeD 7 10 (.string s) (by exact rfl) rfl (by kernel_rfl) (by kernel_rfl) (by kernel_rfl) (fun _ _ _ h => h) (Or.inl ⟨by rfl, ?_⟩) (by assumption) ?_
  · intro wq hS
    have h0 := hS.1.cell 0 (v := .string s) rfl
    go_simp
  try simp only [Act.put, List.setIfInBounds_toArray, List.set_cons_zero, List.set_cons_succ]
  refine takeD 8 11 (.int .i64 (s.size : Int)) (by exact rfl) rfl (by kernel_rfl) (by kernel_rfl) (by kernel_rfl) (fun _ _ _ h => h) (Or.inl ⟨by rfl, ?_⟩) (by assumption) ?_
  · intro wq hS
    go_simp
  try simp only [Act.put, List.setIfInBounds_toArray, List.set_cons_zero, List.set_cons_succ]
  refine takeD 9 12 (.bool false) (by exact rfl) rfl (by kernel_rfl) (by kernel_rfl) (by kernel_rfl) (fun _ _ _ h => h) (Or.inl ⟨by rfl, ?_⟩) (by assumption) ?_
  · intro wq hS
    go_simp
  try simp only [Act.put, List.setIfInBounds_toArray, List.set_cons_zero, List.set_cons_succ]
  refine takeD 10 13 (.bool false) (by exact rfl) rfl (by kernel_rfl) (by kernel_rfl) (by kernel_rfl) (fun _ _ _ h => h) (Or.inl ⟨by rfl, ?_⟩) (by assumption) ?_
  · intro wq hS
    go_simp
  try simp only [Act.put, List.setIfInBounds_toArray, List.set_cons_zero, List.set_cons_succ]
  refine takeD 11 14 (.pointer (some ⟨r, 0, none⟩)) (by exact rfl) rfl (by kernel_rfl) (by kernel_rfl) (by kernel_rfl) (fun _ _ _ h => h) (Or.inl ⟨by rfl, ?_⟩) (by assumption) ?_
  · intro wq hS
    go_simp
  try simp only [Act.put, List.setIfInBounds_toArray, List.set_cons_zero, List.set_cons_succ]
  refine takeD 12 15 (.pointer (some ⟨r, 0, none⟩)) (by exact rfl) rfl (by kernel_rfl) (by kernel_rfl) (by kernel_rfl) (fun _ _ _ h => h) (Or.inl ⟨by rfl, ?_⟩) (by assumption) ?_
  · intro wq hS
    go_simp
  try simp only [Act.put, List.setIfInBounds_toArray, List.set_cons_zero, List.set_cons_succ]
  refine takeD 13 16 (.pointer (some ⟨r, 0, none⟩)) (by exact rfl) rfl (by kernel_rfl) (by kernel_rfl) (by kernel_rfl) (fun _ _ _ h => h) (Or.inl ⟨by rfl, ?_⟩) (by assumption) ?_
  · intro wq hS
    go_simp
  try simp only [Act.put, List.setIfInBounds_toArray, List.set_cons_zero, List.set_cons_succ]
  refine takeD 14 17 (.string s) (by exact rfl) rfl (by kernel_rfl) (by kernel_rfl) (by kernel_rfl) (fun _ _ _ h => h) (Or.inl ⟨by rfl, ?_⟩) (by assumption) ?_
  · intro wq hS
    have h0 := hS.1.cell 0 (v := .string s) rfl
    go_simp
  try simp only [Act.put, List.setIfInBounds_toArray, List.set_cons_zero, List.set_cons_succ]
  refine takeD 15 18 (.pointer (some ⟨r, 0, none⟩)) (by exact rfl) rfl (by kernel_rfl) (by kernel_rfl) (by kernel_rfl) (fun _ _ _ h => h) (Or.inl ⟨by rfl, ?_⟩) (by assumption) ?_
  · intro wq hS
    go_simp
  try simp only [Act.put, List.setIfInBounds_toArray, List.set_cons_zero, List.set_cons_succ]
  refine takeD 16 19 (.pointer (some ⟨r, 0, none⟩)) (by exact rfl) rfl (by kernel_rfl) (by kernel_rfl) (by kernel_rfl) (fun _ _ _ h => h) (Or.inl ⟨by rfl, ?_⟩) (by assumption) ?_
  · intro wq hS
    go_simp
  try simp only [Act.put, List.setIfInBounds_toArray, List.set_cons_zero, List.set_cons_succ]
  refine takeD 17 20 (.pointer (some ⟨r, 1, none⟩)) (by exact rfl) rfl (by kernel_rfl) (by kernel_rfl) (by kernel_rfl) (fun _ _ _ h => h) (Or.inl ⟨by rfl, ?_⟩) (by assumption) ?_
  · intro wq hS
    go_simp
  try simp only [Act.put, List.setIfInBounds_toArray, List.set_cons_zero, List.set_cons_succ]
  refine takeD 18 21 (.int .i64 (i : Int)) (by exact rfl) rfl (by kernel_rfl) (by kernel_rfl) (by kernel_rfl) (fun _ _ _ h => h) (Or.inl ⟨by rfl, ?_⟩) (by assumption) ?_
  · intro wq hS
    have h0 := hS.1.cell 1 (v := .int .i64 (i : Int)) rfl
    go_simp
  try simp only [Act.put, List.setIfInBounds_toArray, List.set_cons_zero, List.set_cons_succ]
  refine takeD 19 22 (.int .u8 ((s[i].toNat : Nat) : Int)) (by exact rfl) rfl (by kernel_rfl) (by kernel_rfl) (by kernel_rfl) (fun _ _ _ h => h) (Or.inl ⟨by rfl, ?_⟩) (by assumption) ?_
  · intro wq hS
    go_simp
  try simp only [Act.put, List.setIfInBounds_toArray, List.set_cons_zero, List.set_cons_succ]
  refine takeD 20 23 (.bool false) (by exact rfl) rfl (by kernel_rfl) (by kernel_rfl) (by kernel_rfl) (fun _ _ _ h => h) (Or.inl ⟨by rfl, ?_⟩) (by assumption) ?_
  · intro wq hS
    go_simp
  try simp only [Act.put, List.setIfInBounds_toArray, List.set_cons_zero, List.set_cons_succ]
  refine takeD 21 24 (.bool false) (by exact rfl) rfl (by kernel_rfl) (by kernel_rfl) (by kernel_rfl) (fun _ _ _ h => h) (Or.inl ⟨by rfl, ?_⟩) (by assumption) ?_
  · intro wq hS
    go_simp
  try simp only [Act.put, List.setIfInBounds_toArray, List.set_cons_zero, List.set_cons_succ]
  refine takeD 22 25 (.bool false) (by exact rfl) rfl (by kernel_rfl) (by kernel_rfl) (by kernel_rfl) (fun _ _ _ h => h) (Or.inl ⟨by rfl, ?_⟩) (by assumption) ?_
  · intro wq hS
    go_simp
  try simp only [Act.put, List.setIfInBounds_toArray, List.set_cons_zero, List.set_cons_succ]
  refine takeD 23 26 (.pointer (some ⟨r, 0, none⟩)) (by exact rfl) rfl (by kernel_rfl) (by kernel_rfl) (by kernel_rfl) (fun _ _ _ h => h) (Or.inl ⟨by rfl, ?_⟩) (by assumption) ?_
  · intro wq hS
    go_simp
  try simp only [Act.put, List.setIfInBounds_toArray, List.set_cons_zero, List.set_cons_succ]
  refine takeD 24 27 (.pointer (some ⟨r, 0, none⟩)) (by exact rfl) rfl (by kernel_rfl) (by kernel_rfl) (by kernel_rfl) (fun _ _ _ h => h) (Or.inl ⟨by rfl, ?_⟩) (by assumption) ?_
  · intro wq hS
    go_simp
  try simp only [Act.put, List.setIfInBounds_toArray, List.set_cons_zero, List.set_cons_succ]
  refine takeD 25 28 (.pointer (some ⟨r, 0, none⟩)) (by exact rfl) rfl (by kernel_rfl) (by kernel_rfl) (by kernel_rfl) (fun _ _ _ h => h) (Or.inl ⟨by rfl, ?_⟩) (by assumption) ?_
  · intro wq hS
    go_simp
  try simp only [Act.put, List.setIfInBounds_toArray, List.set_cons_zero, List.set_cons_succ]
  refine takeD 26 29 (.string s) (by exact rfl) rfl (by kernel_rfl) (by kernel_rfl) (by kernel_rfl) (fun _ _ _ h => h) (Or.inl ⟨by rfl, ?_⟩) (by assumption) ?_
  · intro wq hS
    have h0 := hS.1.cell 0 (v := .string s) rfl
    go_simp
  try simp only [Act.put, List.setIfInBounds_toArray, List.set_cons_zero, List.set_cons_succ]
  refine takeD 27 30 (.pointer (some ⟨r, 0, none⟩)) (by exact rfl) rfl (by kernel_rfl) (by kernel_rfl) (by kernel_rfl) (fun _ _ _ h => h) (Or.inl ⟨by rfl, ?_⟩) (by assumption) ?_
  · intro wq hS
    go_simp
  try simp only [Act.put, List.setIfInBounds_toArray, List.set_cons_zero, List.set_cons_succ]
  refine takeD 28 31 (.pointer (some ⟨r, 0, none⟩)) (by exact rfl) rfl (by kernel_rfl) (by kernel_rfl) (by kernel_rfl) (fun _ _ _ h => h) (Or.inl ⟨by rfl, ?_⟩) (by assumption) ?_
  · intro wq hS
    go_simp
  try simp only [Act.put, List.setIfInBounds_toArray, List.set_cons_zero, List.set_cons_succ]
  refine takeD 29 32 (.pointer (some ⟨r, 1, none⟩)) (by exact rfl) rfl (by kernel_rfl) (by kernel_rfl) (by kernel_rfl) (fun _ _ _ h => h) (Or.inl ⟨by rfl, ?_⟩) (by assumption) ?_
  · intro wq hS
    go_simp
  try simp only [Act.put, List.setIfInBounds_toArray, List.set_cons_zero, List.set_cons_succ]
  refine takeD 30 33 (.int .i64 (i : Int)) (by exact rfl) rfl (by kernel_rfl) (by kernel_rfl) (by kernel_rfl) (fun _ _ _ h => h) (Or.inl ⟨by rfl, ?_⟩) (by assumption) ?_
  · intro wq hS
    have h0 := hS.1.cell 1 (v := .int .i64 (i : Int)) rfl
    go_simp
  try simp only [Act.put, List.setIfInBounds_toArray, List.set_cons_zero, List.set_cons_succ]
  refine takeD 31 34 (.int .u8 ((s[i].toNat : Nat) : Int)) (by exact rfl) rfl (by kernel_rfl) (by kernel_rfl) (by kernel_rfl) (fun _ _ _ h => h) (Or.inl ⟨by rfl, ?_⟩) (by assumption) ?_
  · intro wq hS
    go_simp
  try simp only [Act.put, List.setIfInBounds_toArray, List.set_cons_zero, List.set_cons_succ]
  refine takeD 32 35 (.bool true) (by exact rfl) rfl (by kernel_rfl) (by kernel_rfl) (by kernel_rfl) (fun _ _ _ h => h) (Or.inl ⟨by rfl, ?_⟩) (by assumption) ?_
  · intro wq hS
    go_simp
  try simp only [Act.put, List.setIfInBounds_toArray, List.set_cons_zero, List.set_cons_succ]
  refine takeD 33 36 (.bool true) (by exact rfl) rfl (by kernel_rfl) (by kernel_rfl) (by kernel_rfl) (fun _ _ _ h => h) (Or.inl ⟨by rfl, ?_⟩) (by assumption) ?_
  · intro wq hS
    go_simp
  try simp only [Act.put, List.setIfInBounds_toArray, List.set_cons_zero, List.set_cons_succ]
  refine wpAnyH_done (by kernel_rfl) ?_ _
  refine NoPanic.normal ?_
  obtain ⟨hV, hU⟩ := hHeld
  have HV := (show Hid _ from hV)
  have HU := (show Hid _ from hU)
  clear hV hU
  go_wp2_with fail
  go_ret
  exact ⟨rfl, HV.out, HU.out⟩
set_option maxHeartbeats 2000000 in
theorem digit_yes (r : Nat) (s : ByteArray) (i m0 m1 : Nat) (b : Bool) (w : World) (V : VA w r (rc s i m0 m1 b) 131) (h : i < s.size) (hb : s.size ≤ 64) (hc : 48 ≤ ((s[i].toNat : Nat) : Int)) (hc3 : ((s[i].toNat : Nat) : Int) ≤ 57) (x0 x1 : Nat) (b2 : Bool) (hk : ∀ w, VA w r (rc s i m0 m1 b) 131 → Calls Tryz.prog 103 #[.pointer (some ⟨r, 0, none⟩), .int .u8 (((s[i].toNat : Nat) : Int) - 48)] w fun e w' => e = .returned (.tuple #[]) ∧ VA w' r (rc s i x0 x1 b2) 131 ∧ Below r w w') :
    Calls Tryz.prog 90 #[.pointer (some ⟨r, 0, none⟩)] w fun e w' => e = .returned (.bool true) ∧ VA w' r (rc s (i + 1) x0 x1 b2) 131 ∧ Below r w w' := by
  have hq : ((i : Int) == (s.size : Int)) = false := by simp; omega
  have hc2 : ¬ ((s[i].toNat : Nat) : Int) < 48 := by omega
  have hc4 : ¬ 57 < ((s[i].toNat : Nat) : Int) := by omega
  have HV := (show Hid _ from V)
  clear V
  go_enter Tryz.func90, Tryz.ntmps90
  go_upto_region 1 with fail
  refine wp_region_noPanic ?_
  refine wp_region_held_drew (S := fun w' => VA w' r (rc s i m0 m1 b) 131 ∧ Below r w w') (by kernel_rfl) ⟨HV.out.drew, (Below.refl _ _).drew⟩ (fun hHeld => ?_)
  clear HV
  generalize w.drew = wz at *
  refine takeD 0 3 (.pointer (some ⟨r, 0, none⟩)) (by exact rfl) rfl (by kernel_rfl) (by kernel_rfl) (by kernel_rfl) (fun _ _ _ h => h) (Or.inl ⟨by rfl, ?_⟩) (by assumption) ?_
  · intro wq hS
    go_simp
  try simp only [Act.put, List.setIfInBounds_toArray, List.set_cons_zero, List.set_cons_succ]
  refine takeD 1 4 (.pointer (some ⟨r, 0, none⟩)) (by exact rfl) rfl (by kernel_rfl) (by kernel_rfl) (by kernel_rfl) (fun _ _ _ h => h) (Or.inl ⟨by rfl, ?_⟩) (by assumption) ?_
  · intro wq hS
    go_simp
  try simp only [Act.put, List.setIfInBounds_toArray, List.set_cons_zero, List.set_cons_succ]
  refine takeD 2 5 (.pointer (some ⟨r, 1, none⟩)) (by exact rfl) rfl (by kernel_rfl) (by kernel_rfl) (by kernel_rfl) (fun _ _ _ h => h) (Or.inl ⟨by rfl, ?_⟩) (by assumption) ?_
  · intro wq hS
    go_simp
  try simp only [Act.put, List.setIfInBounds_toArray, List.set_cons_zero, List.set_cons_succ]
  refine takeD 3 6 (.int .i64 (i : Int)) (by exact rfl) rfl (by kernel_rfl) (by kernel_rfl) (by kernel_rfl) (fun _ _ _ h => h) (Or.inl ⟨by rfl, ?_⟩) (by assumption) ?_
  · intro wq hS
    have h0 := hS.1.cell 1 (v := .int .i64 (i : Int)) rfl
    go_simp
  try simp only [Act.put, List.setIfInBounds_toArray, List.set_cons_zero, List.set_cons_succ]
  refine takeD 4 7 (.pointer (some ⟨r, 0, none⟩)) (by exact rfl) rfl (by kernel_rfl) (by kernel_rfl) (by kernel_rfl) (fun _ _ _ h => h) (Or.inl ⟨by rfl, ?_⟩) (by assumption) ?_
  · intro wq hS
    go_simp
  try simp only [Act.put, List.setIfInBounds_toArray, List.set_cons_zero, List.set_cons_succ]
  refine takeD 5 8 (.pointer (some ⟨r, 0, none⟩)) (by exact rfl) rfl (by kernel_rfl) (by kernel_rfl) (by kernel_rfl) (fun _ _ _ h => h) (Or.inl ⟨by rfl, ?_⟩) (by assumption) ?_
  · intro wq hS
    go_simp
  try simp only [Act.put, List.setIfInBounds_toArray, List.set_cons_zero, List.set_cons_succ]
  refine takeD 6 9 (.pointer (some ⟨r, 0, none⟩)) (by exact rfl) rfl (by kernel_rfl) (by kernel_rfl) (by kernel_rfl) (fun _ _ _ h => h) (Or.inl ⟨by rfl, ?_⟩) (by assumption) ?_
  · intro wq hS
    go_simp
  try simp only [Act.put, List.setIfInBounds_toArray, List.set_cons_zero, List.set_cons_succ]
  refine takeD 7 10 (.string s) (by exact rfl) rfl (by kernel_rfl) (by kernel_rfl) (by kernel_rfl) (fun _ _ _ h => h) (Or.inl ⟨by rfl, ?_⟩) (by assumption) ?_
  · intro wq hS
    have h0 := hS.1.cell 0 (v := .string s) rfl
    go_simp
  try simp only [Act.put, List.setIfInBounds_toArray, List.set_cons_zero, List.set_cons_succ]
  refine takeD 8 11 (.int .i64 (s.size : Int)) (by exact rfl) rfl (by kernel_rfl) (by kernel_rfl) (by kernel_rfl) (fun _ _ _ h => h) (Or.inl ⟨by rfl, ?_⟩) (by assumption) ?_
  · intro wq hS
    go_simp
  try simp only [Act.put, List.setIfInBounds_toArray, List.set_cons_zero, List.set_cons_succ]
  refine takeD 9 12 (.bool false) (by exact rfl) rfl (by kernel_rfl) (by kernel_rfl) (by kernel_rfl) (fun _ _ _ h => h) (Or.inl ⟨by rfl, ?_⟩) (by assumption) ?_
  · intro wq hS
    go_simp
  try simp only [Act.put, List.setIfInBounds_toArray, List.set_cons_zero, List.set_cons_succ]
  refine takeD 10 13 (.bool false) (by exact rfl) rfl (by kernel_rfl) (by kernel_rfl) (by kernel_rfl) (fun _ _ _ h => h) (Or.inl ⟨by rfl, ?_⟩) (by assumption) ?_
  · intro wq hS
    go_simp
  try simp only [Act.put, List.setIfInBounds_toArray, List.set_cons_zero, List.set_cons_succ]
  refine takeD 11 14 (.pointer (some ⟨r, 0, none⟩)) (by exact rfl) rfl (by kernel_rfl) (by kernel_rfl) (by kernel_rfl) (fun _ _ _ h => h) (Or.inl ⟨by rfl, ?_⟩) (by assumption) ?_
  · intro wq hS
    go_simp
  try simp only [Act.put, List.setIfInBounds_toArray, List.set_cons_zero, List.set_cons_succ]
  refine takeD 12 15 (.pointer (some ⟨r, 0, none⟩)) (by exact rfl) rfl (by kernel_rfl) (by kernel_rfl) (by kernel_rfl) (fun _ _ _ h => h) (Or.inl ⟨by rfl, ?_⟩) (by assumption) ?_
  · intro wq hS
    go_simp
  try simp only [Act.put, List.setIfInBounds_toArray, List.set_cons_zero, List.set_cons_succ]
  refine takeD 13 16 (.pointer (some ⟨r, 0, none⟩)) (by exact rfl) rfl (by kernel_rfl) (by kernel_rfl) (by kernel_rfl) (fun _ _ _ h => h) (Or.inl ⟨by rfl, ?_⟩) (by assumption) ?_
  · intro wq hS
    go_simp
  try simp only [Act.put, List.setIfInBounds_toArray, List.set_cons_zero, List.set_cons_succ]
  refine takeD 14 17 (.string s) (by exact rfl) rfl (by kernel_rfl) (by kernel_rfl) (by kernel_rfl) (fun _ _ _ h => h) (Or.inl ⟨by rfl, ?_⟩) (by assumption) ?_
  · intro wq hS
    have h0 := hS.1.cell 0 (v := .string s) rfl
    go_simp
  try simp only [Act.put, List.setIfInBounds_toArray, List.set_cons_zero, List.set_cons_succ]
  refine takeD 15 18 (.pointer (some ⟨r, 0, none⟩)) (by exact rfl) rfl (by kernel_rfl) (by kernel_rfl) (by kernel_rfl) (fun _ _ _ h => h) (Or.inl ⟨by rfl, ?_⟩) (by assumption) ?_
  · intro wq hS
    go_simp
  try simp only [Act.put, List.setIfInBounds_toArray, List.set_cons_zero, List.set_cons_succ]
  refine takeD 16 19 (.pointer (some ⟨r, 0, none⟩)) (by exact rfl) rfl (by kernel_rfl) (by kernel_rfl) (by kernel_rfl) (fun _ _ _ h => h) (Or.inl ⟨by rfl, ?_⟩) (by assumption) ?_
  · intro wq hS
    go_simp
  try simp only [Act.put, List.setIfInBounds_toArray, List.set_cons_zero, List.set_cons_succ]
  refine takeD 17 20 (.pointer (some ⟨r, 1, none⟩)) (by exact rfl) rfl (by kernel_rfl) (by kernel_rfl) (by kernel_rfl) (fun _ _ _ h => h) (Or.inl ⟨by rfl, ?_⟩) (by assumption) ?_
  · intro wq hS
    go_simp
  try simp only [Act.put, List.setIfInBounds_toArray, List.set_cons_zero, List.set_cons_succ]
  refine takeD 18 21 (.int .i64 (i : Int)) (by exact rfl) rfl (by kernel_rfl) (by kernel_rfl) (by kernel_rfl) (fun _ _ _ h => h) (Or.inl ⟨by rfl, ?_⟩) (by assumption) ?_
  · intro wq hS
    have h0 := hS.1.cell 1 (v := .int .i64 (i : Int)) rfl
    go_simp
  try simp only [Act.put, List.setIfInBounds_toArray, List.set_cons_zero, List.set_cons_succ]
  refine takeD 19 22 (.int .u8 ((s[i].toNat : Nat) : Int)) (by exact rfl) rfl (by kernel_rfl) (by kernel_rfl) (by kernel_rfl) (fun _ _ _ h => h) (Or.inl ⟨by rfl, ?_⟩) (by assumption) ?_
  · intro wq hS
    go_simp
  try simp only [Act.put, List.setIfInBounds_toArray, List.set_cons_zero, List.set_cons_succ]
  refine takeD 20 23 (.bool false) (by exact rfl) rfl (by kernel_rfl) (by kernel_rfl) (by kernel_rfl) (fun _ _ _ h => h) (Or.inl ⟨by rfl, ?_⟩) (by assumption) ?_
  · intro wq hS
    go_simp
  try simp only [Act.put, List.setIfInBounds_toArray, List.set_cons_zero, List.set_cons_succ]
  refine takeD 21 24 (.bool false) (by exact rfl) rfl (by kernel_rfl) (by kernel_rfl) (by kernel_rfl) (fun _ _ _ h => h) (Or.inl ⟨by rfl, ?_⟩) (by assumption) ?_
  · intro wq hS
    go_simp
  try simp only [Act.put, List.setIfInBounds_toArray, List.set_cons_zero, List.set_cons_succ]
  refine takeD 22 25 (.bool false) (by exact rfl) rfl (by kernel_rfl) (by kernel_rfl) (by kernel_rfl) (fun _ _ _ h => h) (Or.inl ⟨by rfl, ?_⟩) (by assumption) ?_
  · intro wq hS
    go_simp
  try simp only [Act.put, List.setIfInBounds_toArray, List.set_cons_zero, List.set_cons_succ]
  refine takeD 23 26 (.pointer (some ⟨r, 0, none⟩)) (by exact rfl) rfl (by kernel_rfl) (by kernel_rfl) (by kernel_rfl) (fun _ _ _ h => h) (Or.inl ⟨by rfl, ?_⟩) (by assumption) ?_
  · intro wq hS
    go_simp
  try simp only [Act.put, List.setIfInBounds_toArray, List.set_cons_zero, List.set_cons_succ]
  refine takeD 24 27 (.pointer (some ⟨r, 0, none⟩)) (by exact rfl) rfl (by kernel_rfl) (by kernel_rfl) (by kernel_rfl) (fun _ _ _ h => h) (Or.inl ⟨by rfl, ?_⟩) (by assumption) ?_
  · intro wq hS
    go_simp
  try simp only [Act.put, List.setIfInBounds_toArray, List.set_cons_zero, List.set_cons_succ]
  refine takeD 25 28 (.pointer (some ⟨r, 0, none⟩)) (by exact rfl) rfl (by kernel_rfl) (by kernel_rfl) (by kernel_rfl) (fun _ _ _ h => h) (Or.inl ⟨by rfl, ?_⟩) (by assumption) ?_
  · intro wq hS
    go_simp
  try simp only [Act.put, List.setIfInBounds_toArray, List.set_cons_zero, List.set_cons_succ]
  refine takeD 26 29 (.string s) (by exact rfl) rfl (by kernel_rfl) (by kernel_rfl) (by kernel_rfl) (fun _ _ _ h => h) (Or.inl ⟨by rfl, ?_⟩) (by assumption) ?_
  · intro wq hS
    have h0 := hS.1.cell 0 (v := .string s) rfl
    go_simp
  try simp only [Act.put, List.setIfInBounds_toArray, List.set_cons_zero, List.set_cons_succ]
  refine takeD 27 30 (.pointer (some ⟨r, 0, none⟩)) (by exact rfl) rfl (by kernel_rfl) (by kernel_rfl) (by kernel_rfl) (fun _ _ _ h => h) (Or.inl ⟨by rfl, ?_⟩) (by assumption) ?_
  · intro wq hS
    go_simp
  try simp only [Act.put, List.setIfInBounds_toArray, List.set_cons_zero, List.set_cons_succ]
  refine takeD 28 31 (.pointer (some ⟨r, 0, none⟩)) (by exact rfl) rfl (by kernel_rfl) (by kernel_rfl) (by kernel_rfl) (fun _ _ _ h => h) (Or.inl ⟨by rfl, ?_⟩) (by assumption) ?_
  · intro wq hS
    go_simp
  try simp only [Act.put, List.setIfInBounds_toArray, List.set_cons_zero, List.set_cons_succ]
  refine takeD 29 32 (.pointer (some ⟨r, 1, none⟩)) (by exact rfl) rfl (by kernel_rfl) (by kernel_rfl) (by kernel_rfl) (fun _ _ _ h => h) (Or.inl ⟨by rfl, ?_⟩) (by assumption) ?_
  · intro wq hS
    go_simp
  try simp only [Act.put, List.setIfInBounds_toArray, List.set_cons_zero, List.set_cons_succ]
  refine takeD 30 33 (.int .i64 (i : Int)) (by exact rfl) rfl (by kernel_rfl) (by kernel_rfl) (by kernel_rfl) (fun _ _ _ h => h) (Or.inl ⟨by rfl, ?_⟩) (by assumption) ?_
  · intro wq hS
    have h0 := hS.1.cell 1 (v := .int .i64 (i : Int)) rfl
    go_simp
  try simp only [Act.put, List.setIfInBounds_toArray, List.set_cons_zero, List.set_cons_succ]
  refine takeD 31 34 (.int .u8 ((s[i].toNat : Nat) : Int)) (by exact rfl) rfl (by kernel_rfl) (by kernel_rfl) (by kernel_rfl) (fun _ _ _ h => h) (Or.inl ⟨by rfl, ?_⟩) (by assumption) ?_
  · intro wq hS
    go_simp
  try simp only [Act.put, List.setIfInBounds_toArray, List.set_cons_zero, List.set_cons_succ]
  refine takeD 32 35 (.bool false) (by exact rfl) rfl (by kernel_rfl) (by kernel_rfl) (by kernel_rfl) (fun _ _ _ h => h) (Or.inl ⟨by rfl, ?_⟩) (by assumption) ?_
  · intro wq hS
    go_simp
  try simp only [Act.put, List.setIfInBounds_toArray, List.set_cons_zero, List.set_cons_succ]
  refine takeD 33 36 (.bool false) (by exact rfl) rfl (by kernel_rfl) (by kernel_rfl) (by kernel_rfl) (fun _ _ _ h => h) (Or.inl ⟨by rfl, ?_⟩) (by assumption) ?_
  · intro wq hS
    go_simp
  try simp only [Act.put, List.setIfInBounds_toArray, List.set_cons_zero, List.set_cons_succ]
  refine wpAnyH_done (by kernel_rfl) ?_ _
  refine NoPanic.normal ?_
  obtain ⟨hV, hU⟩ := hHeld
  have HV := (show Hid _ from hV)
  have HU := (show Hid _ from hU)
  clear hV hU
  go_upto_region 3 with fail
  refine wp_region_noPanic ?_
  refine wp_region_held_drew (S := fun w' => ∃ y0 y1 c2, VA w' r (rc s i y0 y1 c2) 131 ∧ Below r w w') (by kernel_rfl) ⟨m0, m1, b, HV.out.drew, HU.out.drew⟩ (fun hHeld => ?_)
  have HVz := (show Hid _ from HV.out.drew)
  have HUz := (show Hid _ from HU.out.drew)
  clear HV HU
  generalize wz.drew = wy at *
  refine takeD 0 37 (.pointer (some ⟨r, 0, none⟩)) (by exact rfl) rfl (by kernel_rfl) (by kernel_rfl) (by kernel_rfl) (fun _ _ _ h => h) (Or.inl ⟨by rfl, ?_⟩) (by assumption) ?_
  · intro wq hS
    go_simp
  try simp only [Act.put, List.setIfInBounds_toArray, List.set_cons_zero, List.set_cons_succ]
  refine takeD 1 38 (.pointer (some ⟨r, 0, none⟩)) (by exact rfl) rfl (by kernel_rfl) (by kernel_rfl) (by kernel_rfl) (fun _ _ _ h => h) (Or.inl ⟨by rfl, ?_⟩) (by assumption) ?_
  · intro wq hS
    go_simp
  try simp only [Act.put, List.setIfInBounds_toArray, List.set_cons_zero, List.set_cons_succ]
  refine takeD 2 39 (.pointer (some ⟨r, 0, none⟩)) (by exact rfl) rfl (by kernel_rfl) (by kernel_rfl) (by kernel_rfl) (fun _ _ _ h => h) (Or.inl ⟨by rfl, ?_⟩) (by assumption) ?_
  · intro wq hS
    go_simp
  try simp only [Act.put, List.setIfInBounds_toArray, List.set_cons_zero, List.set_cons_succ]
  refine takeD 3 40 (.pointer (some ⟨r, 0, none⟩)) (by exact rfl) rfl (by kernel_rfl) (by kernel_rfl) (by kernel_rfl) (fun _ _ _ h => h) (Or.inl ⟨by rfl, ?_⟩) (by assumption) ?_
  · intro wq hS
    go_simp
  try simp only [Act.put, List.setIfInBounds_toArray, List.set_cons_zero, List.set_cons_succ]
  refine takeD 4 41 (.string s) (by exact rfl) rfl (by kernel_rfl) (by kernel_rfl) (by kernel_rfl) (fun _ _ _ h => h) (Or.inl ⟨by rfl, ?_⟩) (by assumption) ?_
  · intro wq hS
    obtain ⟨_, _, _, hSv, _⟩ := hS
    have h0 := hSv.cell 0 (v := .string s) rfl
    go_simp
  try simp only [Act.put, List.setIfInBounds_toArray, List.set_cons_zero, List.set_cons_succ]
  refine takeD 5 42 (.pointer (some ⟨r, 0, none⟩)) (by exact rfl) rfl (by kernel_rfl) (by kernel_rfl) (by kernel_rfl) (fun _ _ _ h => h) (Or.inl ⟨by rfl, ?_⟩) (by assumption) ?_
  · intro wq hS
    go_simp
  try simp only [Act.put, List.setIfInBounds_toArray, List.set_cons_zero, List.set_cons_succ]
  refine takeD 6 43 (.pointer (some ⟨r, 0, none⟩)) (by exact rfl) rfl (by kernel_rfl) (by kernel_rfl) (by kernel_rfl) (fun _ _ _ h => h) (Or.inl ⟨by rfl, ?_⟩) (by assumption) ?_
  · intro wq hS
    go_simp
  try simp only [Act.put, List.setIfInBounds_toArray, List.set_cons_zero, List.set_cons_succ]
  refine takeD 7 44 (.pointer (some ⟨r, 1, none⟩)) (by exact rfl) rfl (by kernel_rfl) (by kernel_rfl) (by kernel_rfl) (fun _ _ _ h => h) (Or.inl ⟨by rfl, ?_⟩) (by assumption) ?_
  · intro wq hS
    go_simp
  try simp only [Act.put, List.setIfInBounds_toArray, List.set_cons_zero, List.set_cons_succ]
  refine takeD 8 45 (.int .i64 (i : Int)) (by exact rfl) rfl (by kernel_rfl) (by kernel_rfl) (by kernel_rfl) (fun _ _ _ h => h) (Or.inl ⟨by rfl, ?_⟩) (by assumption) ?_
  · intro wq hS
    obtain ⟨_, _, _, hSv, _⟩ := hS
    have h0 := hSv.cell 1 (v := .int .i64 (i : Int)) rfl
    go_simp
  try simp only [Act.put, List.setIfInBounds_toArray, List.set_cons_zero, List.set_cons_succ]
  refine takeD 9 46 (.int .u8 ((s[i].toNat : Nat) : Int)) (by exact rfl) rfl (by kernel_rfl) (by kernel_rfl) (by kernel_rfl) (fun _ _ _ h => h) (Or.inl ⟨by rfl, ?_⟩) (by assumption) ?_
  · intro wq hS
    go_simp
  try simp only [Act.put, List.setIfInBounds_toArray, List.set_cons_zero, List.set_cons_succ]
  refine takeD 10 47 (.int .u8 (((s[i].toNat : Nat) : Int) - 48)) (by exact rfl) rfl (by kernel_rfl) (by kernel_rfl) (by kernel_rfl) (fun _ _ _ h => h) (Or.inl ⟨by rfl, ?_⟩) (by assumption) ?_
  · intro wq hS
    go_simp
    first | done | exact wrU8 (by omega) (by omega)
  try simp only [Act.put, List.setIfInBounds_toArray, List.set_cons_zero, List.set_cons_succ]
  refine wpAnyH_ready (rs := [11]) (by kernel_rfl) (by simp) ?_
  refine AllReadyH.cons (by exact rfl) (fun K hK => ?_) AllReadyH.nil
  go_simp
  refine (hk _ HVz.out).mono ?_
  rintro e wk ⟨rfl, vk, bk⟩
  have HVk := (show Hid _ from vk)
  have HUk := (show Hid _ from HUz.out.trans bk)
  clear vk bk HVz HUz hHeld
  go_wp2_with fail
  refine hK.out _ _ ⟨x0, x1, b2, HVk.out, HUk.out⟩ (fun hHeld => ?_)
  try simp only [Act.put, List.setIfInBounds_toArray, List.set_cons_zero, List.set_cons_succ]
  clear hK K hHeld
  refine wpAnyH_done (by kernel_rfl) ?_ _
  refine NoPanic.normal ?_
  have a1 := HVk.out.cell 1 (v := .int .i64 (i : Int)) rfl
  have f1 := HVk.out.free 1
  go_wp2_with fail
  go_ret
  refine ⟨rfl, ?_, HUk.out.setCell (p := ⟨r, 1, none⟩) (Nat.le_refl _) _⟩
  have := HVk.out.set 1 (.int .i64 ((i + 1 : Nat) : Int))
  simpa [rc] using this
end Go.Proofs.YteohncnjjgoemaaGreatDoor.dg
/- digits: the reader in plain numbers: its size M, and whether it is beyond. -/
namespace Go.Proofs.YteohncnjjgoemaaGreatDoor.dg
open Go.RowKit
set_option linter.unusedVariables false
set_option linter.unusedSimpArgs false

/-- what a digit makes of a size -/
def stpM (M : Nat) (b : Bool) (d : Nat) : Nat := if b = false ∧ 10 * M + d < 170141183460469231731687303715884105728 then 10 * M + d else M
def stpB (M : Nat) (b : Bool) (d : Nat) : Bool := if b = false ∧ 10 * M + d < 170141183460469231731687303715884105728 then false else true
theorem stpM_lt {M : Nat} {b : Bool} {d : Nat} (h : M < 170141183460469231731687303715884105728) : stpM M b d < 170141183460469231731687303715884105728 := by
  unfold stpM
  split
  · next h => exact h.2
  · exact h
/-- a reader that stands at i, its size M -/
def RD (w : World) (r : Nat) (s : ByteArray) (i M : Nat) (b : Bool) : Prop := VA w r (rc s i (M % 18446744073709551616) (M / 18446744073709551616) b) 131
/-- the digit at a place -/
def dgt (s : ByteArray) (i : Nat) : Nat := if h : i < s.size then s[i].toNat - 48 else 0
def isDg (s : ByteArray) (i : Nat) : Prop := ∃ h : i < s.size, 48 ≤ s[i].toNat ∧ s[i].toNat ≤ 57
theorem wdig_small (hi lo d g l0 cc l1 : Nat) (e1 : lo * 10 = g * 18446744073709551616 + l0) (e2 : l0 + d = cc * 18446744073709551616 + l1) (h : 10 * (hi * 18446744073709551616 + lo) + d < 170141183460469231731687303715884105728) :
    hi * 10 + g + cc < 9223372036854775808 := by omega
theorem wdig_M (M d : Nat) (w : World) (hM : M < 170141183460469231731687303715884105728) (hd : d ≤ 9) :
    ∃ l1 h3 : Nat, ∃ ok : Bool, (∀ w, Calls Tryz.prog 114 #[.agg (zc (M % 18446744073709551616) (M / 18446744073709551616)).toArray, .int .u8 (d : Int)] w fun e w' => e = .returned (.tuple #[.agg (zc l1 h3).toArray, .bool ok]) ∧ Below w.heap.size w w')
      ∧ (ok = true → 10 * M + d < 170141183460469231731687303715884105728 ∧ l1 = (10 * M + d) % 18446744073709551616 ∧ h3 = (10 * M + d) / 18446744073709551616) ∧ (ok = false → ¬ 10 * M + d < 170141183460469231731687303715884105728) := by
  refine ⟨_, _, _, fun w => wdig_go (M % 18446744073709551616) (M / 18446744073709551616) d _ _ _ _ _ _ _ _ _ w hd (by omega) (by omega) rfl rfl rfl rfl rfl rfl rfl rfl rfl, fun h => ?_, fun h => ?_⟩
  · simp only [Bool.and_eq_true, decide_eq_true_eq] at h
    omega
  · intro h2
    simp only [Bool.and_eq_false_iff, decide_eq_false_iff_not] at h
    have k1 := wdig_small (M / 18446744073709551616) (M % 18446744073709551616) d _ _ _ _ (Nat.div_add_mod' (M % 18446744073709551616 * 10) 18446744073709551616).symm (Nat.div_add_mod' (M % 18446744073709551616 * 10 % 18446744073709551616 + d) 18446744073709551616).symm (by omega)
    generalize M % 18446744073709551616 * 10 / 18446744073709551616 = g at *
    generalize (M % 18446744073709551616 * 10 % 18446744073709551616 + d) / 18446744073709551616 = cc at *
    generalize M / 18446744073709551616 = hi at *
    have f0 : hi * 10 / 18446744073709551616 = 0 := by omega
    have f1 : hi * 10 % 18446744073709551616 = hi * 10 := by omega
    rw [f0, f1] at h
    omega
theorem keep_any (r : Nat) (s : ByteArray) (i M d : Nat) (b : Bool) (w : World) (V : RD w r s i M b) (hM : M < 170141183460469231731687303715884105728) (hd : d ≤ 9) :
    Calls Tryz.prog 103 #[.pointer (some ⟨r, 0, none⟩), .int .u8 (d : Int)] w fun e w' => e = .returned (.tuple #[]) ∧ RD w' r s i (stpM M b d) (stpB M b d) ∧ Below r w w' := by
  cases b with
  | true =>
    have e1 : stpM M true d = M := by simp [stpM]
    have e2 : stpB M true d = true := by simp [stpB]
    rw [e1, e2]
    exact keep_beyond r s i _ _ (d : Int) w V
  | false =>
    obtain ⟨l1, h3, ok, hw, ht, hf⟩ := wdig_M M d w hM hd
    cases ok with
    | true =>
      obtain ⟨hlt, rfl, rfl⟩ := ht rfl
      have e1 : stpM M false d = 10 * M + d := by simp [stpM, hlt]
      have e2 : stpB M false d = false := by simp [stpB, hlt]
      rw [e1, e2]
      exact keep_ok r s i _ _ _ _ (d : Int) w V hw
    | false =>
      have hge := hf rfl
      have e1 : stpM M false d = M := by simp [stpM, hge]
      have e2 : stpB M false d = true := by simp [stpB, hge]
      rw [e1, e2]
      exact keep_over r s i _ _ _ _ (d : Int) w V hw
theorem digit_t (r : Nat) (s : ByteArray) (i M : Nat) (b : Bool) (w : World) (V : RD w r s i M b) (hM : M < 170141183460469231731687303715884105728) (hb : s.size ≤ 64) (hg : isDg s i) :
    Calls Tryz.prog 90 #[.pointer (some ⟨r, 0, none⟩)] w fun e w' => e = .returned (.bool true) ∧ RD w' r s (i + 1) (stpM M b (dgt s i)) (stpB M b (dgt s i)) ∧ Below r w w' := by
  obtain ⟨h, h1, h2⟩ := hg
  have ed : (((s[i].toNat : Nat) : Int) - 48) = ((dgt s i : Nat) : Int) := by unfold dgt; rw [dif_pos h]; omega
  have hd9 : dgt s i ≤ 9 := by unfold dgt; rw [dif_pos h]; omega
  refine digit_yes r s i _ _ b w V h hb (by omega) (by omega) _ _ _ (fun w V => ?_)
  rw [ed]
  exact keep_any r s i M (dgt s i) b w V hM hd9
theorem digit_f (r : Nat) (s : ByteArray) (i M : Nat) (b : Bool) (w : World) (V : RD w r s i M b) (hi : i ≤ s.size) (hg : ¬ isDg s i) :
    Calls Tryz.prog 90 #[.pointer (some ⟨r, 0, none⟩)] w fun e w' => e = .returned (.bool false) ∧ RD w' r s i M b ∧ Below r w w' := by
  by_cases he : i = s.size
  · exact digit_end r s i _ _ b w V he
  · have h : i < s.size := by omega
    by_cases h1 : ((s[i].toNat : Nat) : Int) < 48
    · exact digit_low r s i _ _ b w V h h1
    · by_cases h2 : 57 < ((s[i].toNat : Nat) : Int)
      · exact digit_high r s i _ _ b w V h h2
      · exact absurd ⟨h, by omega, by omega⟩ hg
theorem take_t (r : Nat) (s : ByteArray) (i M : Nat) (b : Bool) (c : Nat) (w : World) (V : RD w r s i M b) (hb : s.size ≤ 64) (h : i < s.size) (hc : s[i].toNat = c) :
    Calls Tryz.prog 73 #[.pointer (some ⟨r, 0, none⟩), .int .u8 (c : Int)] w fun e w' => e = .returned (.bool true) ∧ RD w' r s (i + 1) M b ∧ Below r w w' :=
  (take_yes r s i _ _ b (c : Int) w V h (by omega) hb).mono fun e w' ⟨a, v, u⟩ => ⟨a, v, u.bel (Below.refl r w) (Nat.le_refl _)⟩
theorem take_f (r : Nat) (s : ByteArray) (i M : Nat) (b : Bool) (c : Nat) (w : World) (V : RD w r s i M b) (hi : i ≤ s.size) (hc : ∀ h : i < s.size, s[i].toNat ≠ c) :
    Calls Tryz.prog 73 #[.pointer (some ⟨r, 0, none⟩), .int .u8 (c : Int)] w fun e w' => e = .returned (.bool false) ∧ RD w' r s i M b ∧ Below r w w' := by
  by_cases he : i = s.size
  · exact (take_end r s i _ _ b (c : Int) w V he).mono fun e w' ⟨a, v, u⟩ => ⟨a, v, u.bel (Below.refl r w) (Nat.le_refl _)⟩
  · have h : i < s.size := by omega
    have := hc h
    exact (take_no r s i _ _ b (c : Int) w V h (by omega)).mono fun e w' ⟨a, v, u⟩ => ⟨a, v, u.bel (Below.refl r w) (Nat.le_refl _)⟩
end Go.Proofs.YteohncnjjgoemaaGreatDoor.dg
/- digits: the reader: whole. -/
namespace Go.Proofs.YteohncnjjgoemaaGreatDoor.dg
open Go.RowKit
set_option linter.unusedVariables false
set_option linter.unusedSimpArgs false

/-- size and beyond behind n digits from i on -/
def fld (s : ByteArray) (i M : Nat) (b : Bool) : Nat → Nat × Bool
  | 0 => (M, b)
  | n + 1 => (stpM (fld s i M b n).1 (fld s i M b n).2 (dgt s (i + n)), stpB (fld s i M b n).1 (fld s i M b n).2 (dgt s (i + n)))
theorem fld_lt {s : ByteArray} {i M : Nat} {b : Bool} (h : M < 170141183460469231731687303715884105728) : ∀ n, (fld s i M b n).1 < 170141183460469231731687303715884105728
  | 0 => h
  | n + 1 => stpM_lt (fld_lt h n)
/-- where a reader stands -/
def atOf (r : Nat) (w : World) : Nat := match w.cell? ⟨r, 1, none⟩ with | some (.int _ x) => x.toNat | _ => 0
theorem RD.at {w : World} {r i M : Nat} {s : ByteArray} {b : Bool} (h : RD w r s i M b) : atOf r w = i := by
  have := VA.cell h 1 (v := .int .i64 (i : Int)) rfl
  simp [atOf, this]
theorem whole_zero (r : Nat) (s : ByteArray) (i M : Nat) (b : Bool) (w : World) (V : RD w r s i M b) (hb : s.size ≤ 64) (h : i < s.size) (hc : s[i].toNat = 48) :
    Calls Tryz.prog 74 #[.pointer (some ⟨r, 0, none⟩)] w fun e w' => e = .returned (.tuple #[]) ∧ RD w' r s (i + 1) M b ∧ Below r w w' := by
  have hT := take_t r s i M b 48 w V hb h hc
  clear V h hc
  go_enter Tryz.func74, Tryz.ntmps74
  go_wp2_with fail
  refine hT.mono ?_
  rintro e w1 ⟨rfl, v1, b1⟩
  have HV : Hid (RD w1 r s (i + 1) M b) := v1
  have HB := (show Hid _ from b1)
  clear v1 b1 hT
  go_wp2_with fail
  first | exact bodyPost_ret (v := .tuple #[]) (by simp [results, Tryz.results74, go_sem]) rfl ⟨rfl, HV.out, HB.out⟩ | exact bodyPost_end (v := .tuple #[]) (by simp [results, Tryz.results74, go_sem]) rfl ⟨rfl, HV.out, HB.out⟩
theorem whole_run (r : Nat) (s : ByteArray) (i M n : Nat) (b : Bool) (w : World) (V : RD w r s i M b) (hM : M < 170141183460469231731687303715884105728) (hb : s.size ≤ 64) (h0 : ∀ h : i < s.size, s[i].toNat ≠ 48)
    (hn : 1 ≤ n) (hin : i + n ≤ s.size) (hd : ∀ j, j < n → isDg s (i + j)) (hx : ¬ isDg s (i + n)) :
    Calls Tryz.prog 74 #[.pointer (some ⟨r, 0, none⟩)] w fun e w' => e = .returned (.tuple #[]) ∧ RD w' r s (i + n) (fld s i M b n).1 (fld s i M b n).2 ∧ Below r w w' := by
  have hT := take_f r s i M b 48 w V (by omega) h0
  have HD := (show Hid _ from hd)
  have HX : Hid (¬ isDg s (i + n)) := hx
  clear V h0 hd hx
  go_enter Tryz.func74, Tryz.ntmps74
  go_wp2_with fail
  refine hT.mono ?_
  rintro e w1 ⟨rfl, v1, b1⟩
  have HV : Hid (RD w1 r s i M b) := v1
  have HB := (show Hid _ from b1)
  clear v1 b1 hT
  go_wp2_with fail
  refine (digit_t r s i M b _ HV.out hM hb (HD.out 0 (by omega))).mono ?_
  rintro e w2 ⟨rfl, v2, b2⟩
  have HV2 : Hid (RD w2 r s (i + 1) (fld s i M b 1).1 (fld s i M b 1).2) := v2
  have HB2 := (show Hid _ from HB.out.trans b2)
  clear v2 b2 HV HB
  go_wp2_with fail
  go_loopw [13] (fun _ wr => ∃ k : Nat, k ≤ n ∧ Hid (1 ≤ k) ∧ Hid (RD wr r s (i + k) (fld s i M b k).1 (fld s i M b k).2) ∧ Hid (Below r w wr)) (fun _ wr => i + n - atOf r wr)
  case atStart => exact ⟨1, by omega, Nat.le_refl _, HV2, HB2⟩
  case round =>
    obtain ⟨k, hk, HK, HR, HBk⟩ := hrel
    by_cases hkn : k = n
    · subst hkn
      go_wp2_with fail
      refine (digit_f r s (i + k) _ _ _ HR.out hin HX.out).mono ?_
      rintro e w3 ⟨rfl, v3, b3⟩
      have HV3 : Hid (RD w3 r s (i + k) (fld s i M b k).1 (fld s i M b k).2) := v3
      have HB3 := (show Hid _ from HBk.out.trans b3)
      clear v3 b3
      go_wp2_with fail
      first | exact bodyPost_end (v := .tuple #[]) (by simp [results, Tryz.results74, go_sem]) rfl ⟨rfl, HV3.out, HB3.out⟩ | exact bodyPost_ret (v := .tuple #[]) (by simp [results, Tryz.results74, go_sem]) rfl ⟨rfl, HV3.out, HB3.out⟩
    · have hlt : k < n := by omega
      clear hkn
      go_wp2_with fail
      refine (digit_t r s (i + k) _ _ _ HR.out (fld_lt hM k) hb (HD.out k hlt)).mono ?_
      rintro e w3 ⟨rfl, v3, b3⟩
      have HV3 : Hid (RD w3 r s (i + (k + 1)) (fld s i M b (k + 1)).1 (fld s i M b (k + 1)).2) := v3
      have HB3 := (show Hid _ from HBk.out.trans b3)
      have a1 := HR.out.at
      have a2 := HV3.out.at
      clear v3 b3
      go_wp2_with fail
      refine ⟨⟨k + 1, by omega, (show Hid (1 ≤ k + 1) from Nat.le_add_left 1 k), HV3, HB3⟩, ?_⟩
      rw [a1, a2]
      omega
theorem whole_fault (r : Nat) (s : ByteArray) (i M : Nat) (b : Bool) (w : World) (V : RD w r s i M b) (hi : i ≤ s.size) (hx : ¬ isDg s i) :
    Calls Tryz.prog 74 #[.pointer (some ⟨r, 0, none⟩)] w fun e w' => e = .panicked [{ v := .iface 94 (.int .i64 (i : Int)), recovered := false }] ∧ Below r w w' := by
  have hT := take_f r s i M b 48 w V hi (fun h e => hx ⟨h, by omega, by omega⟩)
  have HX : Hid (¬ isDg s i) := hx
  clear V hx
  go_enter Tryz.func74, Tryz.ntmps74
  go_wp2_with fail
  refine hT.mono ?_
  rintro e w1 ⟨rfl, v1, b1⟩
  have HV : Hid (RD w1 r s i M b) := v1
  have HB := (show Hid _ from b1)
  clear v1 b1 hT
  go_wp2_with fail
  refine (digit_f r s i M b _ HV.out hi HX.out).mono ?_
  rintro e w2 ⟨rfl, v2, b2⟩
  have a1 := VA.cell v2 1 (v := .int .i64 (i : Int)) rfl
  have HB2 := (show Hid _ from HB.out.trans b2)
  clear v2 b2 HV HB
  go_wp2_with fail
  exact ⟨rfl, rfl, HB2.out⟩
end Go.Proofs.YteohncnjjgoemaaGreatDoor.dg
/- digits: the reader: fraction. -/
namespace Go.Proofs.YteohncnjjgoemaaGreatDoor.dg
open Go.RowKit
set_option linter.unusedVariables false
set_option linter.unusedSimpArgs false

theorem frac_none (r : Nat) (s : ByteArray) (i M : Nat) (b : Bool) (w : World) (V : RD w r s i M b) (hi : i ≤ s.size) (hc : ∀ h : i < s.size, s[i].toNat ≠ 46) :
    Calls Tryz.prog 75 #[.pointer (some ⟨r, 0, none⟩)] w fun e w' => e = .returned (.int .i64 0) ∧ RD w' r s i M b ∧ Below r w w' := by
  have hT := take_f r s i M b 46 w V hi hc
  clear V hc
  go_enter Tryz.func75, Tryz.ntmps75
  go_wp2_with fail
  refine hT.mono ?_
  rintro e w1 ⟨rfl, v1, b1⟩
  have HV : Hid (RD w1 r s i M b) := v1
  have HB := (show Hid _ from b1)
  clear v1 b1 hT
  go_wp2_with fail
  go_ret
  exact ⟨rfl, HV.out, HB.out⟩
theorem frac_fault (r : Nat) (s : ByteArray) (i M : Nat) (b : Bool) (w : World) (V : RD w r s i M b) (hb : s.size ≤ 64) (h : i < s.size) (hc : s[i].toNat = 46) (hx : ¬ isDg s (i + 1)) :
    Calls Tryz.prog 75 #[.pointer (some ⟨r, 0, none⟩)] w fun e w' => e = .panicked [{ v := .iface 94 (.int .i64 ((i + 1 : Nat) : Int)), recovered := false }] ∧ Below r w w' := by
  have hT := take_t r s i M b 46 w V hb h hc
  have HX : Hid (¬ isDg s (i + 1)) := hx
  have HI : Hid (i + 1 ≤ s.size) := h
  clear V hc hx
  go_enter Tryz.func75, Tryz.ntmps75
  go_wp2_with fail
  refine hT.mono ?_
  rintro e w1 ⟨rfl, v1, b1⟩
  have HV : Hid (RD w1 r s (i + 1) M b) := v1
  have HB := (show Hid _ from b1)
  clear v1 b1 hT
  go_wp2_with fail
  refine (digit_f r s (i + 1) M b _ HV.out HI.out HX.out).mono ?_
  rintro e w2 ⟨rfl, v2, b2⟩
  have a1 := VA.cell v2 1 (v := .int .i64 ((i + 1 : Nat) : Int)) rfl
  have HB2 := (show Hid _ from HB.out.trans b2)
  clear v2 b2 HV HB
  go_wp2_with fail
  exact ⟨rfl, by simp, HB2.out⟩
theorem frac_run (r : Nat) (s : ByteArray) (i M n : Nat) (b : Bool) (w : World) (V : RD w r s i M b) (hM : M < 170141183460469231731687303715884105728) (hb : s.size ≤ 64) (h : i < s.size) (hc : s[i].toNat = 46)
    (hn : 1 ≤ n) (hn18 : n ≤ 18) (hin : i + 1 + n ≤ s.size) (hd : ∀ j, j < n → isDg s (i + 1 + j)) (hx : n = 18 ∨ ¬ isDg s (i + 1 + n)) :
    Calls Tryz.prog 75 #[.pointer (some ⟨r, 0, none⟩)] w fun e w' => e = .returned (.int .i64 (n : Int)) ∧ RD w' r s (i + 1 + n) (fld s (i + 1) M b n).1 (fld s (i + 1) M b n).2 ∧ Below r w w' := by
  have hT := take_t r s i M b 46 w V hb h hc
  have HD := (show Hid _ from hd)
  have HX : Hid (n = 18 ∨ ¬ isDg s (i + 1 + n)) := hx
  clear V hc hd hx
  go_enter Tryz.func75, Tryz.ntmps75
  go_wp2_with fail
  refine hT.mono ?_
  rintro e w1 ⟨rfl, v1, b1⟩
  have HV : Hid (RD w1 r s (i + 1) M b) := v1
  have HB := (show Hid _ from b1)
  clear v1 b1 hT
  go_wp2_with fail
  refine (digit_t r s (i + 1) M b _ HV.out hM hb (HD.out 0 (by omega))).mono ?_
  rintro e w2 ⟨rfl, v2, b2⟩
  have HV2 : Hid (RD w2 r s (i + 1 + 1) (fld s (i + 1) M b 1).1 (fld s (i + 1) M b 1).2) := v2
  have HB2 := (show Hid _ from HB.out.trans b2)
  clear v2 b2 HV HB
  go_wp2_with fail
  go_loopw [3] (fun t wr => ∃ k : Nat, k ≤ n ∧ t = .int .i64 (k : Int) ∧ Hid (RD wr r s (i + 1 + k) (fld s (i + 1) M b k).1 (fld s (i + 1) M b k).2) ∧ Hid (Below r w wr)) (fun t _ => n - (intOf t).toNat)
  case atStart => exact ⟨1, by omega, rfl, HV2, HB2⟩
  case round =>
    obtain ⟨k, hk, rfl, HR, HBk⟩ := hrel
    by_cases hkn : k = n
    · subst hkn
      by_cases h18 : k = 18
      · have g18 : ¬ (k : Int) < 18 := by omega
        have HK : Hid (k = 18) := h18
        clear h18
        go_wp2_with fail
        go_ret
        exact ⟨rfl, HR.out, HBk.out⟩
      · have g18 : (k : Int) < 18 := by omega
        have HX2 : Hid (¬ isDg s (i + 1 + k)) := HX.out.elim (fun e => absurd e h18) id
        clear h18
        go_wp2_with fail
        refine (digit_f r s (i + 1 + k) _ _ _ HR.out hin HX2.out).mono ?_
        rintro e w3 ⟨rfl, v3, b3⟩
        have HV3 : Hid (RD w3 r s (i + 1 + k) (fld s (i + 1) M b k).1 (fld s (i + 1) M b k).2) := v3
        have HB3 := (show Hid _ from HBk.out.trans b3)
        clear v3 b3
        go_wp2_with fail
        go_ret
        exact ⟨rfl, HV3.out, HB3.out⟩
    · have hlt : k < n := by omega
      have g18 : (k : Int) < 18 := by omega
      clear hkn
      go_wp2_with fail
      refine (digit_t r s (i + 1 + k) _ _ _ HR.out (fld_lt hM k) hb (HD.out k hlt)).mono ?_
      rintro e w3 ⟨rfl, v3, b3⟩
      have HV3 : Hid (RD w3 r s (i + 1 + (k + 1)) (fld s (i + 1) M b (k + 1)).1 (fld s (i + 1) M b (k + 1)).2) := v3
      have HB3 := (show Hid _ from HBk.out.trans b3)
      clear v3 b3
      go_wp2_with fail
      exact ⟨⟨k + 1, by omega, by simp, HV3, HB3⟩, by simp [intOf]; omega⟩
end Go.Proofs.YteohncnjjgoemaaGreatDoor.dg
