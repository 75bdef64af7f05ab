/- digits: withDigit: ten times a size, and a digit. -/
import Derived.Test.YtgcmbiahakampaaJa
import Derived.Test.YtgcmbiahakampaaWc
namespace Go.Proofs.Ytgcmbiahakampaa
open Go.RowKit
set_option linter.unusedVariables false
set_option linter.unusedSimpArgs false

/-- what withDigit answers: the two words of 10 M + d, and whether they are those of a coefficient -/
theorem wdig_go (m0 m1 d l0 h0 l1 c1 b2 h2 h3 c3 : Nat) (ok : Bool) (w : World) (hd9 : d ≤ 9) (hm0 : m0 < 18446744073709551616) (hm1 : m1 < 18446744073709551616)
    (e1 : h0 = m0 * 10 / 18446744073709551616) (e2 : l0 = m0 * 10 % 18446744073709551616) (e3 : l1 = (l0 + d) % 18446744073709551616) (e4 : c1 = (l0 + d) / 18446744073709551616)
    (e5 : b2 = m1 * 10 / 18446744073709551616) (e6 : h2 = m1 * 10 % 18446744073709551616) (e7 : h3 = (h2 + h0 + c1) % 18446744073709551616) (e8 : c3 = (h2 + h0 + c1) / 18446744073709551616)
    (eo : ok = (decide (b2 = 0) && decide (c3 = 0) && decide (h3 < 9223372036854775808))) :
    Calls Try.prog 62 #[.agg (zc m0 m1).toArray, .int .u8 (d : Int)] w fun e w' => e = .returned (.tuple #[.agg (zc l1 h3).toArray, .bool ok]) ∧ Below w.heap.size w w' := by
  have M1 : ∀ w, Calls Try.prog 63 #[.int .u64 (m0 : Int), .int .u64 10] w fun e w' => e = .returned (.tuple #[.int .u64 (h0 : Int), .int .u64 (l0 : Int)]) ∧ w' = w := fun w => by
    have := mul64_any m0 10 w hm0 (by decide)
    rw [← e1, ← e2] at this
    exact this
  have M2 : ∀ w, Calls Try.prog 63 #[.int .u64 (m1 : Int), .int .u64 10] w fun e w' => e = .returned (.tuple #[.int .u64 (b2 : Int), .int .u64 (h2 : Int)]) ∧ w' = w := fun w => by
    have := mul64_any m1 10 w hm1 (by decide)
    rw [← e5, ← e6] at this
    exact this
  have c1b : c1 ≤ 1 := by omega
  have A1 : ∀ w, (callFunc 61 #[.int .u64 (l0 : Int), .int .u64 (d : Int), .int .u64 0]).run Try.prog w = .ok (.value (.tuple #[.int .u64 (l1 : Int), .int .u64 (c1 : Int)])) w := fun w => by
    rw [run_Add64 _ _ _ (by omega) (by omega) (by omega) (by omega), show ((l0 : Int) + d + 0) % 18446744073709551616 = l1 by omega, show ((l0 : Int) + d + 0) / 18446744073709551616 = c1 by omega]
  have A2 : ∀ w, (callFunc 61 #[.int .u64 (h2 : Int), .int .u64 (h0 : Int), .int .u64 (c1 : Int)]).run Try.prog w = .ok (.value (.tuple #[.int .u64 (h3 : Int), .int .u64 (c3 : Int)])) w := fun w => by
    rw [run_Add64 _ _ _ (by omega) (by omega) (by omega) (by omega), show ((h2 : Int) + h0 + c1) % 18446744073709551616 = h3 by omega, show ((h2 : Int) + h0 + c1) / 18446744073709551616 = c3 by omega]
  have VN_0 := (show Hid _ from (va_new w (zc m0 m1) 48).alloc (.cells (zc 0 0).toArray 48))
  have VR_0 := (show Hid _ from va_new (w.alloc (.cells (zc m0 m1).toArray 48)) (zc 0 0) 48)
  rw [show (w.alloc (.cells (zc m0 m1).toArray 48)).heap.size = w.heap.size + 1 by simp] at VR_0
  have BB_0 := (show Hid _ from ((Below.refl w.heap.size w).alloc (Nat.le_refl _) (.cells (zc m0 m1).toArray 48)).alloc (by simp) (.cells (zc 0 0).toArray 48))
  have h3b : (h3 : Int) < 18446744073709551616 := by omega
  have HE := (show Hid _ from eo)
  have d9 : (d : Int) ≤ 9 := by omega
  clear e1 e2 e3 e4 e5 e6 e7 e8 eo
  go_enter Try.func62, Try.ntmps62
  have n0 := VN_0.out.cell 0 (v := .int .u64 (m0 : Int)) rfl
  have n1 := VN_0.out.cell 1 (v := .int .u64 (m1 : Int)) rfl
  go_upto_region 1 with fail
  change Code.wp _ _ _ _ ((w.alloc (.cells (zc m0 m1).toArray 48)).alloc (.cells (zc 0 0).toArray 48))
  generalize (w.alloc (.cells (zc m0 m1).toArray 48)).alloc (.cells (zc 0 0).toArray 48) = wa at *
  go_wp2_with fail
  refine (M1 _).mono ?_
  rintro e w1 ⟨rfl, hq⟩
  obtain rfl := hq.symm
  clear hq
  go_wp2_with fail
  refine (M2 _).mono ?_
  rintro e w1 ⟨rfl, hq⟩
  obtain rfl := hq.symm
  clear hq
  go_upto_region 5 with fail
  clear n0 n1 M1 M2 A1 A2
  by_cases hb : b2 = 0
  · have gb : (b2 : Int) = 0 := by omega
    by_cases hc : c3 = 0
    · have gc : (c3 : Int) = 0 := by omega
      by_cases hh : h3 < 9223372036854775808
      · have gh : (h3 : Int) / 9223372036854775808 = 0 := by omega
        have ht : ok = true := by rw [HE.out]; simp [hb, hc, hh]
        clear hb hc hh
        go_wp2_with (refine stA rfl 48 _ _ rfl (w.heap.size + 1) (by rfl) (zc 0 0) (zc l1 h3) (by rfl) 48 VR_0.out infoZ rfl (zc_one _ _) ?_; intro wf vf uf)
        have hld := run_loadVar_row (P := Try.prog) wf (w.heap.size + 1) 48 48 _ (0, 0) _ vf.blk Try.underlying48 rfl infoZ
        exact bodyPost_ret (v := .tuple #[.agg (zc l1 h3).toArray, .bool true]) (by simp [results, Try.results62, asAddr, hld]) rfl ⟨by rw [ht], uf.bel BB_0.out (by omega)⟩
      · have gh : ((h3 : Int) / 9223372036854775808 == 0) = false := by simp; omega
        have gh2 : ¬ (h3 : Int) / 9223372036854775808 = 0 := by omega
        have ht : ok = false := by rw [HE.out]; simp [hb, hc, hh]
        clear hb hc hh
        go_wp2_with (refine stA rfl 48 _ _ rfl (w.heap.size + 1) (by rfl) (zc 0 0) (zc l1 h3) (by rfl) 48 VR_0.out infoZ rfl (zc_one _ _) ?_; intro wf vf uf)
        have hld := run_loadVar_row (P := Try.prog) wf (w.heap.size + 1) 48 48 _ (0, 0) _ vf.blk Try.underlying48 rfl infoZ
        exact bodyPost_ret (v := .tuple #[.agg (zc l1 h3).toArray, .bool false]) (by simp [results, Try.results62, asAddr, hld]) rfl ⟨by rw [ht], uf.bel BB_0.out (by omega)⟩
    · have gc : ¬ (c3 : Int) = 0 := by omega
      have gc2 : ((c3 : Int) == 0) = false := by simp; omega
      have ht : ok = false := by rw [HE.out]; simp [hb, hc]
      clear hb hc
      go_wp2_with (refine stA rfl 48 _ _ rfl (w.heap.size + 1) (by rfl) (zc 0 0) (zc l1 h3) (by rfl) 48 VR_0.out infoZ rfl (zc_one _ _) ?_; intro wf vf uf)
      have hld := run_loadVar_row (P := Try.prog) wf (w.heap.size + 1) 48 48 _ (0, 0) _ vf.blk Try.underlying48 rfl infoZ
      exact bodyPost_ret (v := .tuple #[.agg (zc l1 h3).toArray, .bool false]) (by simp [results, Try.results62, asAddr, hld]) rfl ⟨by rw [ht], uf.bel BB_0.out (by omega)⟩
  · have gb : ¬ (b2 : Int) = 0 := by omega
    have gb2 : ((b2 : Int) == 0) = false := by simp; omega
    have ht : ok = false := by rw [HE.out]; simp [hb]
    clear hb
    go_wp2_with (refine stA rfl 48 _ _ rfl (w.heap.size + 1) (by rfl) (zc 0 0) (zc l1 h3) (by rfl) 48 VR_0.out infoZ rfl (zc_one _ _) ?_; intro wf vf uf)
    have hld := run_loadVar_row (P := Try.prog) wf (w.heap.size + 1) 48 48 _ (0, 0) _ vf.blk Try.underlying48 rfl infoZ
    exact bodyPost_ret (v := .tuple #[.agg (zc l1 h3).toArray, .bool false]) (by simp [results, Try.results62, asAddr, hld]) rfl ⟨by rw [ht], uf.bel BB_0.out (by omega)⟩
end Go.Proofs.Ytgcmbiahakampaa
