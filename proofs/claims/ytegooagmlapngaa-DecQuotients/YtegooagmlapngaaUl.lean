/- The document's decimals: the contracts of Form, Dec. -/
import Derived.Test.YtegooagmlapngaaUk
namespace Go.Proofs.Ytegooagmlapngaa
open Go.RowKit
set_option linter.unusedVariables false
attribute [local go_sem ↓] Go.wp_at_zero Go.wp_at_succ

set_option maxHeartbeats 400000 in
set_option maxRecDepth 100000 in
theorem form_yes (c : Int) (s : Nat) (w : World) (hc : InR c) (hs : (s : Int) ≤ 18) :
    Calls Try.prog 14 #[.agg #[.int .i64 (dhi c), .int .u64 (dlo c), .int .i64 s]] w fun e w' => e = .returned (.bool true) ∧ Below w.heap.size w w' := by
  rcases least_no hc with e1 | ⟨e1, e2⟩
  all_goals
    clear hc
    go_enter Try.func14, Try.ntmps14
    go_wp2_with fail
    go_ret
    exact ⟨rfl, bel_al (Below.refl _ _) _⟩
set_option maxHeartbeats 400000 in
set_option maxRecDepth 100000 in
theorem form_no (h l s : Int) (w : World) (hb : Bad h l s) :
    Calls Try.prog 14 #[.agg #[.int .i64 h, .int .u64 l, .int .i64 s]] w fun e w' => e = .returned (.bool false) ∧ Below w.heap.size w w' := by
  by_cases hs : s < 0 ∨ 18 < s
  · clear hb
    rcases hs with hs | hs
    · have d1 : decide (0 ≤ s) = false := by simp; omega
      go_enter Try.func14, Try.ntmps14
      go_wp2_with fail
      go_ret
      exact ⟨rfl, bel_al (Below.refl _ _) _⟩
    · have d1 : decide (0 ≤ s) = true := by simp; omega
      have d2 : decide (s ≤ 18) = false := by simp; omega
      go_enter Try.func14, Try.ntmps14
      go_wp2_with fail
      go_ret
      exact ⟨rfl, bel_al (Below.refl _ _) _⟩
  · obtain ⟨rfl, rfl⟩ := hb.resolve_left hs
    have d1 : decide (0 ≤ s) = true := by simp; omega
    have d2 : decide (s ≤ 18) = true := by simp; omega
    clear hb hs
    go_enter Try.func14, Try.ntmps14
    go_wp2_with fail
    go_ret
    exact ⟨rfl, bel_al (Below.refl _ _) _⟩

theorem big_size {x t : Nat} (h : IsSize x t) (hx : M127 ≤ (x : Int)) : 127 < t := isSize_above h (by rw [M127_eq] at hx; omega)
theorem small_size {x t : Nat} (h : IsSize x t) (hx : (x : Int) < M127) : t ≤ 127 := isSize_bound h (by rw [M127_eq] at hx; omega)
set_option maxHeartbeats 1000000 in
set_option maxRecDepth 100000 in
theorem decr_big (v : Value) (z s : Int) (w : World) (h : In w v z) (hz : M127 ≤ (z.natAbs : Int)) :
    Calls Try.prog 19 #[v, .int .i64 s] w fun e w' => e = .returned (.tuple #[.agg #[.int .i64 0, .int .u64 0, .int .i64 0], .int .i64 4]) ∧ Below w.heap.size w w' := by
  obtain ⟨m, a, n, k, rfl, hn, ha, hb⟩ := h.form
  have hn := (hn.alloc (.cells #[.bool m, .slice a n k] 46)).alloc (.cells #[.int .i64 0, .int .u64 0, .int .i64 0] 24)
  have HZ : Hid (M127 ≤ (z.natAbs : Int)) := hz
  have HN := (show Hid _ from hn)
  clear h ha hb hz hn
  go_enter Try.func19, Try.ntmps19
  go_wp2_with fail
  refine (size_ok _ _ _ HN.out).mono ?_
  rintro e w1 ⟨⟨t, rfl, ht, ht2⟩, rfl⟩
  have h127 := big_size ht HZ.out
  clear ht HN HZ
  go_wp2_with fail
  refine bodyPost_ret (v := .tuple #[.agg #[.int .i64 0, .int .u64 0, .int .i64 0], .int .i64 4]) (by simp [results, Try.results19, go_sem]) rfl ⟨rfl, bel_al (bel_al (Below.refl _ _) _) _⟩
end Go.Proofs.Ytegooagmlapngaa
