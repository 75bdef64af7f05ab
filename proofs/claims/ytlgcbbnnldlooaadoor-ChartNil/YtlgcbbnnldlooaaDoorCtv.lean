/- ChartNil: the law's walk. -/
import Derived.Test.YtlgcbbnnldlooaaDoorCtw
import Derived.Test.YtlgcbbnnldlooaaDoorRwb
namespace Go.Proofs.YtlgcbbnnldlooaaDoor
open Go.RowKit Go.Maps
set_option linter.unusedVariables false

theorem post_none (v : Value) (ls : List Ln) (w : World) (h : Sl LN w v ls) (hwf : ∀ x ∈ ls, x.wf) (Lm : Lim w) :
    Calls Tryd.prog 11 #[.pointer none, v] w fun e w' => e = .returned (.int .i64 (nerr ls)) ∧ Below w.heap.size w w' := by
  unfold nerr
  by_cases hc : cherr ls = 0
  · rw [if_neg (by omega)]
    exact post_nil v ls w h hwf Lm hc
  · rw [if_pos hc]
    exact post_bad none v ls w h hwf Lm hc
set_option maxHeartbeats 2000000 in
set_option maxRecDepth 100000 in
theorem nil_walk (v : Value) (ls : List Ln) (w : World) (h : LIn w v ls) (Lm : Lim w) :
    Calls Tryd.prog 5 #[v] w fun e w' => e = .returned (.bool true) ∧ Below w.heap.size w w' := by
  obtain ⟨N, hN⟩ : ∃ N, N = ls.length := ⟨_, rfl⟩
  obtain ⟨ta, tc, rfl, g1, g2⟩ : ∃ a c, v = .slice a N c ∧ N ≤ c ∧ c ≤ 9223372036854775807 := by obtain ⟨a, c, e, h1, h2, _⟩ := h.sl; exact ⟨a, c, by rw [hN]; exact e, by rw [hN]; exact h1, h2⟩
  have HK := (show Hid _ from h)
  have HLm := (show Hid _ from Lm)
  clear h hN Lm
  go_enter Tryd.func5, Tryd.ntmps5
  go_wp2_with fail
  refine (cawake_ok _ HLm.out).mono ?_
  rintro e w1 ⟨rfl, b1⟩
  have HB1 := (show Hid _ from b1)
  clear b1
  have BA := (Below.refl w1.heap.size w1).alloc (Nat.le_refl _) (.cells #[] 39)
  have HBA := (show Hid _ from BA)
  have HOW := (show Hid _ from own_made LN w1)
  have HLA := (show Hid _ from (HK.out.step HB1.out).step BA)
  clear BA
  go_wp2_with (at_builtin; refine appSw (K := LN) (by rfl) _ _ rfl w1.heap.size [] ls _ _ (by rfl) (by rfl) HOW.out HLA.out.sl HLA.out.no (by simp) (by have := HK.out.sz; simp only [List.length_nil]; show (0 + ls.length) * 40 ≤ _; omega) (by have := HK.out.sz; simp only [List.length_nil]; omega) ?_; intro v5 w5 o5 b5 g5)
  have HBZ := (show Hid _ from HBA.out.trans b5)
  have HOZ := (show Hid _ from o5.sl)
  clear o5 b5 g5 HBA HLA HOW
  have HB5 := (show Hid _ from HB1.out.trans (HBZ.out.mono HB1.out.size))
  refine (post_none _ ls _ (by have := HOZ.out; simpa using this) HK.out.wf (HLm.out.step HB5.out)).mono ?_
  rintro e w6 ⟨rfl, b6⟩
  have HB6 := (show Hid _ from HB5.out.trans (b6.mono HB5.out.size))
  clear b6 HB5 HBZ HOZ HB1
  go_wp2_with fail
  refine (dpost_nil _ ls _ (HK.out.step HB6.out)).mono ?_
  rintro e w7 ⟨rfl, b7⟩
  have HB7 := (show Hid _ from HB6.out.trans (b7.mono HB6.out.size))
  clear b7
  generalize nerr ls = q at *
  have rr : (q == q) = true := by simp
  go_wp2_with fail
  go_ret
  exact ⟨by simp, HB7.out⟩
end Go.Proofs.YtlgcbbnnldlooaaDoor
