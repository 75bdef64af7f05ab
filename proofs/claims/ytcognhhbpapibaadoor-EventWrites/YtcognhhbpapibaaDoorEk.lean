/- event: slices.Equal of tiers that are alike. -/
import Derived.Test.YtcognhhbpapibaaDoorEj
import Derived.Laws.StructEq
namespace Go.Proofs.YtcognhhbpapibaaDoor
open Go.RowKit
set_option linter.unusedVariables false

set_option maxHeartbeats 1000000 in
set_option maxRecDepth 100000 in
theorem equal_true (v u : Value) (ts : List (Int × Int)) (w : World) (h : Tr w v ts) (h2 : Tr w u ts) :
    Calls Tryd.prog 31 #[v, u] w fun e w' => e = .returned (.bool true) ∧ Below w.heap.size w w' := by
  obtain ⟨n, hn⟩ : ∃ n, n = ts.length := ⟨_, rfl⟩
  obtain ⟨a, c, rfl, h1, hc⟩ : ∃ a c, v = .slice a n c ∧ n ≤ c ∧ c ≤ 9223372036854775807 := by obtain ⟨_, a, c, e, h1, h2, _⟩ := h; exact ⟨a, c, by rw [hn]; exact e, by rw [hn]; exact h1, h2⟩
  obtain ⟨a', c', rfl, h1', hc'⟩ : ∃ a c, u = .slice a n c ∧ n ≤ c ∧ c ≤ 9223372036854775807 := by obtain ⟨_, a, c, e, h1, h2, _⟩ := h2; exact ⟨a, c, by rw [hn]; exact e, by rw [hn]; exact h1, h2⟩
  have HA := (show Hid _ from h)
  have HC := (show Hid _ from h2)
  clear h h2 hn
  go_enter Tryd.func31, Tryd.ntmps31
  go_wp2_with fail
  go_loopw [13] (fun i wr => ∃ k : Nat, k ≤ n ∧ i = .int .i64 k ∧ Below w.heap.size w wr) (fun i _ => n - (intOf i).toNat)
  case atStart => exact ⟨0, by omega, rfl, Below.refl _ _⟩
  case round =>
    obtain ⟨k, hk, rfl, hbel⟩ := hrel
    have HB := (show Hid _ from hbel)
    clear hbel
    by_cases hkn : k = n
    · subst hkn
      go_wp2_with fail
      go_ret
      exact ⟨rfl, HB.out⟩
    have hk' : k < n := by omega
    obtain ⟨b, off, rfl, hb, z1, z2⟩ := (HA.out.step HB.out).at k hk'
    obtain ⟨b', off', rfl, hb', z3, z4⟩ := (HC.out.step HB.out).at k hk'
    generalize (ts.getD k (0, 0)).1 = f at *
    generalize (ts.getD k (0, 0)).2 = g at *
    rw [Nat.mul_comm 2 k] at z1 z2 z3 z4
    have d1 : (0 : Int) ≤ (k : Int) := by omega
    have d2 : (k : Int) < (n : Int) := by omega
    go_wp2_with fail
    go_quiet (fail)
    go_wp2_with fail
    exact ⟨⟨k + 1, by omega, by go_num, bel_drewN HB.out _⟩, by simp [intOf]; omega⟩
end Go.Proofs.YtcognhhbpapibaaDoor
