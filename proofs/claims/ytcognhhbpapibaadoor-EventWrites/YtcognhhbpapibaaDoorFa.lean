/- event: slices.Equal of any tiers; comparing eight numbers; Same of any two events. -/
import Derived.Test.YtcognhhbpapibaaDoorEw
namespace Go.Proofs.YtcognhhbpapibaaDoor
open Go.RowKit
set_option linter.unusedVariables false

theorem eq8b (w : World) (n0 n1 n2 n3 n4 n5 n6 n7 m0 m1 m2 m3 m4 m5 m6 m7 : Int) : (Op.equalIn 10000 23 (.agg #[.int .i64 n0, .int .i64 n1, .int .i64 n2, .int .i64 n3, .int .i64 n4, .int .i64 n5, .int .i64 n6, .int .i64 n7]) (.agg #[.int .i64 m0, .int .i64 m1, .int .i64 m2, .int .i64 m3, .int .i64 m4, .int .i64 m5, .int .i64 m6, .int .i64 m7])).run Tryd.prog w = .ok (decide ([n0, n1, n2, n3, n4, n5, n6, n7] = [m0, m1, m2, m3, m4, m5, m6, m7])) w := by
  obtain ⟨i, hi⟩ : ∃ i, Tryd.prog.info? 2 = some i := Option.isSome_iff_exists.1 (by kernel_rfl)
  rw [show (10000 : Nat) = 9999 + 1 from rfl, run_equalIn_array (P := Tryd.prog) w 9999 _ _ Tryd.underlying23 hi]
  have hc : Tryd.prog.cellsOf 2 = 1 := by kernel_rfl
  rw [hc]
  simp [Op.eqItems, List.range, List.range.loop, go_sem]
  repeat' split
  all_goals simp_all
theorem tr_ext {ts us : List (Int × Int)} {n : Nat} (h1 : ts.length = n) (h2 : us.length = n) (h : ∀ j, j < n → ts.getD j (0, 0) = us.getD j (0, 0)) : ts = us := by
  apply List.ext_getElem (by omega)
  intro i a b
  have := h i (by omega)
  simpa [List.getD, List.getElem?_eq_getElem a, List.getElem?_eq_getElem b] using this
set_option maxHeartbeats 1000000 in
set_option maxRecDepth 100000 in
theorem equal_any (v u : Value) (ts us : List (Int × Int)) (w : World) (h : Tr w v ts) (h2 : Tr w u us) :
    Calls Tryd.prog 31 #[v, u] w fun e w' => e = .returned (.bool (decide (ts = us))) ∧ Below w.heap.size w w' := by
  obtain ⟨n, hn⟩ : ∃ n, n = ts.length := ⟨_, rfl⟩
  obtain ⟨m, hm⟩ : ∃ m, m = us.length := ⟨_, rfl⟩
  obtain ⟨a, c, rfl, h1, hc⟩ : ∃ a c, v = .slice a n c ∧ n ≤ c ∧ c ≤ 9223372036854775807 := by obtain ⟨_, a, c, e, h1, h2, _⟩ := h; exact ⟨a, c, by rw [hn]; exact e, by rw [hn]; exact h1, h2⟩
  obtain ⟨a', c', rfl, h1', hc'⟩ : ∃ a c, u = .slice a m c ∧ m ≤ c ∧ c ≤ 9223372036854775807 := by obtain ⟨_, a, c, e, h1, h2, _⟩ := h2; exact ⟨a, c, by rw [hm]; exact e, by rw [hm]; exact h1, h2⟩
  have HA := (show Hid _ from h)
  have HC := (show Hid _ from h2)
  have HN := (show Hid _ from hn)
  have HM := (show Hid _ from hm)
  clear h h2 hn hm
  by_cases hnm : n = m
  · subst hnm
    go_enter Tryd.func31, Tryd.ntmps31
    go_wp2_with fail
    go_loopw [13] (fun i wr => ∃ k : Nat, k ≤ n ∧ i = .int .i64 k ∧ Below w.heap.size w wr ∧ Hid (∀ j, j < k → ts.getD j (0, 0) = us.getD j (0, 0))) (fun i _ => n - (intOf i).toNat)
    case atStart => exact ⟨0, by omega, rfl, Below.refl _ _, fun j hj => by omega⟩
    case round =>
      obtain ⟨k, hk, rfl, hbel, hall⟩ := hrel
      have HB := (show Hid _ from hbel)
      clear hbel
      by_cases hkn : k = n
      · subst hkn
        go_wp2_with fail
        go_ret
        refine ⟨?_, HB.out⟩
        rw [decide_eq_true (tr_ext HN.out.symm HM.out.symm hall.out)]
        rfl
      have hk' : k < n := by omega
      obtain ⟨b, off, rfl, hb, z1, z2⟩ := (HA.out.step HB.out).at k hk'
      obtain ⟨b', off', rfl, hb', z3, z4⟩ := (HC.out.step HB.out).at k hk'
      obtain ⟨⟨f, g⟩, ht⟩ : ∃ t, t = ts.getD k (0, 0) := ⟨_, rfl⟩
      obtain ⟨⟨f', g'⟩, hu⟩ : ∃ t, t = us.getD k (0, 0) := ⟨_, rfl⟩
      have HT := (show Hid _ from ht)
      have HU := (show Hid _ from hu)
      rw [← ht] at z1 z2
      rw [← hu] at z3 z4
      rw [Nat.mul_comm 2 k] at z1 z2 z3 z4
      clear ht hu
      have d1 : (0 : Int) ≤ (k : Int) := by omega
      have d2 : (k : Int) < (n : Int) := by omega
      by_cases hf : f = f' ∧ g = g'
      · obtain ⟨rfl, rfl⟩ := hf
        go_wp2_with fail
        go_quiet (fail)
        go_wp2_with fail
        refine ⟨⟨k + 1, by omega, by go_num, bel_drewN HB.out _, fun j hj => ?_⟩, by simp [intOf]; omega⟩
        by_cases hjk : j = k
        · subst hjk; rw [← HT.out, ← HU.out]
        · exact hall.out j (by omega)
      · have hne : Hid (ts ≠ us) := fun e => by
          have h1 := HT.out
          have h2 := HU.out
          rw [e, ← h2] at h1
          simp at h1
          exact hf h1
        have HF := (show Hid _ from hf)
        clear hf
        by_cases hf1 : f = f'
        · have hg1 : ¬ g = g' := fun e => HF.out ⟨hf1, e⟩
          subst hf1
          go_wp2_with fail
          go_quiet (fail)
          go_wp2_with fail
          go_ret
          refine ⟨?_, bel_drewN HB.out _⟩
          rw [decide_eq_false hne.out]
          rfl
        · go_wp2_with fail
          go_quiet (fail)
          go_wp2_with fail
          go_ret
          refine ⟨?_, bel_drewN HB.out _⟩
          rw [decide_eq_false hne.out]
          rfl
  · have hne : Hid (ts ≠ us) := fun e => hnm (by rw [HN.out, HM.out, e])
    have d0 : ¬ ((n : Int) = (m : Int)) := by omega
    have d1 : ((n : Int) == (m : Int)) = false := by simpa using d0
    have d2 : ((n : Int) != (m : Int)) = true := by simp [bne, d1]
    go_enter Tryd.func31, Tryd.ntmps31
    go_wp2_with fail
    go_ret
    refine ⟨?_, Below.refl _ _⟩
    rw [decide_eq_false hne.out]
    rfl
end Go.Proofs.YtcognhhbpapibaaDoor
