/- event: the contract of Check. -/
import Derived.Test.YtcognhhbpapibaaDoorEa
namespace Go.Proofs.YtcognhhbpapibaaDoor
open Go.RowKit
set_option linter.unusedVariables false

theorem E8.len11 {x : E8} (h : x.ok) (tv : Value) : (x.cells tv).length = 11 := by simp [E8.cells, h.len]
theorem E8.c0 (x : E8) (tv : Value) : (x.cells tv)[0]? = some (.int .u8 (x.op : Int)) := rfl
theorem E8.c1 (x : E8) (tv : Value) : (x.cells tv)[1]? = some (.int .u64 (x.key : Int)) := rfl
theorem E8.cn {x : E8} (h : x.ok) (tv : Value) (i : Nat) (hi : i < 8) : (x.cells tv)[2 + i]? = some (.int .i64 (x.ns.getD i 0)) := by
  have hl : i < x.ns.length := by rw [h.len]; exact hi
  simp [E8.cells, List.getElem?_append, Nat.add_comm 2 i, hl]
theorem E8.ctv {x : E8} (h : x.ok) (tv : Value) : (x.cells tv)[10]? = some tv := by
  simp [E8.cells, h.len]
theorem E8.nbd {x : E8} (h : x.ok) (i : Nat) : -9223372036854775808 ≤ x.ns.getD i 0 ∧ x.ns.getD i 0 ≤ 9223372036854775807 := by
  by_cases hi : i < x.ns.length
  · exact h.ns _ (by simp [hi])
  · simp [List.getD, List.getElem?_eq_none (Nat.le_of_not_lt hi)]
/-- are the numbers that the Op doesn't use 0? -/
def zeros (x : E8) : Prop := ∀ i, ct.getD x.op 0 ≤ i → i < 8 → x.ns.getD i 0 = 0
set_option maxHeartbeats 1000000 in
set_option maxRecDepth 100000 in
theorem check_in (x : E8) (tv : Value) (w : World) (hx : x.ok) (T : Tc w) (R : Tr w tv x.ts) (f1 : 1 ≤ x.op) (f2 : x.op ≤ 15) (f3 : x.ts.length ≤ most x.op) (b : Int) (hb : (zeros x ∧ b = 0) ∨ (¬ zeros x ∧ b = 3)) :
    Calls Tryd.prog 14 #[.agg (x.cells tv).toArray] w fun e w' => e = .returned (.int .i64 b) ∧ Below w.heap.size w w' := by
  have V := va_new w (x.cells tv) 26
  have y0 := V.cell 0 (x.c0 tv)
  have y10 := V.cell 10 (E8.ctv hx tv)
  have HV := (show Hid _ from V)
  obtain ⟨ta, tc, rfl, ht1, ht2⟩ : ∃ a c, tv = .slice a x.ts.length c ∧ x.ts.length ≤ c ∧ c ≤ 9223372036854775807 := by obtain ⟨_, a, c, e, h1, h2, _⟩ := R; exact ⟨a, c, e, h1, h2⟩
  have HB := (show Hid _ from (Below.refl w.heap.size w).alloc (Nat.le_refl _) (.cells (x.cells (.slice ta x.ts.length tc)).toArray 26))
  have hT := (show Hid _ from T.step HB.out (by have := T.lt; omega))
  have m8 : most x.op ≤ 8 := by unfold most; split <;> omega
  have cle := ct_le x.op
  clear V T R
  generalize x.ts.length = tn at *
  unfold zeros at hb
  have HC : Hid (∀ i, i < 8 → (w.alloc (.cells (x.cells (.slice ta tn tc)).toArray 26)).cell? ⟨w.heap.size, 2 + i, none⟩ = some (.int .i64 (x.ns.getD i 0))) := fun i h2 => HV.out.cell (2 + i) (E8.cn hx _ i h2)
  have HNB : Hid (∀ i, -9223372036854775808 ≤ x.ns.getD i 0 ∧ x.ns.getD i 0 ≤ 9223372036854775807) := fun i => E8.nbd hx i
  obtain ⟨op, hop⟩ : ∃ op, op = x.op := ⟨_, rfl⟩
  rw [← hop] at y0 f1 f2 f3 hb m8 cle
  obtain ⟨N, hN⟩ : ∃ N, N = ct.getD op 0 := ⟨_, rfl⟩
  have HN := (show Hid _ from hN)
  rw [← hN] at cle hb
  have HR := (show Hid _ from hb)
  obtain ⟨ms, hms⟩ : ∃ ms, ms = most op := ⟨_, rfl⟩
  have HM := (show Hid _ from hms)
  rw [← hms] at f3 m8
  have dm : decide (ms < tn) = false := decide_eq_false (by omega)
  clear hop hN hx hms hb
  go_enter Tryd.func14, Tryd.ntmps14
  go_wp2_with fail
  generalize w.alloc (.cells (x.cells (.slice ta tn tc)).toArray 26) = w1 at *
  refine (count_yes op _ hT.out f1 f2).mono ?_
  rintro e w2 ⟨rfl, rfl⟩
  rw [← HN.out]
  go_wp2_with fail
  go_region_held3 (fun w' => w'.cell? ⟨w.heap.size, 0, none⟩ = some (.int .u8 (op : Int)) ∧ w'.cell? ⟨w.heap.size, 10, none⟩ = some (.slice ta tn tc))
    (first | exact ⟨y0, y10⟩)
    (first | (go_at_call 27; refine (most_ok op _ (by omega)).mono ?_; rintro e w4 ⟨rfl, rfl⟩; rw [← HM.out]))
  have HC2 : Hid (∀ i, i < 8 → w2.drew.cell? ⟨w.heap.size, 2 + i, none⟩ = some (.int .i64 (x.ns.getD i 0))) := HC.out
  have HB2 := (show Hid _ from HB.out.drew)
  clear y0 y10 HC HB hT HV
  generalize w2.drew = w3 at *
  by_cases h8 : N = 8
  · subst h8
    rw [show ((8 : Nat) : Int) = 8 from rfl]
    go_wp2_with fail
    go_loop [28] (fun i => i = .int .i64 0) (fun _ => 0)
    case atStart => rfl
    case round =>
      subst hrel
      go_wp2_with fail
      go_ret
      refine ⟨?_, HB2.out⟩
      rcases HR.out with ⟨_, e⟩ | ⟨h, e⟩
      · rw [e]; rfl
      · exact absurd (fun i h1 h2 => by omega) h
  · have n1 : ¬ (8 = N) := by omega
    have n2 : (N : Int) ≤ 8 := by omega
    go_wp2_with fail
    obtain ⟨M, hM⟩ : ∃ M, M = 8 - N := ⟨_, rfl⟩
    have HM2 := (show Hid _ from hM)
    rw [← hM]
    have hMN : M + N = 8 := by omega
    clear hM
    go_loop [28] (fun i => ∃ k : Nat, k ≤ M ∧ i = .int .i64 k ∧ Hid (∀ j, j < k → x.ns.getD (N + j) 0 = 0)) (fun i => M - (intOf i).toNat)
    case atStart => exact ⟨0, by omega, rfl, fun j hj => by omega⟩
    case round =>
      obtain ⟨k, hk, rfl, hz⟩ := hrel
      by_cases hkM : k = M
      · subst hkM
        go_wp2_with fail
        go_ret
        refine ⟨?_, HB2.out⟩
        rcases HR.out with ⟨_, e⟩ | ⟨h, e⟩
        · rw [e]; rfl
        · refine absurd (fun i h1 h2 => ?_) h
          have := hz.out (i - N) (by omega)
          rwa [show N + (i - N) = i by omega] at this
      have hk' : k < M := by omega
      have c1 := HC2.out (N + k) (by omega)
      rw [← Nat.add_assoc] at c1
      have nb := HNB.out (N + k)
      have HV2 : Hid (x.ns.getD (N + k) 0 = x.ns.getD (N + k) 0) := rfl
      obtain ⟨v, hv⟩ : ∃ v, v = x.ns.getD (N + k) 0 := ⟨_, rfl⟩
      have HVV := (show Hid _ from hv)
      rw [← hv] at c1 nb
      clear hv HV2
      by_cases hv0 : v = 0
      · subst hv0
        go_wp2_with fail
        refine ⟨⟨k + 1, by omega, by go_num, fun j hj => ?_⟩, by simp [intOf]; omega⟩
        by_cases e : j = k
        · subst e; exact HVV.out.symm
        · exact hz.out j (by omega)
      · have q1 : (v == 0) = false := by simpa using hv0
        have q2 : (v != 0) = true := by simp [bne, q1]
        go_wp2_with fail
        go_ret
        refine ⟨?_, HB2.out⟩
        rcases HR.out with ⟨h, e⟩ | ⟨h, e⟩
        · exact absurd (by rw [HVV.out]; exact h (N + k) (by omega) (by omega)) hv0
        · rw [e]; rfl
end Go.Proofs.YtcognhhbpapibaaDoor
