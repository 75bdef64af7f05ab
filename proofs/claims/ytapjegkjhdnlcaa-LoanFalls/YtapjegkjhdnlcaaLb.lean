/- loan: the contracts of Left, Arrears, Schedule. -/
import Derived.Test.YtapjegkjhdnlcaaLa
namespace Go.Proofs.Ytapjegkjhdnlcaa
open Go.RowKit
set_option linter.unusedVariables false

/-- what is left by the plan -/
def lft (p n k : Int) : Int := p - pdv p n (min k n)
theorem lft_bd (p n k : Int) (h : Plan p n) (h0 : 0 ≤ k) : 0 ≤ lft p n k ∧ lft p n k ≤ p := by
  obtain ⟨h1, h2, h3, h4⟩ := h
  have := pdv_bd' p n (min k n) h3 (by omega) (by omega) (by omega)
  unfold lft
  omega
theorem Left_ok (p n k : Int) (w : World) (h : Plan p n) (h0 : 0 ≤ k) : Calls Try.prog 10 #[.int .i64 p, .int .i64 n, .int .i64 k] w fun e w' => e = .returned (.tuple #[.int .i64 (lft p n k), .int .i64 0]) ∧ w' = w.drew := by
  have b := lft_bd p n k h h0
  have hp := h.2.1
  have hp0 := h.1
  have hd : decide (Plan p n) = true := decide_eq_true h
  have hk0 : decide (k < 0) = false := decide_eq_false (by omega)
  have e : lft p n k = p - pdv p n (min k n) := rfl
  have hn := h.2.2.1
  have HH := (show Hid _ from h)
  clear h
  by_cases hk : n < k
  · rw [Int.min_eq_right (by omega)] at e
    have hb : 0 ≤ pdv p n n ∧ pdv p n n ≤ 10000000000000 := by omega
    have E := (show Hid _ from e)
    clear e b
    go_enter Try.func10, Try.ntmps10
    go_wp2_with (first | (go_at_call 18; refine (isPlan_ok p n _).mono ?_; rintro e w1 ⟨rfl, rfl⟩; rw [hd]) | (go_at_call 19; refine (paid_ok p n n _ HH.out (by omega) (by omega)).mono ?_; rintro e w1 ⟨rfl, rfl⟩))
    refine bodyPost_ret (v := .tuple #[.int .i64 (p - pdv p n n), .int .i64 0]) (by simp [results, Try.results10, go_sem]) rfl ?_
    exact ⟨by rw [E.out], rfl⟩
  · rw [Int.min_eq_left (by omega)] at e
    have hb : 0 ≤ pdv p n k ∧ pdv p n k ≤ 10000000000000 := by omega
    have E := (show Hid _ from e)
    clear e b
    go_enter Try.func10, Try.ntmps10
    go_wp2_with (first | (go_at_call 18; refine (isPlan_ok p n _).mono ?_; rintro e w1 ⟨rfl, rfl⟩; rw [hd]) | (go_at_call 19; refine (paid_ok p n k _ HH.out (by omega) (by omega)).mono ?_; rintro e w1 ⟨rfl, rfl⟩))
    refine bodyPost_ret (v := .tuple #[.int .i64 (p - pdv p n k), .int .i64 0]) (by simp [results, Try.results10, go_sem]) rfl ?_
    exact ⟨by rw [E.out], rfl⟩
theorem Left_no (p n k : Int) (w : World) (h : ¬ (Plan p n ∧ 0 ≤ k)) : Calls Try.prog 10 #[.int .i64 p, .int .i64 n, .int .i64 k] w fun e w' => e = .returned (.tuple #[.int .i64 0, .int .i64 1]) ∧ w' = w := by
  by_cases hP : Plan p n
  · have hd : decide (Plan p n) = true := decide_eq_true hP
    have hk0 : decide (k < 0) = true := decide_eq_true (by have : ¬ 0 ≤ k := fun h0 => h ⟨hP, h0⟩; omega)
    clear h hP
    go_enter Try.func10, Try.ntmps10
    go_wp2_with (go_at_call 18; refine (isPlan_ok p n _).mono ?_; rintro e w1 ⟨rfl, rfl⟩; rw [hd])
    refine bodyPost_ret (v := .tuple #[.int .i64 0, .int .i64 1]) (by simp [results, Try.results10, go_sem]) rfl ?_
    exact ⟨rfl, rfl⟩
  · have hd : decide (Plan p n) = false := decide_eq_false hP
    clear h hP
    go_enter Try.func10, Try.ntmps10
    go_wp2_with (go_at_call 18; refine (isPlan_ok p n _).mono ?_; rintro e w1 ⟨rfl, rfl⟩; rw [hd])
    refine bodyPost_ret (v := .tuple #[.int .i64 0, .int .i64 1]) (by simp [results, Try.results10, go_sem]) rfl ?_
    exact ⟨rfl, rfl⟩
theorem Arrears_ok (p n k b : Int) (w : World) (h : Plan p n) (h0 : 0 ≤ k) (hb : 0 ≤ b ∧ b ≤ 10000000000000) : Calls Try.prog 12 #[.int .i64 p, .int .i64 n, .int .i64 k, .int .i64 b] w fun e w' => e = .returned (.tuple #[.int .i64 (max 0 (b - lft p n k)), .int .i64 0]) ∧ w' = w.drew := by
  have bd := lft_bd p n k h h0
  have hp := h.2.1
  have hm : decide (0 ≤ b ∧ b ≤ 10000000000000) = true := decide_eq_true hb
  have HH := (show Hid _ from h)
  have H0 := (show Hid _ from h0)
  clear h h0
  obtain ⟨l, hl⟩ : ∃ l, l = lft p n k := ⟨_, rfl⟩
  have HL := (show Hid _ from hl)
  rw [← hl] at bd ⊢
  clear hl
  obtain ⟨b1, b2⟩ := hb
  obtain ⟨l1, l2⟩ := bd
  by_cases hk : 0 < b - l
  · have e : max 0 (b - l) = b - l := by omega
    have E := (show Hid _ from e)
    clear e
    go_enter Try.func12, Try.ntmps12
    go_wp2_with (first | (go_at_call 10; refine (Left_ok p n k _ HH.out H0.out).mono ?_; rintro e w1 ⟨rfl, rfl⟩; rw [← HL.out]) | (go_at_call 22; refine (isMinor_ok b _).mono ?_; rintro e w1 ⟨rfl, rfl⟩; rw [hm]))
    refine bodyPost_ret (v := .tuple #[.int .i64 (b - l), .int .i64 0]) (by simp [results, Try.results12, go_sem]) rfl ?_
    exact ⟨by rw [E.out], rfl⟩
  · have e : max 0 (b - l) = 0 := by omega
    have E := (show Hid _ from e)
    clear e
    go_enter Try.func12, Try.ntmps12
    go_wp2_with (first | (go_at_call 10; refine (Left_ok p n k _ HH.out H0.out).mono ?_; rintro e w1 ⟨rfl, rfl⟩; rw [← HL.out]) | (go_at_call 22; refine (isMinor_ok b _).mono ?_; rintro e w1 ⟨rfl, rfl⟩; rw [hm]))
    refine bodyPost_ret (v := .tuple #[.int .i64 0, .int .i64 0]) (by simp [results, Try.results12, go_sem]) rfl ?_
    exact ⟨by rw [E.out], rfl⟩
theorem Arrears_no (p n k b : Int) (w : World) (h : ¬ (Plan p n ∧ 0 ≤ k ∧ 0 ≤ b ∧ b ≤ 10000000000000)) : Calls Try.prog 12 #[.int .i64 p, .int .i64 n, .int .i64 k, .int .i64 b] w fun e w' => e = .returned (.tuple #[.int .i64 0, .int .i64 1]) ∧ Below w.heap.size w w' := by
  have B0 := (show Hid _ from Below.refl w.heap.size w)
  by_cases hP : Plan p n ∧ 0 ≤ k
  · have hm : decide (0 ≤ b ∧ b ≤ 10000000000000) = false := decide_eq_false (fun hb => h ⟨hP.1, hP.2, hb.1, hb.2⟩)
    have HP := (show Hid _ from hP)
    clear h hP
    obtain ⟨l, hl⟩ : ∃ l, l = lft p n k := ⟨_, rfl⟩
    have HL := (show Hid _ from hl)
    clear hl
    go_enter Try.func12, Try.ntmps12
    go_wp2_with (first | (go_at_call 10; refine (Left_ok p n k _ HP.out.1 HP.out.2).mono ?_; rintro e w1 ⟨rfl, rfl⟩; rw [← HL.out]) | (go_at_call 22; refine (isMinor_ok b _).mono ?_; rintro e w1 ⟨rfl, rfl⟩; rw [hm]))
    refine bodyPost_ret (v := .tuple #[.int .i64 0, .int .i64 1]) (by simp [results, Try.results12, go_sem]) rfl ?_
    exact ⟨rfl, B0.out.drew⟩
  · have HP := (show Hid _ from hP)
    clear h hP
    go_enter Try.func12, Try.ntmps12
    go_wp2_with (go_at_call 10; refine (Left_no p n k _ HP.out).mono ?_; rintro e w1 ⟨rfl, rfl⟩)
    refine bodyPost_ret (v := .tuple #[.int .i64 0, .int .i64 1]) (by simp [results, Try.results12, go_sem]) rfl ?_
    exact ⟨rfl, B0.out⟩
theorem Schedule_no (p n : Int) (w : World) (h : ¬ Plan p n) : Calls Try.prog 8 #[.int .i64 p, .int .i64 n] w fun e w' => e = .returned (.tuple #[.slice none 0 0, .int .i64 1]) ∧ w' = w := by
  have hd : decide (Plan p n) = false := decide_eq_false h
  clear h
  go_enter Try.func8, Try.ntmps8
  go_wp2_with (go_at_call 18; refine (isPlan_ok p n _).mono ?_; rintro e w1 ⟨rfl, rfl⟩; rw [hd])
  refine bodyPost_ret (v := .tuple #[.slice none 0 0, .int .i64 1]) (by simp [results, Try.results8, go_sem]) rfl ?_
  exact ⟨rfl, rfl⟩
theorem plan_set (p n : Int) (m k : Nat) (h : k < m) : (plan p n k ++ List.replicate (m - k) 0).set k (ins p n k) = plan p n (k + 1) ++ List.replicate (m - (k + 1)) 0 := by
  rw [List.set_append_right _ _ (by rw [plan_len]; omega), plan_len, Nat.sub_self, plan_succ, List.append_assoc]
  rw [show m - k = (m - (k + 1)) + 1 by omega, List.replicate_succ, List.set_cons_zero]
  rfl
set_option maxRecDepth 100000 in
theorem Schedule_ok (p : Int) (m : Nat) (w : World) (h : Plan p m) : Calls Try.prog 8 #[.int .i64 p, .int .i64 m] w fun e w' => (∃ v, e = .returned (.tuple #[v, .int .i64 0]) ∧ OwnI w' w.heap.size v (plan p m m)) ∧ Below w.heap.size w w' := by
  have hd : decide (Plan p m) = true := decide_eq_true h
  have hm : m ≤ 480 := by have := h.2.2.2; omega
  have hm1 : 1 ≤ m := by have := h.2.2.1; omega
  have HH := (show Hid _ from h)
  have B0 := (show Hid _ from Below.refl w.heap.size w)
  clear h
  go_enter Try.func8, Try.ntmps8
  go_wp2_with (first | (go_at_call 18; refine (isPlan_ok p m _).mono ?_; rintro e w1 ⟨rfl, hw⟩; obtain rfl := hw.symm; rw [hd]) | (at_make; refine mkI rfl _ _ rfl m _ _ (by rfl) (by rfl) rfl rfl (by omega) ?_; intro w1 hown hbel; have HO := (show Hid _ from hown); have HB := (show Hid _ from hbel); clear hown hbel))
  go_loopw [16] (fun i wr => ∃ k : Nat, k ≤ m ∧ i = .int .i64 k ∧ Hid (OwnI wr w.heap.size (.slice (some ⟨w.heap.size, 0, none⟩) m m) (plan p m k ++ List.replicate (m - k) 0)) ∧ Hid (Below w.heap.size w wr)) (fun i _ => m - (intOf i).toNat)
  case atStart => exact ⟨0, by omega, rfl, by simpa [plan] using HO, HB⟩
  case round =>
    obtain ⟨k, hk, rfl, ho, hb⟩ := hrel
    by_cases hkm : k = m
    · subst hkm
      go_wp2_with fail
      refine bodyPost_ret (v := .tuple #[.slice (some ⟨w.heap.size, 0, none⟩) k k, .int .i64 0]) (by simp [results, Try.results8, go_sem]) rfl ?_
      have := ho.out
      rw [Nat.sub_self, List.replicate_zero, List.append_nil] at this
      exact ⟨⟨_, rfl, this⟩, hb.out⟩
    have hk' : k < m := by omega
    have hlt : decide ((k : Int) < m) = true := decide_eq_true (by omega)
    have D := (show Hid _ from ho.out.step ((Below.refl wr.heap.size wr).drew.drew))
    have HB2 := (show Hid _ from (hb.out.drew.drew))
    have hlen : (plan p m k ++ List.replicate (m - k) 0).length = m := by rw [List.length_append, plan_len, List.length_replicate]; omega
    obtain ⟨g', eg, hgl, hcell⟩ := D.out.at k (by omega)
    cases eg
    have hfr := D.out.free k
    have bI := ins_nn p m k (by omega) (by have := HH.out.1; omega)
    have bp := pdv_bd p m k (by omega) (by have := HH.out.1; omega) (by omega)
    have bq := pdv_bd p m (k + 1) (by omega) (by have := HH.out.1; omega) (by omega)
    have hp := HH.out.2.1
    have hi : pdv p m (k + 1) - pdv p m k = ins p m k := rfl
    have hins : wrap64 (ins p m k) = ins p m k := by
      have : p / m ≤ p := Int.ediv_le_self _ (by have := HH.out.1; omega)
      unfold wrap64; omega
    clear hlen
    go_wp2_with fail
    refine (paid_ok p m ((k : Int) + 1) _ HH.out (by omega) (by omega)).mono ?_
    rintro e w2 ⟨rfl, rfl⟩
    go_wp2_with fail
    refine (paid_ok p m k _ HH.out (by omega) (by omega)).mono ?_
    rintro e w3 ⟨rfl, rfl⟩
    go_wp2_with fail
    have e2 := plan_set p m m k hk'
    refine ⟨⟨k + 1, by omega, by simp, ?_, ?_⟩, by simp [intOf]; omega⟩
    · rw [← e2]
      exact (ho.out.set k _).step ((Below.refl _ _).drew.drew)
    · exact (hb.out.setCell (Nat.le_refl _) _).drew.drew
end Go.Proofs.Ytapjegkjhdnlcaa
