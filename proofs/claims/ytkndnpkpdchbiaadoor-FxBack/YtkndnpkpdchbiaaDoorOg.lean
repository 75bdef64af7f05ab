/- fx: the walk of FxBack. -/
import Derived.Test.YtkndnpkpdchbiaaDoorOf
namespace Go.Proofs.YtkndnpkpdchbiaaDoor
open Go.RowKit
set_option linter.unusedVariables false
attribute [local go_sem] ext_cell ext_frozen ext_drew ext_of_drew ext_of_drewN ext_setCell ext_lt ext_lt1 ext_lt2 ext_lt3 lt_n2 lt_n3 lt_n4 lt_n5 lt_n6

theorem back_le (i o a r : Nat) (hr : 1 ≤ r) : gt i (wor o (gt o (wor i a r)) (1000000000000000000 / r)) ≤ a := by
  have hi := cdg_le i
  have ho := cdg_le o
  obtain ⟨G, hG⟩ : ∃ G, G = gt o (wor i a r) := ⟨_, rfl⟩
  obtain ⟨v, hv⟩ : ∃ v, v = 1000000000000000000 / r := ⟨_, rfl⟩
  rw [← hG, ← hv]
  have h1 : G * 10 ^ (12 - cdg o) ≤ a * r * 10 ^ (3 - cdg i) := by rw [hG]; unfold gt; exact Nat.div_mul_le_self _ _
  have h2 : v * r ≤ 1000000000000000000 := by rw [hv]; exact Nat.div_mul_le_self _ _
  have e1 : (10 : Nat) ^ (12 - cdg o) = 10 ^ (3 - cdg o) * 1000000000 := by
    rw [show 12 - cdg o = 3 - cdg o + 9 by omega, Nat.pow_add]
  have e2 : (10 : Nat) ^ (12 - cdg i) = 10 ^ (3 - cdg i) * 1000000000 := by
    rw [show 12 - cdg i = 3 - cdg i + 9 by omega, Nat.pow_add]
  have h3 : G * v * 10 ^ (3 - cdg o) ≤ a * 10 ^ (12 - cdg i) := by
    apply Nat.le_of_mul_le_mul_right (c := 1000000000) _ (by decide)
    have k1 : G * v * 10 ^ (3 - cdg o) * 1000000000 = v * (G * 10 ^ (12 - cdg o)) := by
      rw [e1, Nat.mul_comm G v, Nat.mul_assoc v G, Nat.mul_assoc v, Nat.mul_assoc G]
    have k2 : v * (G * 10 ^ (12 - cdg o)) ≤ v * (a * r * 10 ^ (3 - cdg i)) := Nat.mul_le_mul_left v h1
    have k3 : v * (a * r * 10 ^ (3 - cdg i)) = v * r * (a * 10 ^ (3 - cdg i)) := by
      rw [Nat.mul_comm a r, Nat.mul_assoc r, ← Nat.mul_assoc v]
    have k4 : v * r * (a * 10 ^ (3 - cdg i)) ≤ 1000000000000000000 * (a * 10 ^ (3 - cdg i)) := Nat.mul_le_mul_right _ h2
    have k5 : a * 10 ^ (12 - cdg i) * 1000000000 = 1000000000000000000 * (a * 10 ^ (3 - cdg i)) := by
      rw [e2, ← Nat.mul_assoc, Nat.mul_assoc (a * 10 ^ (3 - cdg i)), Nat.mul_comm (a * 10 ^ (3 - cdg i))]
    omega
  unfold gt wor
  have h4 := Nat.div_le_div_right (c := 10 ^ (12 - cdg i)) h3
  rw [Nat.mul_div_cancel _ (Nat.pow_pos (by decide))] at h4
  exact h4
/-- Convert, as the law reads it -/
theorem conv_any (i o r a : Nat) (hi : i < 4) (ho : o < 4) (hr : 1 ≤ r ∧ r ≤ 1000000000000) (ha : 1 ≤ a ∧ a ≤ 10000000000000) : ∃ (n e : Int) (x : Int) (y : Int) (z : Int),
    (∀ w, Cu w → Calls Tryd.prog 11 #[.int .i64 i, .int .i64 o, .int .i64 r, .int .i64 a] w fun q w' => q = .returned (.tuple #[.int .i64 n, .agg #[.int .i64 x, .int .u64 y, .int .i64 z], .int .i64 e]) ∧ Below w.heap.size w w') ∧
    ((e = 0 ∧ i ≠ o ∧ gt o (wor i a r) ≤ 10000000000000 ∧ n = (gt o (wor i a r) : Int)) ∨ ¬ e = 0 ∧ ¬ (i ≠ o ∧ gt o (wor i a r) ≤ 10000000000000)) := by
  by_cases hG : gt o (wor i a r) ≤ 10000000000000
  · by_cases hio : i = o
    · exact ⟨0, 10, 0, 0, 0, fun w T => conv_cur i o r a w T hi ho hr ha hG hio, Or.inr ⟨by decide, fun h => h.1 hio⟩⟩
    · exact ⟨_, 0, _, _, _, fun w T => conv_yes i o r a w T hi ho hr ha hG hio, Or.inl ⟨rfl, hio, hG, rfl⟩⟩
  · exact ⟨0, 4, 0, 0, 0, fun w T => conv_range i o r a w T hi ho hr ha hG, Or.inr ⟨by decide, fun h => hG h.2⟩⟩
set_option maxHeartbeats 4000000 in
set_option maxRecDepth 100000 in
theorem back_walk (c d x y : Int) (w : World) (T : Cu w) (c1 : 0 ≤ c) (c2 : c ≤ 255) (d1 : 0 ≤ d) (d2 : d ≤ 255) : Calls Tryd.prog 4 #[.int .u8 c, .int .u8 d, .int .i64 x, .int .i64 y] w fun e w' => e = .returned (.bool true) ∧ Below w.heap.size w w' := by
  have u1 := um x 1000000000000 (by omega) (by omega)
  have u2 := um y 10000000000000 (by omega) (by omega)
  have HT := (show Hid _ from T)
  clear T
  go_enter Tryd.func4, Tryd.ntmps4
  go_wp2_with fail
  refine (awake16 _ HT.out).mono ?_
  rintro e w1 ⟨rfl, b1'⟩
  have BB_1 := (show Hid _ from b1')
  have CU_1 := (show Hid _ from HT.out.step b1')
  clear b1' HT
  go_upto_region 6 with fail
  obtain ⟨R, hR⟩ : ∃ R, R = 1 + wrap64 ((IntKind.u64.wrap x).tmod 1000000000000) := ⟨_, rfl⟩
  obtain ⟨A, hA⟩ : ∃ A, A = 1 + wrap64 ((IntKind.u64.wrap y).tmod 10000000000000) := ⟨_, rfl⟩
  obtain ⟨I, hI⟩ : ∃ I, I = c % 4 := ⟨_, rfl⟩
  obtain ⟨O, hO⟩ : ∃ O, O = d % 4 := ⟨_, rfl⟩
  rw [← hR, ← hA, ← hI, ← hO]
  have r1 : 1 ≤ R ∧ R ≤ 1000000000000 := by omega
  have r2 : 1 ≤ A ∧ A ≤ 10000000000000 := by omega
  have r3 : 0 ≤ I ∧ I ≤ 3 := by omega
  have r4 : 0 ≤ O ∧ O ≤ 3 := by omega
  clear hR hA hI hO u1 u2 c1 c2 d1 d2
  generalize wrap64 ((IntKind.u64.wrap x).tmod 1000000000000) = z1
  generalize (IntKind.u64.wrap x).tmod 1000000000000 = z2
  generalize wrap64 ((IntKind.u64.wrap y).tmod 10000000000000) = z3
  generalize (IntKind.u64.wrap y).tmod 10000000000000 = z4
  obtain ⟨r, rfl⟩ := Int.eq_ofNat_of_zero_le (show 0 ≤ R by omega)
  obtain ⟨a, rfl⟩ := Int.eq_ofNat_of_zero_le (show 0 ≤ A by omega)
  obtain ⟨i, rfl⟩ := Int.eq_ofNat_of_zero_le r3.1
  obtain ⟨o, rfl⟩ := Int.eq_ofNat_of_zero_le r4.1
  have hr : 1 ≤ r ∧ r ≤ 1000000000000 := by omega
  have ha : 1 ≤ a ∧ a ≤ 10000000000000 := by omega
  have hi : i < 4 := by omega
  have ho : o < 4 := by omega
  clear r1 r2 r3 r4
  obtain ⟨n, e, x1, x2, x3, q1, k1⟩ := conv_any i o r a hi ho hr ha
  have Q1 := (show Hid _ from q1)
  clear q1
  obtain ⟨v, hv⟩ : ∃ v, v = 1000000000000000000 / r := ⟨_, rfl⟩
  have bl := back_le i o a r hr.1
  rw [← hv] at bl
  have hd : (1000000000000000000 : Int).tdiv (r : Int) = (v : Int) := by
    rw [Int.tdiv_eq_ediv_of_nonneg (by decide), hv, Int.natCast_ediv]
    rfl
  have hv1 : 1 ≤ v := by
    rw [hv]
    exact (Nat.le_div_iff_mul_le (by omega)).2 (by omega)
  have hvb : v ≤ 1000000000000000000 := by rw [hv]; exact Nat.div_le_self _ _
  have r0 : ¬ (r : Int) = 0 := by omega
  have HD := (show Hid _ from And.intro hr (And.intro ha (And.intro hi ho)))
  clear hv hr ha hi ho
  go_upto_region 7 with fail
  clear hd
  go_wp2_with fail
  refine (Q1.out _ CU_1.out).mono ?_
  rintro e' w2 ⟨rfl, b2⟩
  have BB_2 := (show Hid _ from BB_1.out.trans (b2.mono BB_1.out.size))
  have CU_2 := (show Hid _ from CU_1.out.step b2)
  clear b2 BB_1 CU_1 Q1
  rcases k1 with ⟨rfl, hio, hG, hn⟩ | ⟨he, _⟩
  · by_cases hn0 : n = 0
    · subst hn0
      clear hn
      go_wp2_with fail
      exact bodyPost_ret (v := .bool true) (by simp [results, Tryd.results4, go_sem]) rfl ⟨rfl, bel_alloc BB_2.out _⟩
    · have t1 : (n == 0) = false := by rw [beq_eq_false_iff_ne]; exact hn0
      have t2 : decide ((v : Int) < 1) = false := decide_eq_false (by omega)
      by_cases hv12 : 1000000000000 < v
      · have t3 : decide ((1000000000000 : Int) < (v : Int)) = true := decide_eq_true (by omega)
        clear hn hn0 hv12
        go_wp2_with fail
        exact bodyPost_ret (v := .bool true) (by simp [results, Tryd.results4, go_sem]) rfl ⟨rfl, bel_alloc BB_2.out _⟩
      · obtain ⟨N, hN⟩ : ∃ N, N = gt o (wor i a r) := ⟨_, rfl⟩
        rw [← hN] at hn hG bl
        subst hn
        clear hN
        obtain ⟨n2, e2, y1, y2, y3, q2, k2⟩ := conv_any o i v N HD.out.2.2.2 HD.out.2.2.1 ⟨hv1, by omega⟩ ⟨by omega, hG⟩
        have Q2 := (show Hid _ from q2)
        clear q2
        have kk : e2 = 0 ∧ n2 ≤ (a : Int) := by
          rcases k2 with ⟨h1, _, _, h2⟩ | ⟨_, h2⟩
          · exact ⟨h1, by omega⟩
          · exact absurd ⟨fun h => hio h.symm, by have := HD.out; omega⟩ h2
        obtain ⟨rfl, hle⟩ := kk
        have t3 : decide ((1000000000000 : Int) < (v : Int)) = false := decide_eq_false (by omega)
        have t4 : decide (n2 ≤ (a : Int)) = true := decide_eq_true hle
        clear k2 hle hv12 bl hn0
        go_wp2_with fail
        refine (Q2.out _ (CU_2.out.alloc _)).mono ?_
        rintro e' w3 ⟨rfl, b3⟩
        have BB_3 := (show Hid _ from BB_2.out.trans ((below_over b3).mono BB_2.out.size))
        clear b3 BB_2 CU_2 Q2
        go_wp2_with fail
        exact bodyPost_ret (v := .bool true) (by simp [results, Tryd.results4, go_sem]) rfl ⟨rfl, bel_alloc BB_3.out _⟩
  · have t0 : (e != 0) = true := by rw [bne_iff_ne]; exact he
    go_wp2_with fail
    exact bodyPost_ret (v := .bool true) (by simp [results, Tryd.results4, go_sem]) rfl ⟨rfl, bel_alloc BB_2.out _⟩
end Go.Proofs.YtkndnpkpdchbiaaDoor
