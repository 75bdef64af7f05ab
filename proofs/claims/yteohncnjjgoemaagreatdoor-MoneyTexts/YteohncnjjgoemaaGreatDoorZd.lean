/- digits: the document's figure, Fault. -/
import Derived.Test.YteohncnjjgoemaaGreatDoorZc
namespace Go.Proofs.YteohncnjjgoemaaGreatDoor.dg
open Go.RowKit
set_option linter.unusedVariables false
set_option linter.unusedSimpArgs false

set_option maxHeartbeats 1000000 in
theorem fig_yes (b : Int) (w : World) (h1 : 48 ≤ b) (h2 : b ≤ 57) : Calls Tryz.prog 80 #[.int .u8 b] w fun e w' => e = .returned (.bool true) ∧ w' = w := by
  go_enter Tryz.func80, Tryz.ntmps80
  go_wp2_with fail
  go_ret
  exact ⟨rfl, rfl⟩
set_option maxHeartbeats 1000000 in
theorem fig_no (b : Int) (w : World) (h : b < 48 ∨ 57 < b) : Calls Tryz.prog 80 #[.int .u8 b] w fun e w' => e = .returned (.bool false) ∧ w' = w := by
  rcases h with h | h
  · go_enter Tryz.func80, Tryz.ntmps80
    go_wp2_with fail
    go_ret
    exact ⟨rfl, rfl⟩
  · have h1 : (48 : Int) ≤ b := by omega
    have h2 : ¬ b ≤ 57 := by omega
    go_enter Tryz.func80, Tryz.ntmps80
    go_wp2_with fail
    go_ret
    exact ⟨rfl, rfl⟩
/-- a run of digits -/
structure Runs (s : ByteArray) (i n : Nat) : Prop where
  d : ∀ k, k < n → isDg s (i + k)
  x : ¬ isDg s (i + n)
theorem runs_up (s : ByteArray) (i : Nat) : ∀ m, s.size ≤ i + m → ∀ n, n ≤ m → (∀ k, k < m - n → isDg s (i + k)) → ∃ n, Runs s i n := by
  intro m hm n
  induction n with
  | zero => exact fun _ h => ⟨m, by simpa using h, fun ⟨h, _⟩ => by omega⟩
  | succ n ih =>
    intro hn h
    by_cases hd : isDg s (i + (m - (n + 1)))
    · exact ih (by omega) fun k hk => by
        by_cases e : k = m - (n + 1)
        · rw [e]; exact hd
        · exact h k (by omega)
    · exact ⟨m - (n + 1), h, hd⟩
theorem runs_any (s : ByteArray) (i : Nat) : ∃ n, Runs s i n := runs_up s i s.size (by omega) s.size (Nat.le_refl _) (fun k hk => by omega)
theorem Runs.le {s : ByteArray} {i n : Nat} (h : Runs s i n) (hi : i ≤ s.size) : i + n ≤ s.size := by
  rcases Nat.eq_zero_or_pos n with rfl | hn
  · exact hi
  · obtain ⟨hx, _⟩ := h.d (n - 1) (by omega)
    omega
theorem dg_at {s : ByteArray} {p : Nat} (h : isDg s p) : ∃ hp : p < s.size, 48 ≤ (s[p].toNat : Int) ∧ (s[p].toNat : Int) ≤ 57 := by
  obtain ⟨hp, a, b⟩ := h
  exact ⟨hp, by omega, by omega⟩
theorem ndg_at {s : ByteArray} {p : Nat} (h : ¬ isDg s p) (hp : p < s.size) : (s[p].toNat : Int) < 48 ∨ 57 < (s[p].toNat : Int) := by
  rcases Nat.lt_or_ge s[p].toNat 48 with a | a
  · exact Or.inl (by omega)
  · rcases Nat.lt_or_ge 57 s[p].toNat with b | b
    · exact Or.inr (by omega)
    · exact absurd ⟨hp, a, b⟩ h
set_option maxHeartbeats 4000000 in
set_option maxRecDepth 100000 in
theorem fC2_pos (s : ByteArray) (n : Nat) (w : World) (hb : bt s 0 ≠ 45) (hs : s.size ≤ 64) (hr : Runs s 0 n) (h2 : 2 ≤ n) (hz : bt s 0 = 48) :
    Calls Tryz.prog 47 #[.string s] w fun e w' => e = .returned (.int .i64 (((1 : Nat) : Int))) ∧ w' = w := by
  have h0 : 0 < s.size := by obtain ⟨h, _⟩ := hr.d 0 (by omega); omega
  have h0' : (0 : Int) < s.size := by omega
  have hle := hr.le (i := 0) (by omega)
  have HR := (show Hid _ from hr)
  have hx0 : (s[0].toNat : Int) = bt s 0 := by rw [bt_in h0]
  have hb0 : ((bt s 0 : Int) == 45) = false := by simp; omega
  have hxi : ((s[0]'(by omega)).toNat : Int) = bt s 0 := by rw [bt_in (by omega)]
  have HZ : Hid (bt s 0 = 48) := hz
  clear hz
  clear hr hb
  go_enter Tryz.func47, Tryz.ntmps47
  go_wp2_with fail
  go_loopw [3, 6] (fun a o wy => ∃ k p : Nat, k ≤ 1 ∧ Hid (p = 0 + k) ∧ a = .int .i64 (p : Int) ∧ ∃ ob : Bool, o = .bool ob ∧ Hid (ob = decide (nv s 0 0 k = 0)) ∧ wy = w) (fun a _ _ => s.size - (intOf a).toNat)
  case atStart => exact ⟨0, 0, by omega, rfl, rfl, true, rfl, rfl, rfl⟩
  case round =>
    obtain ⟨k, p, hk, HPK, rfl, ob, rfl, HOB, rfl⟩ := hrel
    by_cases hk1 : k = 1
    · obtain ⟨hps, hd1, hd2⟩ := dg_at (HR.out.d k (by omega))
      rw [show 0 + k = p from HPK.out.symm] at hps
      have hd1' : 48 ≤ (s[p].toNat : Int) := by have := HPK.out; subst this; exact hd1
      have hd2' : (s[p].toNat : Int) ≤ 57 := by have := HPK.out; subst this; exact hd2
      have hdg : dgt s (0 + k) = s[p].toNat - 48 := by have := HPK.out; subst this; unfold dgt; rw [dif_pos hps]
      have HDG := (show Hid _ from hdg)
      clear hd1 hd2 hdg
      have q1 : ((p : Int) == 1) = true := by have := HPK.out; simp; omega
      have q2 : ((bt s 0 : Int) == 48) = true := by rw [HZ.out]; rfl
      have hp1 : p = 1 := by have := HPK.out; omega
      have HP1 := (show Hid _ from hp1)
      clear hk1 hp1
      go_wp2_with fail
      refine (fig_yes _ _ hd1' hd2').mono ?_
      rintro e w1 ⟨rfl, rfl⟩
      go_wp2_with fail
      go_ret
      exact ⟨by show Ending.returned (.int .i64 (p : Int)) = _; rw [HP1.out], rfl⟩
    · obtain ⟨hps, hd1, hd2⟩ := dg_at (HR.out.d k (by omega))
      rw [show 0 + k = p from HPK.out.symm] at hps
      have hd1' : 48 ≤ (s[p].toNat : Int) := by have := HPK.out; subst this; exact hd1
      have hd2' : (s[p].toNat : Int) ≤ 57 := by have := HPK.out; subst this; exact hd2
      have hdg : dgt s (0 + k) = s[p].toNat - 48 := by have := HPK.out; subst this; unfold dgt; rw [dif_pos hps]
      have HDG := (show Hid _ from hdg)
      clear hd1 hd2 hdg
      have q1 : ((p : Int) == 1) = false := by have := HPK.out; simp; omega
      have hk0 : k = 0 := by omega
      have HK0 : Hid (k + 1 ≤ 1) := (by omega : k + 1 ≤ 1)
      clear hk1 hk0 hk
      cases ob with
      | false =>
        go_wp2_with fail
        refine (fig_yes _ _ hd1' hd2').mono ?_
        rintro e w1 ⟨rfl, rfl⟩
        go_wp2_with fail
        refine ⟨⟨k + 1, p + 1, HK0.out, (show Hid _ from (by have := HPK.out; omega : p + 1 = 0 + (k + 1))), by simp, false, rfl, ?_, trivial⟩, by simp [intOf] <;> omega⟩
        have h := HOB.out
        have hnv : nv s 0 0 (k + 1) = 10 * nv s 0 0 k + dgt s (0 + k) := rfl
        have h' : ¬ nv s 0 0 k = 0 := by simpa using h
        exact (by symm; simp; omega : false = decide (nv s 0 0 (k + 1) = 0))
      | true =>
        go_wp2_with fail
        refine (fig_yes _ _ hd1' hd2').mono ?_
        rintro e w1 ⟨rfl, rfl⟩
        go_wp2_with fail
        refine ⟨⟨k + 1, p + 1, HK0.out, (show Hid _ from (by have := HPK.out; omega : p + 1 = 0 + (k + 1))), by simp, _, rfl, ?_, trivial⟩, by simp [intOf] <;> omega⟩
        have h := HOB.out
        have g := HDG.out
        have hnv : nv s 0 0 (k + 1) = 10 * nv s 0 0 k + dgt s (0 + k) := rfl
        have h' : nv s 0 0 k = 0 := by simpa using h
        refine (show _ = decide (nv s 0 0 (k + 1) = 0) from ?_)
        rw [Bool.eq_iff_iff, beq_iff_eq, decide_eq_true_eq]
        omega
set_option maxHeartbeats 4000000 in
set_option maxRecDepth 100000 in
theorem fC3lt_pos (s : ByteArray) (n : Nat) (w : World) (hb : bt s 0 ≠ 45) (hs : s.size ≤ 64) (hr : Runs s 0 n) (h1 : 1 ≤ n) (hz : n = 1 ∨ bt s 0 ≠ 48) (hj : 0 + n < s.size) (hd : bt s (0 + n) ≠ 46) :
    Calls Tryz.prog 47 #[.string s] w fun e w' => e = .returned (.int .i64 (((0 + n : Nat) : Int))) ∧ w' = w := by
  have h0 : 0 < s.size := by obtain ⟨h, _⟩ := hr.d 0 (by omega); omega
  have h0' : (0 : Int) < s.size := by omega
  have hle := hr.le (i := 0) (by omega)
  have HR := (show Hid _ from hr)
  have hx0 : (s[0].toNat : Int) = bt s 0 := by rw [bt_in h0]
  have hb0 : ((bt s 0 : Int) == 45) = false := by simp; omega
  have hxi : ((s[0]'(by omega)).toNat : Int) = bt s 0 := by rw [bt_in (by omega)]
  have HZ := (show Hid _ from hz)
  clear hz
  have HD := (show Hid _ from hd)
  clear hd
  clear hr hb
  go_enter Tryz.func47, Tryz.ntmps47
  go_wp2_with fail
  go_loopw [3, 6] (fun a o wy => ∃ k p : Nat, k ≤ n ∧ Hid (p = 0 + k) ∧ a = .int .i64 (p : Int) ∧ ∃ ob : Bool, o = .bool ob ∧ Hid (ob = decide (nv s 0 0 k = 0)) ∧ wy = w) (fun a _ _ => s.size - (intOf a).toNat)
  case atStart => exact ⟨0, 0, by omega, rfl, rfl, true, rfl, rfl, rfl⟩
  case round =>
    obtain ⟨k, p, hk, HPK, rfl, ob, rfl, HOB, rfl⟩ := hrel
    by_cases hkn : k = n
    · subst hkn
      have qn : ((p : Int) == 0) = false := by have := HPK.out; simp; omega
      have hps : p < s.size := by have := HPK.out; omega
      have hx := ndg_at (show ¬ isDg s p by rw [HPK.out]; exact HR.out.x) hps
      have HX := (show Hid _ from hx)
      clear hx
      have q4 : ((s[p].toNat : Int) == 46) = false := by have h := HD.out; rw [← HPK.out, bt_in hps] at h; rw [beq_eq_false_iff_ne]; intro hh; exact h (by omega)
      go_wp2_with fail
      refine (fig_no _ _ HX.out).mono ?_
      rintro e w1 ⟨rfl, rfl⟩
      go_wp2_with fail
      go_ret
      exact ⟨by show Ending.returned (.int .i64 (p : Int)) = _; rw [HPK.out], rfl⟩
    · have hlt : k < n := by omega
      clear hkn
      obtain ⟨hps, hd1, hd2⟩ := dg_at (HR.out.d k hlt)
      rw [show 0 + k = p from HPK.out.symm] at hps
      have hd1' : 48 ≤ (s[p].toNat : Int) := by have := HPK.out; subst this; exact hd1
      have hd2' : (s[p].toNat : Int) ≤ 57 := by have := HPK.out; subst this; exact hd2
      have hdg : dgt s (0 + k) = s[p].toNat - 48 := by have := HPK.out; subst this; unfold dgt; rw [dif_pos hps]
      have HDG := (show Hid _ from hdg)
      clear hd1 hd2 hdg
      by_cases hk1 : k = 1
      · have q1 : ((p : Int) == 1) = true := by have := HPK.out; simp; omega
        have q2 : ((bt s 0 : Int) == 48) = false := by have := HZ.out; simp; omega
        clear hk1
        cases ob with
        | false =>
          go_wp2_with fail
          refine (fig_yes _ _ hd1' hd2').mono ?_
          rintro e w1 ⟨rfl, rfl⟩
          go_wp2_with fail
          refine ⟨⟨k + 1, p + 1, by omega, (show Hid _ from (by have := HPK.out; omega : p + 1 = 0 + (k + 1))), by simp, false, rfl, ?_, trivial⟩, by simp [intOf] <;> omega⟩
          have h := HOB.out
          have hnv : nv s 0 0 (k + 1) = 10 * nv s 0 0 k + dgt s (0 + k) := rfl
          have h' : ¬ nv s 0 0 k = 0 := by simpa using h
          exact (by symm; simp; omega : false = decide (nv s 0 0 (k + 1) = 0))
        | true =>
          go_wp2_with fail
          refine (fig_yes _ _ hd1' hd2').mono ?_
          rintro e w1 ⟨rfl, rfl⟩
          go_wp2_with fail
          refine ⟨⟨k + 1, p + 1, by omega, (show Hid _ from (by have := HPK.out; omega : p + 1 = 0 + (k + 1))), by simp, _, rfl, ?_, trivial⟩, by simp [intOf] <;> omega⟩
          have h := HOB.out
          have g := HDG.out
          have hnv : nv s 0 0 (k + 1) = 10 * nv s 0 0 k + dgt s (0 + k) := rfl
          have h' : nv s 0 0 k = 0 := by simpa using h
          refine (show _ = decide (nv s 0 0 (k + 1) = 0) from ?_)
          rw [Bool.eq_iff_iff, beq_iff_eq, decide_eq_true_eq]
          omega
      · have q1 : ((p : Int) == 1) = false := by have := HPK.out; simp; omega
        clear hk1
        cases ob with
        | false =>
          go_wp2_with fail
          refine (fig_yes _ _ hd1' hd2').mono ?_
          rintro e w1 ⟨rfl, rfl⟩
          go_wp2_with fail
          refine ⟨⟨k + 1, p + 1, by omega, (show Hid _ from (by have := HPK.out; omega : p + 1 = 0 + (k + 1))), by simp, false, rfl, ?_, trivial⟩, by simp [intOf] <;> omega⟩
          have h := HOB.out
          have hnv : nv s 0 0 (k + 1) = 10 * nv s 0 0 k + dgt s (0 + k) := rfl
          have h' : ¬ nv s 0 0 k = 0 := by simpa using h
          exact (by symm; simp; omega : false = decide (nv s 0 0 (k + 1) = 0))
        | true =>
          go_wp2_with fail
          refine (fig_yes _ _ hd1' hd2').mono ?_
          rintro e w1 ⟨rfl, rfl⟩
          go_wp2_with fail
          refine ⟨⟨k + 1, p + 1, by omega, (show Hid _ from (by have := HPK.out; omega : p + 1 = 0 + (k + 1))), by simp, _, rfl, ?_, trivial⟩, by simp [intOf] <;> omega⟩
          have h := HOB.out
          have g := HDG.out
          have hnv : nv s 0 0 (k + 1) = 10 * nv s 0 0 k + dgt s (0 + k) := rfl
          have h' : nv s 0 0 k = 0 := by simpa using h
          refine (show _ = decide (nv s 0 0 (k + 1) = 0) from ?_)
          rw [Bool.eq_iff_iff, beq_iff_eq, decide_eq_true_eq]
          omega
set_option maxHeartbeats 4000000 in
set_option maxRecDepth 100000 in
theorem fC3eq_pos (s : ByteArray) (n : Nat) (w : World) (hb : bt s 0 ≠ 45) (hs : s.size ≤ 64) (hr : Runs s 0 n) (h1 : 1 ≤ n) (hz : n = 1 ∨ bt s 0 ≠ 48) (hj : 0 + n = s.size) :
    Calls Tryz.prog 47 #[.string s] w fun e w' => e = .returned (.int .i64 (-1)) ∧ w' = w := by
  have h0 : 0 < s.size := by obtain ⟨h, _⟩ := hr.d 0 (by omega); omega
  have h0' : (0 : Int) < s.size := by omega
  have hle := hr.le (i := 0) (by omega)
  have HR := (show Hid _ from hr)
  have hx0 : (s[0].toNat : Int) = bt s 0 := by rw [bt_in h0]
  have hb0 : ((bt s 0 : Int) == 45) = false := by simp; omega
  have hxi : ((s[0]'(by omega)).toNat : Int) = bt s 0 := by rw [bt_in (by omega)]
  have HZ := (show Hid _ from hz)
  clear hz
  clear hr hb
  go_enter Tryz.func47, Tryz.ntmps47
  go_wp2_with fail
  go_loopw [3, 6] (fun a o wy => ∃ k p : Nat, k ≤ n ∧ Hid (p = 0 + k) ∧ a = .int .i64 (p : Int) ∧ ∃ ob : Bool, o = .bool ob ∧ Hid (ob = decide (nv s 0 0 k = 0)) ∧ wy = w) (fun a _ _ => s.size - (intOf a).toNat)
  case atStart => exact ⟨0, 0, by omega, rfl, rfl, true, rfl, rfl, rfl⟩
  case round =>
    obtain ⟨k, p, hk, HPK, rfl, ob, rfl, HOB, rfl⟩ := hrel
    by_cases hkn : k = n
    · subst hkn
      have qn : ((p : Int) == 0) = false := by have := HPK.out; simp; omega
      have hpe : ¬ (p : Int) < s.size := by have := HPK.out; omega
      go_wp2_with fail
      go_ret
      exact ⟨rfl, rfl⟩
    · have hlt : k < n := by omega
      clear hkn
      obtain ⟨hps, hd1, hd2⟩ := dg_at (HR.out.d k hlt)
      rw [show 0 + k = p from HPK.out.symm] at hps
      have hd1' : 48 ≤ (s[p].toNat : Int) := by have := HPK.out; subst this; exact hd1
      have hd2' : (s[p].toNat : Int) ≤ 57 := by have := HPK.out; subst this; exact hd2
      have hdg : dgt s (0 + k) = s[p].toNat - 48 := by have := HPK.out; subst this; unfold dgt; rw [dif_pos hps]
      have HDG := (show Hid _ from hdg)
      clear hd1 hd2 hdg
      by_cases hk1 : k = 1
      · have q1 : ((p : Int) == 1) = true := by have := HPK.out; simp; omega
        have q2 : ((bt s 0 : Int) == 48) = false := by have := HZ.out; simp; omega
        clear hk1
        cases ob with
        | false =>
          go_wp2_with fail
          refine (fig_yes _ _ hd1' hd2').mono ?_
          rintro e w1 ⟨rfl, rfl⟩
          go_wp2_with fail
          refine ⟨⟨k + 1, p + 1, by omega, (show Hid _ from (by have := HPK.out; omega : p + 1 = 0 + (k + 1))), by simp, false, rfl, ?_, trivial⟩, by simp [intOf] <;> omega⟩
          have h := HOB.out
          have hnv : nv s 0 0 (k + 1) = 10 * nv s 0 0 k + dgt s (0 + k) := rfl
          have h' : ¬ nv s 0 0 k = 0 := by simpa using h
          exact (by symm; simp; omega : false = decide (nv s 0 0 (k + 1) = 0))
        | true =>
          go_wp2_with fail
          refine (fig_yes _ _ hd1' hd2').mono ?_
          rintro e w1 ⟨rfl, rfl⟩
          go_wp2_with fail
          refine ⟨⟨k + 1, p + 1, by omega, (show Hid _ from (by have := HPK.out; omega : p + 1 = 0 + (k + 1))), by simp, _, rfl, ?_, trivial⟩, by simp [intOf] <;> omega⟩
          have h := HOB.out
          have g := HDG.out
          have hnv : nv s 0 0 (k + 1) = 10 * nv s 0 0 k + dgt s (0 + k) := rfl
          have h' : nv s 0 0 k = 0 := by simpa using h
          refine (show _ = decide (nv s 0 0 (k + 1) = 0) from ?_)
          rw [Bool.eq_iff_iff, beq_iff_eq, decide_eq_true_eq]
          omega
      · have q1 : ((p : Int) == 1) = false := by have := HPK.out; simp; omega
        clear hk1
        cases ob with
        | false =>
          go_wp2_with fail
          refine (fig_yes _ _ hd1' hd2').mono ?_
          rintro e w1 ⟨rfl, rfl⟩
          go_wp2_with fail
          refine ⟨⟨k + 1, p + 1, by omega, (show Hid _ from (by have := HPK.out; omega : p + 1 = 0 + (k + 1))), by simp, false, rfl, ?_, trivial⟩, by simp [intOf] <;> omega⟩
          have h := HOB.out
          have hnv : nv s 0 0 (k + 1) = 10 * nv s 0 0 k + dgt s (0 + k) := rfl
          have h' : ¬ nv s 0 0 k = 0 := by simpa using h
          exact (by symm; simp; omega : false = decide (nv s 0 0 (k + 1) = 0))
        | true =>
          go_wp2_with fail
          refine (fig_yes _ _ hd1' hd2').mono ?_
          rintro e w1 ⟨rfl, rfl⟩
          go_wp2_with fail
          refine ⟨⟨k + 1, p + 1, by omega, (show Hid _ from (by have := HPK.out; omega : p + 1 = 0 + (k + 1))), by simp, _, rfl, ?_, trivial⟩, by simp [intOf] <;> omega⟩
          have h := HOB.out
          have g := HDG.out
          have hnv : nv s 0 0 (k + 1) = 10 * nv s 0 0 k + dgt s (0 + k) := rfl
          have h' : nv s 0 0 k = 0 := by simpa using h
          refine (show _ = decide (nv s 0 0 (k + 1) = 0) from ?_)
          rw [Bool.eq_iff_iff, beq_iff_eq, decide_eq_true_eq]
          omega
set_option maxHeartbeats 4000000 in
set_option maxRecDepth 100000 in
theorem fC4_pos (s : ByteArray) (n : Nat) (w : World) (hb : bt s 0 ≠ 45) (hs : s.size ≤ 64) (hr : Runs s 0 n) (h1 : 1 ≤ n) (hz : n = 1 ∨ bt s 0 ≠ 48) (m : Nat) (hd : bt s (0 + n) = 46) (hrm : Runs s (0 + n + 1) m) (hm0 : m = 0) :
    Calls Tryz.prog 47 #[.string s] w fun e w' => e = .returned (.int .i64 (((0 + n + 1 : Nat) : Int))) ∧ w' = w := by
  have h0 : 0 < s.size := by obtain ⟨h, _⟩ := hr.d 0 (by omega); omega
  have h0' : (0 : Int) < s.size := by omega
  have hle := hr.le (i := 0) (by omega)
  have HR := (show Hid _ from hr)
  have hx0 : (s[0].toNat : Int) = bt s 0 := by rw [bt_in h0]
  have hb0 : ((bt s 0 : Int) == 45) = false := by simp; omega
  have hxi : ((s[0]'(by omega)).toNat : Int) = bt s 0 := by rw [bt_in (by omega)]
  have HZ := (show Hid _ from hz)
  clear hz
  have hj : 0 + n < s.size := bt_lt.1 (by omega)
  have hlm := hrm.le (by omega)
  have HD := (show Hid _ from hd)
  have HRm := (show Hid _ from hrm)
  clear hd hrm
  clear hr hb
  go_enter Tryz.func47, Tryz.ntmps47
  go_wp2_with fail
  go_loopw [3, 6] (fun a o wy => ∃ k p : Nat, k ≤ n ∧ Hid (p = 0 + k) ∧ a = .int .i64 (p : Int) ∧ ∃ ob : Bool, o = .bool ob ∧ Hid (ob = decide (nv s 0 0 k = 0)) ∧ wy = w) (fun a _ _ => s.size - (intOf a).toNat)
  case atStart => exact ⟨0, 0, by omega, rfl, rfl, true, rfl, rfl, rfl⟩
  case round =>
    obtain ⟨k, p, hk, HPK, rfl, ob, rfl, HOB, rfl⟩ := hrel
    by_cases hkn : k = n
    · subst hkn
      have qn : ((p : Int) == 0) = false := by have := HPK.out; simp; omega
      have hps : p < s.size := by have := HPK.out; omega
      have hx := ndg_at (show ¬ isDg s p by rw [HPK.out]; exact HR.out.x) hps
      have HX := (show Hid _ from hx)
      clear hx
      have q4 : ((s[p].toNat : Int) == 46) = true := by have h := HD.out; rw [← HPK.out, bt_in hps] at h; simp; omega
      go_wp2_with fail
      refine (fig_no _ _ HX.out).mono ?_
      rintro e w1 ⟨rfl, rfl⟩
      go_wp2_with fail
      obtain ⟨J, hJ⟩ : ∃ J, J = p + 1 := ⟨_, rfl⟩
      have eJ : (p : Int) + 1 = (J : Int) := by omega
      have HJ := (show Hid _ from hJ)
      have HR2 : Hid (Runs s J m) := (by rw [hJ, HPK.out]; exact HRm.out : Runs s J m)
      simp only [eJ]
      clear eJ hJ
      go_loopw [3, 6] (fun a o wy => ∃ k2 p2 : Nat, k2 ≤ m ∧ Hid (p2 = J + k2) ∧ a = .int .i64 (p2 : Int) ∧ ∃ oc : Bool, o = .bool oc ∧ Hid (oc = decide (nv s J (nv s 0 0 k) k2 = 0)) ∧ wy = w1) (fun a _ _ => s.size - (intOf a).toNat)
      case atStart => exact ⟨0, J, by omega, rfl, rfl, ob, rfl, HOB, rfl⟩
      case round =>
        obtain ⟨k2, p2, hk2, HPK2, rfl, oc, rfl, HOC, rfl⟩ := hrel
        by_cases hkm : k2 = m
        · subst hkm
          have qe : ((p2 : Int) == J) = true := by have := HPK2.out; simp; omega
          by_cases gps : p2 < s.size
          · have hx2 := ndg_at (show ¬ isDg s p2 by rw [HPK2.out]; exact HR2.out.x) gps
            have HX2 := (show Hid _ from hx2)
            clear hx2
            go_wp2_with fail
            refine (fig_no _ _ HX2.out).mono ?_
            rintro e w1 ⟨rfl, rfl⟩
            go_wp2_with fail
            go_ret
            exact ⟨by show Ending.returned (.int .i64 (p2 : Int)) = _; rw [HPK2.out, HJ.out, HPK.out]; simp [hm0], rfl⟩
          · have gpe : ¬ (p2 : Int) < s.size := by omega
            go_wp2_with fail
            go_ret
            exact ⟨by show Ending.returned (.int .i64 (p2 : Int)) = _; rw [HPK2.out, HJ.out, HPK.out]; simp [hm0], rfl⟩
        · have hlt2 : k2 < m := by omega
          clear hkm
          obtain ⟨gps, gd1, gd2⟩ := dg_at (HR2.out.d k2 hlt2)
          rw [show J + k2 = p2 from HPK2.out.symm] at gps
          have gd1' : 48 ≤ (s[p2].toNat : Int) := by have := HPK2.out; subst this; exact gd1
          have gd2' : (s[p2].toNat : Int) ≤ 57 := by have := HPK2.out; subst this; exact gd2
          have gdg : dgt s (J + k2) = s[p2].toNat - 48 := by have := HPK2.out; subst this; unfold dgt; rw [dif_pos gps]
          have HDG2 := (show Hid _ from gdg)
          clear gd1 gd2 gdg
          have q3 : ((p2 : Int) == J + 18) = false := by have := HPK2.out; simp; omega
          cases oc with
          | false =>
            go_wp2_with fail
            refine (fig_yes _ _ gd1' gd2').mono ?_
            rintro e w1 ⟨rfl, rfl⟩
            go_wp2_with fail
            refine ⟨⟨k2 + 1, p2 + 1, by omega, (show Hid _ from (by have := HPK2.out; omega : p2 + 1 = J + (k2 + 1))), by simp, false, rfl, ?_, trivial⟩, by simp [intOf] <;> omega⟩
            have h := HOC.out
            have hnv : nv s J (nv s 0 0 k) (k2 + 1) = 10 * nv s J (nv s 0 0 k) k2 + dgt s (J + k2) := rfl
            have h' : ¬ nv s J (nv s 0 0 k) k2 = 0 := by simpa using h
            exact (by symm; simp; omega : false = decide (nv s J (nv s 0 0 k) (k2 + 1) = 0))
          | true =>
            go_wp2_with fail
            refine (fig_yes _ _ gd1' gd2').mono ?_
            rintro e w1 ⟨rfl, rfl⟩
            go_wp2_with fail
            refine ⟨⟨k2 + 1, p2 + 1, by omega, (show Hid _ from (by have := HPK2.out; omega : p2 + 1 = J + (k2 + 1))), by simp, _, rfl, ?_, trivial⟩, by simp [intOf] <;> omega⟩
            have h := HOC.out
            have g := HDG2.out
            have hnv : nv s J (nv s 0 0 k) (k2 + 1) = 10 * nv s J (nv s 0 0 k) k2 + dgt s (J + k2) := rfl
            have h' : nv s J (nv s 0 0 k) k2 = 0 := by simpa using h
            refine (show _ = decide (nv s J (nv s 0 0 k) (k2 + 1) = 0) from ?_)
            rw [Bool.eq_iff_iff, beq_iff_eq, decide_eq_true_eq]
            omega
    · have hlt : k < n := by omega
      clear hkn
      obtain ⟨hps, hd1, hd2⟩ := dg_at (HR.out.d k hlt)
      rw [show 0 + k = p from HPK.out.symm] at hps
      have hd1' : 48 ≤ (s[p].toNat : Int) := by have := HPK.out; subst this; exact hd1
      have hd2' : (s[p].toNat : Int) ≤ 57 := by have := HPK.out; subst this; exact hd2
      have hdg : dgt s (0 + k) = s[p].toNat - 48 := by have := HPK.out; subst this; unfold dgt; rw [dif_pos hps]
      have HDG := (show Hid _ from hdg)
      clear hd1 hd2 hdg
      by_cases hk1 : k = 1
      · have q1 : ((p : Int) == 1) = true := by have := HPK.out; simp; omega
        have q2 : ((bt s 0 : Int) == 48) = false := by have := HZ.out; simp; omega
        clear hk1
        cases ob with
        | false =>
          go_wp2_with fail
          refine (fig_yes _ _ hd1' hd2').mono ?_
          rintro e w1 ⟨rfl, rfl⟩
          go_wp2_with fail
          refine ⟨⟨k + 1, p + 1, by omega, (show Hid _ from (by have := HPK.out; omega : p + 1 = 0 + (k + 1))), by simp, false, rfl, ?_, trivial⟩, by simp [intOf] <;> omega⟩
          have h := HOB.out
          have hnv : nv s 0 0 (k + 1) = 10 * nv s 0 0 k + dgt s (0 + k) := rfl
          have h' : ¬ nv s 0 0 k = 0 := by simpa using h
          exact (by symm; simp; omega : false = decide (nv s 0 0 (k + 1) = 0))
        | true =>
          go_wp2_with fail
          refine (fig_yes _ _ hd1' hd2').mono ?_
          rintro e w1 ⟨rfl, rfl⟩
          go_wp2_with fail
          refine ⟨⟨k + 1, p + 1, by omega, (show Hid _ from (by have := HPK.out; omega : p + 1 = 0 + (k + 1))), by simp, _, rfl, ?_, trivial⟩, by simp [intOf] <;> omega⟩
          have h := HOB.out
          have g := HDG.out
          have hnv : nv s 0 0 (k + 1) = 10 * nv s 0 0 k + dgt s (0 + k) := rfl
          have h' : nv s 0 0 k = 0 := by simpa using h
          refine (show _ = decide (nv s 0 0 (k + 1) = 0) from ?_)
          rw [Bool.eq_iff_iff, beq_iff_eq, decide_eq_true_eq]
          omega
      · have q1 : ((p : Int) == 1) = false := by have := HPK.out; simp; omega
        clear hk1
        cases ob with
        | false =>
          go_wp2_with fail
          refine (fig_yes _ _ hd1' hd2').mono ?_
          rintro e w1 ⟨rfl, rfl⟩
          go_wp2_with fail
          refine ⟨⟨k + 1, p + 1, by omega, (show Hid _ from (by have := HPK.out; omega : p + 1 = 0 + (k + 1))), by simp, false, rfl, ?_, trivial⟩, by simp [intOf] <;> omega⟩
          have h := HOB.out
          have hnv : nv s 0 0 (k + 1) = 10 * nv s 0 0 k + dgt s (0 + k) := rfl
          have h' : ¬ nv s 0 0 k = 0 := by simpa using h
          exact (by symm; simp; omega : false = decide (nv s 0 0 (k + 1) = 0))
        | true =>
          go_wp2_with fail
          refine (fig_yes _ _ hd1' hd2').mono ?_
          rintro e w1 ⟨rfl, rfl⟩
          go_wp2_with fail
          refine ⟨⟨k + 1, p + 1, by omega, (show Hid _ from (by have := HPK.out; omega : p + 1 = 0 + (k + 1))), by simp, _, rfl, ?_, trivial⟩, by simp [intOf] <;> omega⟩
          have h := HOB.out
          have g := HDG.out
          have hnv : nv s 0 0 (k + 1) = 10 * nv s 0 0 k + dgt s (0 + k) := rfl
          have h' : nv s 0 0 k = 0 := by simpa using h
          refine (show _ = decide (nv s 0 0 (k + 1) = 0) from ?_)
          rw [Bool.eq_iff_iff, beq_iff_eq, decide_eq_true_eq]
          omega
set_option maxHeartbeats 4000000 in
set_option maxRecDepth 100000 in
theorem fC5_pos (s : ByteArray) (n : Nat) (w : World) (hb : bt s 0 ≠ 45) (hs : s.size ≤ 64) (hr : Runs s 0 n) (h1 : 1 ≤ n) (hz : n = 1 ∨ bt s 0 ≠ 48) (m : Nat) (hd : bt s (0 + n) = 46) (hrm : Runs s (0 + n + 1) m) (hm : 19 ≤ m) :
    Calls Tryz.prog 47 #[.string s] w fun e w' => e = .returned (.int .i64 (((0 + n + 1 + 18 : Nat) : Int))) ∧ w' = w := by
  have h0 : 0 < s.size := by obtain ⟨h, _⟩ := hr.d 0 (by omega); omega
  have h0' : (0 : Int) < s.size := by omega
  have hle := hr.le (i := 0) (by omega)
  have HR := (show Hid _ from hr)
  have hx0 : (s[0].toNat : Int) = bt s 0 := by rw [bt_in h0]
  have hb0 : ((bt s 0 : Int) == 45) = false := by simp; omega
  have hxi : ((s[0]'(by omega)).toNat : Int) = bt s 0 := by rw [bt_in (by omega)]
  have HZ := (show Hid _ from hz)
  clear hz
  have hj : 0 + n < s.size := bt_lt.1 (by omega)
  have hlm := hrm.le (by omega)
  have HD := (show Hid _ from hd)
  have HRm := (show Hid _ from hrm)
  clear hd hrm
  clear hr hb
  go_enter Tryz.func47, Tryz.ntmps47
  go_wp2_with fail
  go_loopw [3, 6] (fun a o wy => ∃ k p : Nat, k ≤ n ∧ Hid (p = 0 + k) ∧ a = .int .i64 (p : Int) ∧ ∃ ob : Bool, o = .bool ob ∧ Hid (ob = decide (nv s 0 0 k = 0)) ∧ wy = w) (fun a _ _ => s.size - (intOf a).toNat)
  case atStart => exact ⟨0, 0, by omega, rfl, rfl, true, rfl, rfl, rfl⟩
  case round =>
    obtain ⟨k, p, hk, HPK, rfl, ob, rfl, HOB, rfl⟩ := hrel
    by_cases hkn : k = n
    · subst hkn
      have qn : ((p : Int) == 0) = false := by have := HPK.out; simp; omega
      have hps : p < s.size := by have := HPK.out; omega
      have hx := ndg_at (show ¬ isDg s p by rw [HPK.out]; exact HR.out.x) hps
      have HX := (show Hid _ from hx)
      clear hx
      have q4 : ((s[p].toNat : Int) == 46) = true := by have h := HD.out; rw [← HPK.out, bt_in hps] at h; simp; omega
      go_wp2_with fail
      refine (fig_no _ _ HX.out).mono ?_
      rintro e w1 ⟨rfl, rfl⟩
      go_wp2_with fail
      obtain ⟨J, hJ⟩ : ∃ J, J = p + 1 := ⟨_, rfl⟩
      have eJ : (p : Int) + 1 = (J : Int) := by omega
      have HJ := (show Hid _ from hJ)
      have HR2 : Hid (Runs s J m) := (by rw [hJ, HPK.out]; exact HRm.out : Runs s J m)
      simp only [eJ]
      clear eJ hJ
      go_loopw [3, 6] (fun a o wy => ∃ k2 p2 : Nat, k2 ≤ 18 ∧ Hid (p2 = J + k2) ∧ a = .int .i64 (p2 : Int) ∧ ∃ oc : Bool, o = .bool oc ∧ Hid (oc = decide (nv s J (nv s 0 0 k) k2 = 0)) ∧ wy = w1) (fun a _ _ => s.size - (intOf a).toNat)
      case atStart => exact ⟨0, J, by omega, rfl, rfl, ob, rfl, HOB, rfl⟩
      case round =>
        obtain ⟨k2, p2, hk2, HPK2, rfl, oc, rfl, HOC, rfl⟩ := hrel
        by_cases hk1 : k2 = 18
        · obtain ⟨gps, gd1, gd2⟩ := dg_at (HR2.out.d k2 (by omega))
          rw [show J + k2 = p2 from HPK2.out.symm] at gps
          have gd1' : 48 ≤ (s[p2].toNat : Int) := by have := HPK2.out; subst this; exact gd1
          have gd2' : (s[p2].toNat : Int) ≤ 57 := by have := HPK2.out; subst this; exact gd2
          have gdg : dgt s (J + k2) = s[p2].toNat - 48 := by have := HPK2.out; subst this; unfold dgt; rw [dif_pos gps]
          have HDG2 := (show Hid _ from gdg)
          clear gd1 gd2 gdg
          have q3 : ((p2 : Int) == J + 18) = true := by have := HPK2.out; simp; omega
          have hp1 : p2 = J + 18 := by have := HPK2.out; omega
          have HP1 := (show Hid _ from hp1)
          clear hk1 hp1
          go_wp2_with fail
          refine (fig_yes _ _ gd1' gd2').mono ?_
          rintro e w1 ⟨rfl, rfl⟩
          go_wp2_with fail
          go_ret
          exact ⟨by show Ending.returned (.int .i64 (p2 : Int)) = _; rw [HP1.out, HJ.out, HPK.out], rfl⟩
        · have HK0 : Hid (k2 + 1 ≤ 18) := (by omega : k2 + 1 ≤ 18)
          obtain ⟨gps, gd1, gd2⟩ := dg_at (HR2.out.d k2 (by omega))
          rw [show J + k2 = p2 from HPK2.out.symm] at gps
          have gd1' : 48 ≤ (s[p2].toNat : Int) := by have := HPK2.out; subst this; exact gd1
          have gd2' : (s[p2].toNat : Int) ≤ 57 := by have := HPK2.out; subst this; exact gd2
          have gdg : dgt s (J + k2) = s[p2].toNat - 48 := by have := HPK2.out; subst this; unfold dgt; rw [dif_pos gps]
          have HDG2 := (show Hid _ from gdg)
          clear gd1 gd2 gdg
          have q3 : ((p2 : Int) == J + 18) = false := by have := HPK2.out; simp; omega
          clear hk1
          cases oc with
          | false =>
            go_wp2_with fail
            refine (fig_yes _ _ gd1' gd2').mono ?_
            rintro e w1 ⟨rfl, rfl⟩
            go_wp2_with fail
            refine ⟨⟨k2 + 1, p2 + 1, HK0.out, (show Hid _ from (by have := HPK2.out; omega : p2 + 1 = J + (k2 + 1))), by simp, false, rfl, ?_, trivial⟩, by simp [intOf] <;> omega⟩
            have h := HOC.out
            have hnv : nv s J (nv s 0 0 k) (k2 + 1) = 10 * nv s J (nv s 0 0 k) k2 + dgt s (J + k2) := rfl
            have h' : ¬ nv s J (nv s 0 0 k) k2 = 0 := by simpa using h
            exact (by symm; simp; omega : false = decide (nv s J (nv s 0 0 k) (k2 + 1) = 0))
          | true =>
            go_wp2_with fail
            refine (fig_yes _ _ gd1' gd2').mono ?_
            rintro e w1 ⟨rfl, rfl⟩
            go_wp2_with fail
            refine ⟨⟨k2 + 1, p2 + 1, HK0.out, (show Hid _ from (by have := HPK2.out; omega : p2 + 1 = J + (k2 + 1))), by simp, _, rfl, ?_, trivial⟩, by simp [intOf] <;> omega⟩
            have h := HOC.out
            have g := HDG2.out
            have hnv : nv s J (nv s 0 0 k) (k2 + 1) = 10 * nv s J (nv s 0 0 k) k2 + dgt s (J + k2) := rfl
            have h' : nv s J (nv s 0 0 k) k2 = 0 := by simpa using h
            refine (show _ = decide (nv s J (nv s 0 0 k) (k2 + 1) = 0) from ?_)
            rw [Bool.eq_iff_iff, beq_iff_eq, decide_eq_true_eq]
            omega
    · have hlt : k < n := by omega
      clear hkn
      obtain ⟨hps, hd1, hd2⟩ := dg_at (HR.out.d k hlt)
      rw [show 0 + k = p from HPK.out.symm] at hps
      have hd1' : 48 ≤ (s[p].toNat : Int) := by have := HPK.out; subst this; exact hd1
      have hd2' : (s[p].toNat : Int) ≤ 57 := by have := HPK.out; subst this; exact hd2
      have hdg : dgt s (0 + k) = s[p].toNat - 48 := by have := HPK.out; subst this; unfold dgt; rw [dif_pos hps]
      have HDG := (show Hid _ from hdg)
      clear hd1 hd2 hdg
      by_cases hk1 : k = 1
      · have q1 : ((p : Int) == 1) = true := by have := HPK.out; simp; omega
        have q2 : ((bt s 0 : Int) == 48) = false := by have := HZ.out; simp; omega
        clear hk1
        cases ob with
        | false =>
          go_wp2_with fail
          refine (fig_yes _ _ hd1' hd2').mono ?_
          rintro e w1 ⟨rfl, rfl⟩
          go_wp2_with fail
          refine ⟨⟨k + 1, p + 1, by omega, (show Hid _ from (by have := HPK.out; omega : p + 1 = 0 + (k + 1))), by simp, false, rfl, ?_, trivial⟩, by simp [intOf] <;> omega⟩
          have h := HOB.out
          have hnv : nv s 0 0 (k + 1) = 10 * nv s 0 0 k + dgt s (0 + k) := rfl
          have h' : ¬ nv s 0 0 k = 0 := by simpa using h
          exact (by symm; simp; omega : false = decide (nv s 0 0 (k + 1) = 0))
        | true =>
          go_wp2_with fail
          refine (fig_yes _ _ hd1' hd2').mono ?_
          rintro e w1 ⟨rfl, rfl⟩
          go_wp2_with fail
          refine ⟨⟨k + 1, p + 1, by omega, (show Hid _ from (by have := HPK.out; omega : p + 1 = 0 + (k + 1))), by simp, _, rfl, ?_, trivial⟩, by simp [intOf] <;> omega⟩
          have h := HOB.out
          have g := HDG.out
          have hnv : nv s 0 0 (k + 1) = 10 * nv s 0 0 k + dgt s (0 + k) := rfl
          have h' : nv s 0 0 k = 0 := by simpa using h
          refine (show _ = decide (nv s 0 0 (k + 1) = 0) from ?_)
          rw [Bool.eq_iff_iff, beq_iff_eq, decide_eq_true_eq]
          omega
      · have q1 : ((p : Int) == 1) = false := by have := HPK.out; simp; omega
        clear hk1
        cases ob with
        | false =>
          go_wp2_with fail
          refine (fig_yes _ _ hd1' hd2').mono ?_
          rintro e w1 ⟨rfl, rfl⟩
          go_wp2_with fail
          refine ⟨⟨k + 1, p + 1, by omega, (show Hid _ from (by have := HPK.out; omega : p + 1 = 0 + (k + 1))), by simp, false, rfl, ?_, trivial⟩, by simp [intOf] <;> omega⟩
          have h := HOB.out
          have hnv : nv s 0 0 (k + 1) = 10 * nv s 0 0 k + dgt s (0 + k) := rfl
          have h' : ¬ nv s 0 0 k = 0 := by simpa using h
          exact (by symm; simp; omega : false = decide (nv s 0 0 (k + 1) = 0))
        | true =>
          go_wp2_with fail
          refine (fig_yes _ _ hd1' hd2').mono ?_
          rintro e w1 ⟨rfl, rfl⟩
          go_wp2_with fail
          refine ⟨⟨k + 1, p + 1, by omega, (show Hid _ from (by have := HPK.out; omega : p + 1 = 0 + (k + 1))), by simp, _, rfl, ?_, trivial⟩, by simp [intOf] <;> omega⟩
          have h := HOB.out
          have g := HDG.out
          have hnv : nv s 0 0 (k + 1) = 10 * nv s 0 0 k + dgt s (0 + k) := rfl
          have h' : nv s 0 0 k = 0 := by simpa using h
          refine (show _ = decide (nv s 0 0 (k + 1) = 0) from ?_)
          rw [Bool.eq_iff_iff, beq_iff_eq, decide_eq_true_eq]
          omega
set_option maxHeartbeats 4000000 in
set_option maxRecDepth 100000 in
theorem fC6lt_pos (s : ByteArray) (n : Nat) (w : World) (hb : bt s 0 ≠ 45) (hs : s.size ≤ 64) (hr : Runs s 0 n) (h1 : 1 ≤ n) (hz : n = 1 ∨ bt s 0 ≠ 48) (m : Nat) (hd : bt s (0 + n) = 46) (hrm : Runs s (0 + n + 1) m) (hm : 1 ≤ m) (hm18 : m ≤ 18) (hf : 0 + n + 1 + m < s.size) :
    Calls Tryz.prog 47 #[.string s] w fun e w' => e = .returned (.int .i64 (((0 + n + 1 + m : Nat) : Int))) ∧ w' = w := by
  have h0 : 0 < s.size := by obtain ⟨h, _⟩ := hr.d 0 (by omega); omega
  have h0' : (0 : Int) < s.size := by omega
  have hle := hr.le (i := 0) (by omega)
  have HR := (show Hid _ from hr)
  have hx0 : (s[0].toNat : Int) = bt s 0 := by rw [bt_in h0]
  have hb0 : ((bt s 0 : Int) == 45) = false := by simp; omega
  have hxi : ((s[0]'(by omega)).toNat : Int) = bt s 0 := by rw [bt_in (by omega)]
  have HZ := (show Hid _ from hz)
  clear hz
  have hj : 0 + n < s.size := bt_lt.1 (by omega)
  have hlm := hrm.le (by omega)
  have HD := (show Hid _ from hd)
  have HRm := (show Hid _ from hrm)
  clear hd hrm
  clear hr hb
  go_enter Tryz.func47, Tryz.ntmps47
  go_wp2_with fail
  go_loopw [3, 6] (fun a o wy => ∃ k p : Nat, k ≤ n ∧ Hid (p = 0 + k) ∧ a = .int .i64 (p : Int) ∧ ∃ ob : Bool, o = .bool ob ∧ Hid (ob = decide (nv s 0 0 k = 0)) ∧ wy = w) (fun a _ _ => s.size - (intOf a).toNat)
  case atStart => exact ⟨0, 0, by omega, rfl, rfl, true, rfl, rfl, rfl⟩
  case round =>
    obtain ⟨k, p, hk, HPK, rfl, ob, rfl, HOB, rfl⟩ := hrel
    by_cases hkn : k = n
    · subst hkn
      have qn : ((p : Int) == 0) = false := by have := HPK.out; simp; omega
      have hps : p < s.size := by have := HPK.out; omega
      have hx := ndg_at (show ¬ isDg s p by rw [HPK.out]; exact HR.out.x) hps
      have HX := (show Hid _ from hx)
      clear hx
      have q4 : ((s[p].toNat : Int) == 46) = true := by have h := HD.out; rw [← HPK.out, bt_in hps] at h; simp; omega
      go_wp2_with fail
      refine (fig_no _ _ HX.out).mono ?_
      rintro e w1 ⟨rfl, rfl⟩
      go_wp2_with fail
      obtain ⟨J, hJ⟩ : ∃ J, J = p + 1 := ⟨_, rfl⟩
      have eJ : (p : Int) + 1 = (J : Int) := by omega
      have HJ := (show Hid _ from hJ)
      have HR2 : Hid (Runs s J m) := (by rw [hJ, HPK.out]; exact HRm.out : Runs s J m)
      simp only [eJ]
      clear eJ hJ
      go_loopw [3, 6] (fun a o wy => ∃ k2 p2 : Nat, k2 ≤ m ∧ Hid (p2 = J + k2) ∧ a = .int .i64 (p2 : Int) ∧ ∃ oc : Bool, o = .bool oc ∧ Hid (oc = decide (nv s J (nv s 0 0 k) k2 = 0)) ∧ wy = w1) (fun a _ _ => s.size - (intOf a).toNat)
      case atStart => exact ⟨0, J, by omega, rfl, rfl, ob, rfl, HOB, rfl⟩
      case round =>
        obtain ⟨k2, p2, hk2, HPK2, rfl, oc, rfl, HOC, rfl⟩ := hrel
        by_cases hkm : k2 = m
        · subst hkm
          have qe : ((p2 : Int) == J) = false := by have := HPK2.out; simp; omega
          have gps : p2 < s.size := by have := HPK2.out; have := HJ.out; have := HPK.out; omega
          have hx2 := ndg_at (show ¬ isDg s p2 by rw [HPK2.out]; exact HR2.out.x) gps
          have HX2 := (show Hid _ from hx2)
          clear hx2
          go_wp2_with fail
          refine (fig_no _ _ HX2.out).mono ?_
          rintro e w1 ⟨rfl, rfl⟩
          go_wp2_with fail
          go_ret
          exact ⟨by show Ending.returned (.int .i64 (p2 : Int)) = _; rw [HPK2.out, HJ.out, HPK.out], rfl⟩
        · have hlt2 : k2 < m := by omega
          clear hkm
          obtain ⟨gps, gd1, gd2⟩ := dg_at (HR2.out.d k2 hlt2)
          rw [show J + k2 = p2 from HPK2.out.symm] at gps
          have gd1' : 48 ≤ (s[p2].toNat : Int) := by have := HPK2.out; subst this; exact gd1
          have gd2' : (s[p2].toNat : Int) ≤ 57 := by have := HPK2.out; subst this; exact gd2
          have gdg : dgt s (J + k2) = s[p2].toNat - 48 := by have := HPK2.out; subst this; unfold dgt; rw [dif_pos gps]
          have HDG2 := (show Hid _ from gdg)
          clear gd1 gd2 gdg
          have q3 : ((p2 : Int) == J + 18) = false := by have := HPK2.out; simp; omega
          cases oc with
          | false =>
            go_wp2_with fail
            refine (fig_yes _ _ gd1' gd2').mono ?_
            rintro e w1 ⟨rfl, rfl⟩
            go_wp2_with fail
            refine ⟨⟨k2 + 1, p2 + 1, by omega, (show Hid _ from (by have := HPK2.out; omega : p2 + 1 = J + (k2 + 1))), by simp, false, rfl, ?_, trivial⟩, by simp [intOf] <;> omega⟩
            have h := HOC.out
            have hnv : nv s J (nv s 0 0 k) (k2 + 1) = 10 * nv s J (nv s 0 0 k) k2 + dgt s (J + k2) := rfl
            have h' : ¬ nv s J (nv s 0 0 k) k2 = 0 := by simpa using h
            exact (by symm; simp; omega : false = decide (nv s J (nv s 0 0 k) (k2 + 1) = 0))
          | true =>
            go_wp2_with fail
            refine (fig_yes _ _ gd1' gd2').mono ?_
            rintro e w1 ⟨rfl, rfl⟩
            go_wp2_with fail
            refine ⟨⟨k2 + 1, p2 + 1, by omega, (show Hid _ from (by have := HPK2.out; omega : p2 + 1 = J + (k2 + 1))), by simp, _, rfl, ?_, trivial⟩, by simp [intOf] <;> omega⟩
            have h := HOC.out
            have g := HDG2.out
            have hnv : nv s J (nv s 0 0 k) (k2 + 1) = 10 * nv s J (nv s 0 0 k) k2 + dgt s (J + k2) := rfl
            have h' : nv s J (nv s 0 0 k) k2 = 0 := by simpa using h
            refine (show _ = decide (nv s J (nv s 0 0 k) (k2 + 1) = 0) from ?_)
            rw [Bool.eq_iff_iff, beq_iff_eq, decide_eq_true_eq]
            omega
    · have hlt : k < n := by omega
      clear hkn
      obtain ⟨hps, hd1, hd2⟩ := dg_at (HR.out.d k hlt)
      rw [show 0 + k = p from HPK.out.symm] at hps
      have hd1' : 48 ≤ (s[p].toNat : Int) := by have := HPK.out; subst this; exact hd1
      have hd2' : (s[p].toNat : Int) ≤ 57 := by have := HPK.out; subst this; exact hd2
      have hdg : dgt s (0 + k) = s[p].toNat - 48 := by have := HPK.out; subst this; unfold dgt; rw [dif_pos hps]
      have HDG := (show Hid _ from hdg)
      clear hd1 hd2 hdg
      by_cases hk1 : k = 1
      · have q1 : ((p : Int) == 1) = true := by have := HPK.out; simp; omega
        have q2 : ((bt s 0 : Int) == 48) = false := by have := HZ.out; simp; omega
        clear hk1
        cases ob with
        | false =>
          go_wp2_with fail
          refine (fig_yes _ _ hd1' hd2').mono ?_
          rintro e w1 ⟨rfl, rfl⟩
          go_wp2_with fail
          refine ⟨⟨k + 1, p + 1, by omega, (show Hid _ from (by have := HPK.out; omega : p + 1 = 0 + (k + 1))), by simp, false, rfl, ?_, trivial⟩, by simp [intOf] <;> omega⟩
          have h := HOB.out
          have hnv : nv s 0 0 (k + 1) = 10 * nv s 0 0 k + dgt s (0 + k) := rfl
          have h' : ¬ nv s 0 0 k = 0 := by simpa using h
          exact (by symm; simp; omega : false = decide (nv s 0 0 (k + 1) = 0))
        | true =>
          go_wp2_with fail
          refine (fig_yes _ _ hd1' hd2').mono ?_
          rintro e w1 ⟨rfl, rfl⟩
          go_wp2_with fail
          refine ⟨⟨k + 1, p + 1, by omega, (show Hid _ from (by have := HPK.out; omega : p + 1 = 0 + (k + 1))), by simp, _, rfl, ?_, trivial⟩, by simp [intOf] <;> omega⟩
          have h := HOB.out
          have g := HDG.out
          have hnv : nv s 0 0 (k + 1) = 10 * nv s 0 0 k + dgt s (0 + k) := rfl
          have h' : nv s 0 0 k = 0 := by simpa using h
          refine (show _ = decide (nv s 0 0 (k + 1) = 0) from ?_)
          rw [Bool.eq_iff_iff, beq_iff_eq, decide_eq_true_eq]
          omega
      · have q1 : ((p : Int) == 1) = false := by have := HPK.out; simp; omega
        clear hk1
        cases ob with
        | false =>
          go_wp2_with fail
          refine (fig_yes _ _ hd1' hd2').mono ?_
          rintro e w1 ⟨rfl, rfl⟩
          go_wp2_with fail
          refine ⟨⟨k + 1, p + 1, by omega, (show Hid _ from (by have := HPK.out; omega : p + 1 = 0 + (k + 1))), by simp, false, rfl, ?_, trivial⟩, by simp [intOf] <;> omega⟩
          have h := HOB.out
          have hnv : nv s 0 0 (k + 1) = 10 * nv s 0 0 k + dgt s (0 + k) := rfl
          have h' : ¬ nv s 0 0 k = 0 := by simpa using h
          exact (by symm; simp; omega : false = decide (nv s 0 0 (k + 1) = 0))
        | true =>
          go_wp2_with fail
          refine (fig_yes _ _ hd1' hd2').mono ?_
          rintro e w1 ⟨rfl, rfl⟩
          go_wp2_with fail
          refine ⟨⟨k + 1, p + 1, by omega, (show Hid _ from (by have := HPK.out; omega : p + 1 = 0 + (k + 1))), by simp, _, rfl, ?_, trivial⟩, by simp [intOf] <;> omega⟩
          have h := HOB.out
          have g := HDG.out
          have hnv : nv s 0 0 (k + 1) = 10 * nv s 0 0 k + dgt s (0 + k) := rfl
          have h' : nv s 0 0 k = 0 := by simpa using h
          refine (show _ = decide (nv s 0 0 (k + 1) = 0) from ?_)
          rw [Bool.eq_iff_iff, beq_iff_eq, decide_eq_true_eq]
          omega
set_option maxHeartbeats 4000000 in
set_option maxRecDepth 100000 in
theorem fC6eq_pos (s : ByteArray) (n : Nat) (w : World) (hb : bt s 0 ≠ 45) (hs : s.size ≤ 64) (hr : Runs s 0 n) (h1 : 1 ≤ n) (hz : n = 1 ∨ bt s 0 ≠ 48) (m : Nat) (hd : bt s (0 + n) = 46) (hrm : Runs s (0 + n + 1) m) (hm : 1 ≤ m) (hm18 : m ≤ 18) (hf : 0 + n + 1 + m = s.size) :
    Calls Tryz.prog 47 #[.string s] w fun e w' => e = .returned (.int .i64 (-1)) ∧ w' = w := by
  have h0 : 0 < s.size := by obtain ⟨h, _⟩ := hr.d 0 (by omega); omega
  have h0' : (0 : Int) < s.size := by omega
  have hle := hr.le (i := 0) (by omega)
  have HR := (show Hid _ from hr)
  have hx0 : (s[0].toNat : Int) = bt s 0 := by rw [bt_in h0]
  have hb0 : ((bt s 0 : Int) == 45) = false := by simp; omega
  have hxi : ((s[0]'(by omega)).toNat : Int) = bt s 0 := by rw [bt_in (by omega)]
  have HZ := (show Hid _ from hz)
  clear hz
  have hj : 0 + n < s.size := bt_lt.1 (by omega)
  have hlm := hrm.le (by omega)
  have HD := (show Hid _ from hd)
  have HRm := (show Hid _ from hrm)
  clear hd hrm
  clear hr hb
  go_enter Tryz.func47, Tryz.ntmps47
  go_wp2_with fail
  go_loopw [3, 6] (fun a o wy => ∃ k p : Nat, k ≤ n ∧ Hid (p = 0 + k) ∧ a = .int .i64 (p : Int) ∧ ∃ ob : Bool, o = .bool ob ∧ Hid (ob = decide (nv s 0 0 k = 0)) ∧ wy = w) (fun a _ _ => s.size - (intOf a).toNat)
  case atStart => exact ⟨0, 0, by omega, rfl, rfl, true, rfl, rfl, rfl⟩
  case round =>
    obtain ⟨k, p, hk, HPK, rfl, ob, rfl, HOB, rfl⟩ := hrel
    by_cases hkn : k = n
    · subst hkn
      have qn : ((p : Int) == 0) = false := by have := HPK.out; simp; omega
      have hps : p < s.size := by have := HPK.out; omega
      have hx := ndg_at (show ¬ isDg s p by rw [HPK.out]; exact HR.out.x) hps
      have HX := (show Hid _ from hx)
      clear hx
      have q4 : ((s[p].toNat : Int) == 46) = true := by have h := HD.out; rw [← HPK.out, bt_in hps] at h; simp; omega
      go_wp2_with fail
      refine (fig_no _ _ HX.out).mono ?_
      rintro e w1 ⟨rfl, rfl⟩
      go_wp2_with fail
      obtain ⟨J, hJ⟩ : ∃ J, J = p + 1 := ⟨_, rfl⟩
      have eJ : (p : Int) + 1 = (J : Int) := by omega
      have HJ := (show Hid _ from hJ)
      have HR2 : Hid (Runs s J m) := (by rw [hJ, HPK.out]; exact HRm.out : Runs s J m)
      simp only [eJ]
      clear eJ hJ
      go_loopw [3, 6] (fun a o wy => ∃ k2 p2 : Nat, k2 ≤ m ∧ Hid (p2 = J + k2) ∧ a = .int .i64 (p2 : Int) ∧ ∃ oc : Bool, o = .bool oc ∧ Hid (oc = decide (nv s J (nv s 0 0 k) k2 = 0)) ∧ wy = w1) (fun a _ _ => s.size - (intOf a).toNat)
      case atStart => exact ⟨0, J, by omega, rfl, rfl, ob, rfl, HOB, rfl⟩
      case round =>
        obtain ⟨k2, p2, hk2, HPK2, rfl, oc, rfl, HOC, rfl⟩ := hrel
        by_cases hkm : k2 = m
        · subst hkm
          have qe : ((p2 : Int) == J) = false := by have := HPK2.out; simp; omega
          have gpe : ¬ (p2 : Int) < s.size := by have := HPK2.out; have := HJ.out; have := HPK.out; omega
          go_wp2_with fail
          go_ret
          exact ⟨rfl, rfl⟩
        · have hlt2 : k2 < m := by omega
          clear hkm
          obtain ⟨gps, gd1, gd2⟩ := dg_at (HR2.out.d k2 hlt2)
          rw [show J + k2 = p2 from HPK2.out.symm] at gps
          have gd1' : 48 ≤ (s[p2].toNat : Int) := by have := HPK2.out; subst this; exact gd1
          have gd2' : (s[p2].toNat : Int) ≤ 57 := by have := HPK2.out; subst this; exact gd2
          have gdg : dgt s (J + k2) = s[p2].toNat - 48 := by have := HPK2.out; subst this; unfold dgt; rw [dif_pos gps]
          have HDG2 := (show Hid _ from gdg)
          clear gd1 gd2 gdg
          have q3 : ((p2 : Int) == J + 18) = false := by have := HPK2.out; simp; omega
          cases oc with
          | false =>
            go_wp2_with fail
            refine (fig_yes _ _ gd1' gd2').mono ?_
            rintro e w1 ⟨rfl, rfl⟩
            go_wp2_with fail
            refine ⟨⟨k2 + 1, p2 + 1, by omega, (show Hid _ from (by have := HPK2.out; omega : p2 + 1 = J + (k2 + 1))), by simp, false, rfl, ?_, trivial⟩, by simp [intOf] <;> omega⟩
            have h := HOC.out
            have hnv : nv s J (nv s 0 0 k) (k2 + 1) = 10 * nv s J (nv s 0 0 k) k2 + dgt s (J + k2) := rfl
            have h' : ¬ nv s J (nv s 0 0 k) k2 = 0 := by simpa using h
            exact (by symm; simp; omega : false = decide (nv s J (nv s 0 0 k) (k2 + 1) = 0))
          | true =>
            go_wp2_with fail
            refine (fig_yes _ _ gd1' gd2').mono ?_
            rintro e w1 ⟨rfl, rfl⟩
            go_wp2_with fail
            refine ⟨⟨k2 + 1, p2 + 1, by omega, (show Hid _ from (by have := HPK2.out; omega : p2 + 1 = J + (k2 + 1))), by simp, _, rfl, ?_, trivial⟩, by simp [intOf] <;> omega⟩
            have h := HOC.out
            have g := HDG2.out
            have hnv : nv s J (nv s 0 0 k) (k2 + 1) = 10 * nv s J (nv s 0 0 k) k2 + dgt s (J + k2) := rfl
            have h' : nv s J (nv s 0 0 k) k2 = 0 := by simpa using h
            refine (show _ = decide (nv s J (nv s 0 0 k) (k2 + 1) = 0) from ?_)
            rw [Bool.eq_iff_iff, beq_iff_eq, decide_eq_true_eq]
            omega
    · have hlt : k < n := by omega
      clear hkn
      obtain ⟨hps, hd1, hd2⟩ := dg_at (HR.out.d k hlt)
      rw [show 0 + k = p from HPK.out.symm] at hps
      have hd1' : 48 ≤ (s[p].toNat : Int) := by have := HPK.out; subst this; exact hd1
      have hd2' : (s[p].toNat : Int) ≤ 57 := by have := HPK.out; subst this; exact hd2
      have hdg : dgt s (0 + k) = s[p].toNat - 48 := by have := HPK.out; subst this; unfold dgt; rw [dif_pos hps]
      have HDG := (show Hid _ from hdg)
      clear hd1 hd2 hdg
      by_cases hk1 : k = 1
      · have q1 : ((p : Int) == 1) = true := by have := HPK.out; simp; omega
        have q2 : ((bt s 0 : Int) == 48) = false := by have := HZ.out; simp; omega
        clear hk1
        cases ob with
        | false =>
          go_wp2_with fail
          refine (fig_yes _ _ hd1' hd2').mono ?_
          rintro e w1 ⟨rfl, rfl⟩
          go_wp2_with fail
          refine ⟨⟨k + 1, p + 1, by omega, (show Hid _ from (by have := HPK.out; omega : p + 1 = 0 + (k + 1))), by simp, false, rfl, ?_, trivial⟩, by simp [intOf] <;> omega⟩
          have h := HOB.out
          have hnv : nv s 0 0 (k + 1) = 10 * nv s 0 0 k + dgt s (0 + k) := rfl
          have h' : ¬ nv s 0 0 k = 0 := by simpa using h
          exact (by symm; simp; omega : false = decide (nv s 0 0 (k + 1) = 0))
        | true =>
          go_wp2_with fail
          refine (fig_yes _ _ hd1' hd2').mono ?_
          rintro e w1 ⟨rfl, rfl⟩
          go_wp2_with fail
          refine ⟨⟨k + 1, p + 1, by omega, (show Hid _ from (by have := HPK.out; omega : p + 1 = 0 + (k + 1))), by simp, _, rfl, ?_, trivial⟩, by simp [intOf] <;> omega⟩
          have h := HOB.out
          have g := HDG.out
          have hnv : nv s 0 0 (k + 1) = 10 * nv s 0 0 k + dgt s (0 + k) := rfl
          have h' : nv s 0 0 k = 0 := by simpa using h
          refine (show _ = decide (nv s 0 0 (k + 1) = 0) from ?_)
          rw [Bool.eq_iff_iff, beq_iff_eq, decide_eq_true_eq]
          omega
      · have q1 : ((p : Int) == 1) = false := by have := HPK.out; simp; omega
        clear hk1
        cases ob with
        | false =>
          go_wp2_with fail
          refine (fig_yes _ _ hd1' hd2').mono ?_
          rintro e w1 ⟨rfl, rfl⟩
          go_wp2_with fail
          refine ⟨⟨k + 1, p + 1, by omega, (show Hid _ from (by have := HPK.out; omega : p + 1 = 0 + (k + 1))), by simp, false, rfl, ?_, trivial⟩, by simp [intOf] <;> omega⟩
          have h := HOB.out
          have hnv : nv s 0 0 (k + 1) = 10 * nv s 0 0 k + dgt s (0 + k) := rfl
          have h' : ¬ nv s 0 0 k = 0 := by simpa using h
          exact (by symm; simp; omega : false = decide (nv s 0 0 (k + 1) = 0))
        | true =>
          go_wp2_with fail
          refine (fig_yes _ _ hd1' hd2').mono ?_
          rintro e w1 ⟨rfl, rfl⟩
          go_wp2_with fail
          refine ⟨⟨k + 1, p + 1, by omega, (show Hid _ from (by have := HPK.out; omega : p + 1 = 0 + (k + 1))), by simp, _, rfl, ?_, trivial⟩, by simp [intOf] <;> omega⟩
          have h := HOB.out
          have g := HDG.out
          have hnv : nv s 0 0 (k + 1) = 10 * nv s 0 0 k + dgt s (0 + k) := rfl
          have h' : nv s 0 0 k = 0 := by simpa using h
          refine (show _ = decide (nv s 0 0 (k + 1) = 0) from ?_)
          rw [Bool.eq_iff_iff, beq_iff_eq, decide_eq_true_eq]
          omega
set_option maxHeartbeats 4000000 in
set_option maxRecDepth 100000 in
theorem fC2_neg (s : ByteArray) (n : Nat) (w : World) (hb : bt s 0 = 45) (hs : s.size ≤ 64) (hr : Runs s 1 n) (h2 : 2 ≤ n) (hz : bt s 1 = 48) :
    Calls Tryz.prog 47 #[.string s] w fun e w' => e = .returned (.int .i64 (((2 : Nat) : Int))) ∧ w' = w := by
  have h0 : 0 < s.size := by exact bt_lt.1 (by omega)
  have h0' : (0 : Int) < s.size := by omega
  have hle := hr.le (i := 1) (by omega)
  have HR := (show Hid _ from hr)
  have hx0 : (s[0].toNat : Int) = bt s 0 := by rw [bt_in h0]
  have hb0 : ((bt s 0 : Int) == 45) = true := by rw [hb]; rfl
  have hxi : ((s[1]'(by omega)).toNat : Int) = bt s 1 := by rw [bt_in (by omega)]
  have HZ : Hid (bt s 1 = 48) := hz
  clear hz
  clear hr hb
  go_enter Tryz.func47, Tryz.ntmps47
  go_wp2_with fail
  go_loopw [3, 6] (fun a o wy => ∃ k p : Nat, k ≤ 1 ∧ Hid (p = 1 + k) ∧ a = .int .i64 (p : Int) ∧ ∃ ob : Bool, o = .bool ob ∧ Hid (ob = decide (nv s 1 0 k = 0)) ∧ wy = w) (fun a _ _ => s.size - (intOf a).toNat)
  case atStart => exact ⟨0, 1, by omega, rfl, rfl, true, rfl, rfl, rfl⟩
  case round =>
    obtain ⟨k, p, hk, HPK, rfl, ob, rfl, HOB, rfl⟩ := hrel
    by_cases hk1 : k = 1
    · obtain ⟨hps, hd1, hd2⟩ := dg_at (HR.out.d k (by omega))
      rw [show 1 + k = p from HPK.out.symm] at hps
      have hd1' : 48 ≤ (s[p].toNat : Int) := by have := HPK.out; subst this; exact hd1
      have hd2' : (s[p].toNat : Int) ≤ 57 := by have := HPK.out; subst this; exact hd2
      have hdg : dgt s (1 + k) = s[p].toNat - 48 := by have := HPK.out; subst this; unfold dgt; rw [dif_pos hps]
      have HDG := (show Hid _ from hdg)
      clear hd1 hd2 hdg
      have q1 : ((p : Int) == 2) = true := by have := HPK.out; simp; omega
      have q2 : ((bt s 1 : Int) == 48) = true := by rw [HZ.out]; rfl
      have hp1 : p = 2 := by have := HPK.out; omega
      have HP1 := (show Hid _ from hp1)
      clear hk1 hp1
      go_wp2_with fail
      refine (fig_yes _ _ hd1' hd2').mono ?_
      rintro e w1 ⟨rfl, rfl⟩
      go_wp2_with fail
      go_ret
      exact ⟨by show Ending.returned (.int .i64 (p : Int)) = _; rw [HP1.out], rfl⟩
    · obtain ⟨hps, hd1, hd2⟩ := dg_at (HR.out.d k (by omega))
      rw [show 1 + k = p from HPK.out.symm] at hps
      have hd1' : 48 ≤ (s[p].toNat : Int) := by have := HPK.out; subst this; exact hd1
      have hd2' : (s[p].toNat : Int) ≤ 57 := by have := HPK.out; subst this; exact hd2
      have hdg : dgt s (1 + k) = s[p].toNat - 48 := by have := HPK.out; subst this; unfold dgt; rw [dif_pos hps]
      have HDG := (show Hid _ from hdg)
      clear hd1 hd2 hdg
      have q1 : ((p : Int) == 2) = false := by have := HPK.out; simp; omega
      have hk0 : k = 0 := by omega
      have HK0 : Hid (k + 1 ≤ 1) := (by omega : k + 1 ≤ 1)
      clear hk1 hk0 hk
      cases ob with
      | false =>
        go_wp2_with fail
        refine (fig_yes _ _ hd1' hd2').mono ?_
        rintro e w1 ⟨rfl, rfl⟩
        go_wp2_with fail
        refine ⟨⟨k + 1, p + 1, HK0.out, (show Hid _ from (by have := HPK.out; omega : p + 1 = 1 + (k + 1))), by simp, false, rfl, ?_, trivial⟩, by simp [intOf] <;> omega⟩
        have h := HOB.out
        have hnv : nv s 1 0 (k + 1) = 10 * nv s 1 0 k + dgt s (1 + k) := rfl
        have h' : ¬ nv s 1 0 k = 0 := by simpa using h
        exact (by symm; simp; omega : false = decide (nv s 1 0 (k + 1) = 0))
      | true =>
        go_wp2_with fail
        refine (fig_yes _ _ hd1' hd2').mono ?_
        rintro e w1 ⟨rfl, rfl⟩
        go_wp2_with fail
        refine ⟨⟨k + 1, p + 1, HK0.out, (show Hid _ from (by have := HPK.out; omega : p + 1 = 1 + (k + 1))), by simp, _, rfl, ?_, trivial⟩, by simp [intOf] <;> omega⟩
        have h := HOB.out
        have g := HDG.out
        have hnv : nv s 1 0 (k + 1) = 10 * nv s 1 0 k + dgt s (1 + k) := rfl
        have h' : nv s 1 0 k = 0 := by simpa using h
        refine (show _ = decide (nv s 1 0 (k + 1) = 0) from ?_)
        rw [Bool.eq_iff_iff, beq_iff_eq, decide_eq_true_eq]
        omega
set_option maxHeartbeats 4000000 in
set_option maxRecDepth 100000 in
theorem fC3lt_neg (s : ByteArray) (n : Nat) (w : World) (hb : bt s 0 = 45) (hs : s.size ≤ 64) (hr : Runs s 1 n) (h1 : 1 ≤ n) (hz : n = 1 ∨ bt s 1 ≠ 48) (hj : 1 + n < s.size) (hd : bt s (1 + n) ≠ 46) :
    Calls Tryz.prog 47 #[.string s] w fun e w' => e = .returned (.int .i64 (((1 + n : Nat) : Int))) ∧ w' = w := by
  have h0 : 0 < s.size := by exact bt_lt.1 (by omega)
  have h0' : (0 : Int) < s.size := by omega
  have hle := hr.le (i := 1) (by omega)
  have HR := (show Hid _ from hr)
  have hx0 : (s[0].toNat : Int) = bt s 0 := by rw [bt_in h0]
  have hb0 : ((bt s 0 : Int) == 45) = true := by rw [hb]; rfl
  have hxi : ((s[1]'(by omega)).toNat : Int) = bt s 1 := by rw [bt_in (by omega)]
  have HZ := (show Hid _ from hz)
  clear hz
  have HD := (show Hid _ from hd)
  clear hd
  clear hr hb
  go_enter Tryz.func47, Tryz.ntmps47
  go_wp2_with fail
  go_loopw [3, 6] (fun a o wy => ∃ k p : Nat, k ≤ n ∧ Hid (p = 1 + k) ∧ a = .int .i64 (p : Int) ∧ ∃ ob : Bool, o = .bool ob ∧ Hid (ob = decide (nv s 1 0 k = 0)) ∧ wy = w) (fun a _ _ => s.size - (intOf a).toNat)
  case atStart => exact ⟨0, 1, by omega, rfl, rfl, true, rfl, rfl, rfl⟩
  case round =>
    obtain ⟨k, p, hk, HPK, rfl, ob, rfl, HOB, rfl⟩ := hrel
    by_cases hkn : k = n
    · subst hkn
      have qn : ((p : Int) == 1) = false := by have := HPK.out; simp; omega
      have hps : p < s.size := by have := HPK.out; omega
      have hx := ndg_at (show ¬ isDg s p by rw [HPK.out]; exact HR.out.x) hps
      have HX := (show Hid _ from hx)
      clear hx
      have q4 : ((s[p].toNat : Int) == 46) = false := by have h := HD.out; rw [← HPK.out, bt_in hps] at h; rw [beq_eq_false_iff_ne]; intro hh; exact h (by omega)
      go_wp2_with fail
      refine (fig_no _ _ HX.out).mono ?_
      rintro e w1 ⟨rfl, rfl⟩
      go_wp2_with fail
      go_ret
      exact ⟨by show Ending.returned (.int .i64 (p : Int)) = _; rw [HPK.out], rfl⟩
    · have hlt : k < n := by omega
      clear hkn
      obtain ⟨hps, hd1, hd2⟩ := dg_at (HR.out.d k hlt)
      rw [show 1 + k = p from HPK.out.symm] at hps
      have hd1' : 48 ≤ (s[p].toNat : Int) := by have := HPK.out; subst this; exact hd1
      have hd2' : (s[p].toNat : Int) ≤ 57 := by have := HPK.out; subst this; exact hd2
      have hdg : dgt s (1 + k) = s[p].toNat - 48 := by have := HPK.out; subst this; unfold dgt; rw [dif_pos hps]
      have HDG := (show Hid _ from hdg)
      clear hd1 hd2 hdg
      by_cases hk1 : k = 1
      · have q1 : ((p : Int) == 2) = true := by have := HPK.out; simp; omega
        have q2 : ((bt s 1 : Int) == 48) = false := by have := HZ.out; simp; omega
        clear hk1
        cases ob with
        | false =>
          go_wp2_with fail
          refine (fig_yes _ _ hd1' hd2').mono ?_
          rintro e w1 ⟨rfl, rfl⟩
          go_wp2_with fail
          refine ⟨⟨k + 1, p + 1, by omega, (show Hid _ from (by have := HPK.out; omega : p + 1 = 1 + (k + 1))), by simp, false, rfl, ?_, trivial⟩, by simp [intOf] <;> omega⟩
          have h := HOB.out
          have hnv : nv s 1 0 (k + 1) = 10 * nv s 1 0 k + dgt s (1 + k) := rfl
          have h' : ¬ nv s 1 0 k = 0 := by simpa using h
          exact (by symm; simp; omega : false = decide (nv s 1 0 (k + 1) = 0))
        | true =>
          go_wp2_with fail
          refine (fig_yes _ _ hd1' hd2').mono ?_
          rintro e w1 ⟨rfl, rfl⟩
          go_wp2_with fail
          refine ⟨⟨k + 1, p + 1, by omega, (show Hid _ from (by have := HPK.out; omega : p + 1 = 1 + (k + 1))), by simp, _, rfl, ?_, trivial⟩, by simp [intOf] <;> omega⟩
          have h := HOB.out
          have g := HDG.out
          have hnv : nv s 1 0 (k + 1) = 10 * nv s 1 0 k + dgt s (1 + k) := rfl
          have h' : nv s 1 0 k = 0 := by simpa using h
          refine (show _ = decide (nv s 1 0 (k + 1) = 0) from ?_)
          rw [Bool.eq_iff_iff, beq_iff_eq, decide_eq_true_eq]
          omega
      · have q1 : ((p : Int) == 2) = false := by have := HPK.out; simp; omega
        clear hk1
        cases ob with
        | false =>
          go_wp2_with fail
          refine (fig_yes _ _ hd1' hd2').mono ?_
          rintro e w1 ⟨rfl, rfl⟩
          go_wp2_with fail
          refine ⟨⟨k + 1, p + 1, by omega, (show Hid _ from (by have := HPK.out; omega : p + 1 = 1 + (k + 1))), by simp, false, rfl, ?_, trivial⟩, by simp [intOf] <;> omega⟩
          have h := HOB.out
          have hnv : nv s 1 0 (k + 1) = 10 * nv s 1 0 k + dgt s (1 + k) := rfl
          have h' : ¬ nv s 1 0 k = 0 := by simpa using h
          exact (by symm; simp; omega : false = decide (nv s 1 0 (k + 1) = 0))
        | true =>
          go_wp2_with fail
          refine (fig_yes _ _ hd1' hd2').mono ?_
          rintro e w1 ⟨rfl, rfl⟩
          go_wp2_with fail
          refine ⟨⟨k + 1, p + 1, by omega, (show Hid _ from (by have := HPK.out; omega : p + 1 = 1 + (k + 1))), by simp, _, rfl, ?_, trivial⟩, by simp [intOf] <;> omega⟩
          have h := HOB.out
          have g := HDG.out
          have hnv : nv s 1 0 (k + 1) = 10 * nv s 1 0 k + dgt s (1 + k) := rfl
          have h' : nv s 1 0 k = 0 := by simpa using h
          refine (show _ = decide (nv s 1 0 (k + 1) = 0) from ?_)
          rw [Bool.eq_iff_iff, beq_iff_eq, decide_eq_true_eq]
          omega
set_option maxHeartbeats 4000000 in
set_option maxRecDepth 100000 in
theorem fC3eq_neg (s : ByteArray) (n : Nat) (w : World) (hb : bt s 0 = 45) (hs : s.size ≤ 64) (hr : Runs s 1 n) (h1 : 1 ≤ n) (hz : n = 1 ∨ bt s 1 ≠ 48) (hj : 1 + n = s.size) (A : Int) (hA : A = if nv s 1 0 n = 0 then 0 else -1) :
    Calls Tryz.prog 47 #[.string s] w fun e w' => e = .returned (.int .i64 (A)) ∧ w' = w := by
  have h0 : 0 < s.size := by exact bt_lt.1 (by omega)
  have h0' : (0 : Int) < s.size := by omega
  have hle := hr.le (i := 1) (by omega)
  have HR := (show Hid _ from hr)
  have hx0 : (s[0].toNat : Int) = bt s 0 := by rw [bt_in h0]
  have hb0 : ((bt s 0 : Int) == 45) = true := by rw [hb]; rfl
  have hxi : ((s[1]'(by omega)).toNat : Int) = bt s 1 := by rw [bt_in (by omega)]
  have HZ := (show Hid _ from hz)
  clear hz
  have HA := (show Hid _ from hA)
  clear hA
  clear hr hb
  go_enter Tryz.func47, Tryz.ntmps47
  go_wp2_with fail
  go_loopw [3, 6] (fun a o wy => ∃ k p : Nat, k ≤ n ∧ Hid (p = 1 + k) ∧ a = .int .i64 (p : Int) ∧ ∃ ob : Bool, o = .bool ob ∧ Hid (ob = decide (nv s 1 0 k = 0)) ∧ wy = w) (fun a _ _ => s.size - (intOf a).toNat)
  case atStart => exact ⟨0, 1, by omega, rfl, rfl, true, rfl, rfl, rfl⟩
  case round =>
    obtain ⟨k, p, hk, HPK, rfl, ob, rfl, HOB, rfl⟩ := hrel
    by_cases hkn : k = n
    · subst hkn
      have qn : ((p : Int) == 1) = false := by have := HPK.out; simp; omega
      have hpe : ¬ (p : Int) < s.size := by have := HPK.out; omega
      cases ob with
      | false =>
        go_wp2_with fail
        go_ret
        refine ⟨?_, rfl⟩
        have h := HOB.out
        have h' : ¬ nv s 1 0 k = 0 := by simpa using h
        rw [HA.out, if_neg h']
        rfl
      | true =>
        go_wp2_with fail
        go_ret
        refine ⟨?_, rfl⟩
        have h := HOB.out
        have h' : nv s 1 0 k = 0 := by simpa using h
        rw [HA.out, if_pos h']
        rfl
    · have hlt : k < n := by omega
      clear hkn
      obtain ⟨hps, hd1, hd2⟩ := dg_at (HR.out.d k hlt)
      rw [show 1 + k = p from HPK.out.symm] at hps
      have hd1' : 48 ≤ (s[p].toNat : Int) := by have := HPK.out; subst this; exact hd1
      have hd2' : (s[p].toNat : Int) ≤ 57 := by have := HPK.out; subst this; exact hd2
      have hdg : dgt s (1 + k) = s[p].toNat - 48 := by have := HPK.out; subst this; unfold dgt; rw [dif_pos hps]
      have HDG := (show Hid _ from hdg)
      clear hd1 hd2 hdg
      by_cases hk1 : k = 1
      · have q1 : ((p : Int) == 2) = true := by have := HPK.out; simp; omega
        have q2 : ((bt s 1 : Int) == 48) = false := by have := HZ.out; simp; omega
        clear hk1
        cases ob with
        | false =>
          go_wp2_with fail
          refine (fig_yes _ _ hd1' hd2').mono ?_
          rintro e w1 ⟨rfl, rfl⟩
          go_wp2_with fail
          refine ⟨⟨k + 1, p + 1, by omega, (show Hid _ from (by have := HPK.out; omega : p + 1 = 1 + (k + 1))), by simp, false, rfl, ?_, trivial⟩, by simp [intOf] <;> omega⟩
          have h := HOB.out
          have hnv : nv s 1 0 (k + 1) = 10 * nv s 1 0 k + dgt s (1 + k) := rfl
          have h' : ¬ nv s 1 0 k = 0 := by simpa using h
          exact (by symm; simp; omega : false = decide (nv s 1 0 (k + 1) = 0))
        | true =>
          go_wp2_with fail
          refine (fig_yes _ _ hd1' hd2').mono ?_
          rintro e w1 ⟨rfl, rfl⟩
          go_wp2_with fail
          refine ⟨⟨k + 1, p + 1, by omega, (show Hid _ from (by have := HPK.out; omega : p + 1 = 1 + (k + 1))), by simp, _, rfl, ?_, trivial⟩, by simp [intOf] <;> omega⟩
          have h := HOB.out
          have g := HDG.out
          have hnv : nv s 1 0 (k + 1) = 10 * nv s 1 0 k + dgt s (1 + k) := rfl
          have h' : nv s 1 0 k = 0 := by simpa using h
          refine (show _ = decide (nv s 1 0 (k + 1) = 0) from ?_)
          rw [Bool.eq_iff_iff, beq_iff_eq, decide_eq_true_eq]
          omega
      · have q1 : ((p : Int) == 2) = false := by have := HPK.out; simp; omega
        clear hk1
        cases ob with
        | false =>
          go_wp2_with fail
          refine (fig_yes _ _ hd1' hd2').mono ?_
          rintro e w1 ⟨rfl, rfl⟩
          go_wp2_with fail
          refine ⟨⟨k + 1, p + 1, by omega, (show Hid _ from (by have := HPK.out; omega : p + 1 = 1 + (k + 1))), by simp, false, rfl, ?_, trivial⟩, by simp [intOf] <;> omega⟩
          have h := HOB.out
          have hnv : nv s 1 0 (k + 1) = 10 * nv s 1 0 k + dgt s (1 + k) := rfl
          have h' : ¬ nv s 1 0 k = 0 := by simpa using h
          exact (by symm; simp; omega : false = decide (nv s 1 0 (k + 1) = 0))
        | true =>
          go_wp2_with fail
          refine (fig_yes _ _ hd1' hd2').mono ?_
          rintro e w1 ⟨rfl, rfl⟩
          go_wp2_with fail
          refine ⟨⟨k + 1, p + 1, by omega, (show Hid _ from (by have := HPK.out; omega : p + 1 = 1 + (k + 1))), by simp, _, rfl, ?_, trivial⟩, by simp [intOf] <;> omega⟩
          have h := HOB.out
          have g := HDG.out
          have hnv : nv s 1 0 (k + 1) = 10 * nv s 1 0 k + dgt s (1 + k) := rfl
          have h' : nv s 1 0 k = 0 := by simpa using h
          refine (show _ = decide (nv s 1 0 (k + 1) = 0) from ?_)
          rw [Bool.eq_iff_iff, beq_iff_eq, decide_eq_true_eq]
          omega
set_option maxHeartbeats 4000000 in
set_option maxRecDepth 100000 in
theorem fC4_neg (s : ByteArray) (n : Nat) (w : World) (hb : bt s 0 = 45) (hs : s.size ≤ 64) (hr : Runs s 1 n) (h1 : 1 ≤ n) (hz : n = 1 ∨ bt s 1 ≠ 48) (m : Nat) (hd : bt s (1 + n) = 46) (hrm : Runs s (1 + n + 1) m) (hm0 : m = 0) :
    Calls Tryz.prog 47 #[.string s] w fun e w' => e = .returned (.int .i64 (((1 + n + 1 : Nat) : Int))) ∧ w' = w := by
  have h0 : 0 < s.size := by exact bt_lt.1 (by omega)
  have h0' : (0 : Int) < s.size := by omega
  have hle := hr.le (i := 1) (by omega)
  have HR := (show Hid _ from hr)
  have hx0 : (s[0].toNat : Int) = bt s 0 := by rw [bt_in h0]
  have hb0 : ((bt s 0 : Int) == 45) = true := by rw [hb]; rfl
  have hxi : ((s[1]'(by omega)).toNat : Int) = bt s 1 := by rw [bt_in (by omega)]
  have HZ := (show Hid _ from hz)
  clear hz
  have hj : 1 + n < s.size := bt_lt.1 (by omega)
  have hlm := hrm.le (by omega)
  have HD := (show Hid _ from hd)
  have HRm := (show Hid _ from hrm)
  clear hd hrm
  clear hr hb
  go_enter Tryz.func47, Tryz.ntmps47
  go_wp2_with fail
  go_loopw [3, 6] (fun a o wy => ∃ k p : Nat, k ≤ n ∧ Hid (p = 1 + k) ∧ a = .int .i64 (p : Int) ∧ ∃ ob : Bool, o = .bool ob ∧ Hid (ob = decide (nv s 1 0 k = 0)) ∧ wy = w) (fun a _ _ => s.size - (intOf a).toNat)
  case atStart => exact ⟨0, 1, by omega, rfl, rfl, true, rfl, rfl, rfl⟩
  case round =>
    obtain ⟨k, p, hk, HPK, rfl, ob, rfl, HOB, rfl⟩ := hrel
    by_cases hkn : k = n
    · subst hkn
      have qn : ((p : Int) == 1) = false := by have := HPK.out; simp; omega
      have hps : p < s.size := by have := HPK.out; omega
      have hx := ndg_at (show ¬ isDg s p by rw [HPK.out]; exact HR.out.x) hps
      have HX := (show Hid _ from hx)
      clear hx
      have q4 : ((s[p].toNat : Int) == 46) = true := by have h := HD.out; rw [← HPK.out, bt_in hps] at h; simp; omega
      go_wp2_with fail
      refine (fig_no _ _ HX.out).mono ?_
      rintro e w1 ⟨rfl, rfl⟩
      go_wp2_with fail
      obtain ⟨J, hJ⟩ : ∃ J, J = p + 1 := ⟨_, rfl⟩
      have eJ : (p : Int) + 1 = (J : Int) := by omega
      have HJ := (show Hid _ from hJ)
      have HR2 : Hid (Runs s J m) := (by rw [hJ, HPK.out]; exact HRm.out : Runs s J m)
      simp only [eJ]
      clear eJ hJ
      go_loopw [3, 6] (fun a o wy => ∃ k2 p2 : Nat, k2 ≤ m ∧ Hid (p2 = J + k2) ∧ a = .int .i64 (p2 : Int) ∧ ∃ oc : Bool, o = .bool oc ∧ Hid (oc = decide (nv s J (nv s 1 0 k) k2 = 0)) ∧ wy = w1) (fun a _ _ => s.size - (intOf a).toNat)
      case atStart => exact ⟨0, J, by omega, rfl, rfl, ob, rfl, HOB, rfl⟩
      case round =>
        obtain ⟨k2, p2, hk2, HPK2, rfl, oc, rfl, HOC, rfl⟩ := hrel
        by_cases hkm : k2 = m
        · subst hkm
          have qe : ((p2 : Int) == J) = true := by have := HPK2.out; simp; omega
          by_cases gps : p2 < s.size
          · have hx2 := ndg_at (show ¬ isDg s p2 by rw [HPK2.out]; exact HR2.out.x) gps
            have HX2 := (show Hid _ from hx2)
            clear hx2
            go_wp2_with fail
            refine (fig_no _ _ HX2.out).mono ?_
            rintro e w1 ⟨rfl, rfl⟩
            go_wp2_with fail
            go_ret
            exact ⟨by show Ending.returned (.int .i64 (p2 : Int)) = _; rw [HPK2.out, HJ.out, HPK.out]; simp [hm0], rfl⟩
          · have gpe : ¬ (p2 : Int) < s.size := by omega
            go_wp2_with fail
            go_ret
            exact ⟨by show Ending.returned (.int .i64 (p2 : Int)) = _; rw [HPK2.out, HJ.out, HPK.out]; simp [hm0], rfl⟩
        · have hlt2 : k2 < m := by omega
          clear hkm
          obtain ⟨gps, gd1, gd2⟩ := dg_at (HR2.out.d k2 hlt2)
          rw [show J + k2 = p2 from HPK2.out.symm] at gps
          have gd1' : 48 ≤ (s[p2].toNat : Int) := by have := HPK2.out; subst this; exact gd1
          have gd2' : (s[p2].toNat : Int) ≤ 57 := by have := HPK2.out; subst this; exact gd2
          have gdg : dgt s (J + k2) = s[p2].toNat - 48 := by have := HPK2.out; subst this; unfold dgt; rw [dif_pos gps]
          have HDG2 := (show Hid _ from gdg)
          clear gd1 gd2 gdg
          have q3 : ((p2 : Int) == J + 18) = false := by have := HPK2.out; simp; omega
          cases oc with
          | false =>
            go_wp2_with fail
            refine (fig_yes _ _ gd1' gd2').mono ?_
            rintro e w1 ⟨rfl, rfl⟩
            go_wp2_with fail
            refine ⟨⟨k2 + 1, p2 + 1, by omega, (show Hid _ from (by have := HPK2.out; omega : p2 + 1 = J + (k2 + 1))), by simp, false, rfl, ?_, trivial⟩, by simp [intOf] <;> omega⟩
            have h := HOC.out
            have hnv : nv s J (nv s 1 0 k) (k2 + 1) = 10 * nv s J (nv s 1 0 k) k2 + dgt s (J + k2) := rfl
            have h' : ¬ nv s J (nv s 1 0 k) k2 = 0 := by simpa using h
            exact (by symm; simp; omega : false = decide (nv s J (nv s 1 0 k) (k2 + 1) = 0))
          | true =>
            go_wp2_with fail
            refine (fig_yes _ _ gd1' gd2').mono ?_
            rintro e w1 ⟨rfl, rfl⟩
            go_wp2_with fail
            refine ⟨⟨k2 + 1, p2 + 1, by omega, (show Hid _ from (by have := HPK2.out; omega : p2 + 1 = J + (k2 + 1))), by simp, _, rfl, ?_, trivial⟩, by simp [intOf] <;> omega⟩
            have h := HOC.out
            have g := HDG2.out
            have hnv : nv s J (nv s 1 0 k) (k2 + 1) = 10 * nv s J (nv s 1 0 k) k2 + dgt s (J + k2) := rfl
            have h' : nv s J (nv s 1 0 k) k2 = 0 := by simpa using h
            refine (show _ = decide (nv s J (nv s 1 0 k) (k2 + 1) = 0) from ?_)
            rw [Bool.eq_iff_iff, beq_iff_eq, decide_eq_true_eq]
            omega
    · have hlt : k < n := by omega
      clear hkn
      obtain ⟨hps, hd1, hd2⟩ := dg_at (HR.out.d k hlt)
      rw [show 1 + k = p from HPK.out.symm] at hps
      have hd1' : 48 ≤ (s[p].toNat : Int) := by have := HPK.out; subst this; exact hd1
      have hd2' : (s[p].toNat : Int) ≤ 57 := by have := HPK.out; subst this; exact hd2
      have hdg : dgt s (1 + k) = s[p].toNat - 48 := by have := HPK.out; subst this; unfold dgt; rw [dif_pos hps]
      have HDG := (show Hid _ from hdg)
      clear hd1 hd2 hdg
      by_cases hk1 : k = 1
      · have q1 : ((p : Int) == 2) = true := by have := HPK.out; simp; omega
        have q2 : ((bt s 1 : Int) == 48) = false := by have := HZ.out; simp; omega
        clear hk1
        cases ob with
        | false =>
          go_wp2_with fail
          refine (fig_yes _ _ hd1' hd2').mono ?_
          rintro e w1 ⟨rfl, rfl⟩
          go_wp2_with fail
          refine ⟨⟨k + 1, p + 1, by omega, (show Hid _ from (by have := HPK.out; omega : p + 1 = 1 + (k + 1))), by simp, false, rfl, ?_, trivial⟩, by simp [intOf] <;> omega⟩
          have h := HOB.out
          have hnv : nv s 1 0 (k + 1) = 10 * nv s 1 0 k + dgt s (1 + k) := rfl
          have h' : ¬ nv s 1 0 k = 0 := by simpa using h
          exact (by symm; simp; omega : false = decide (nv s 1 0 (k + 1) = 0))
        | true =>
          go_wp2_with fail
          refine (fig_yes _ _ hd1' hd2').mono ?_
          rintro e w1 ⟨rfl, rfl⟩
          go_wp2_with fail
          refine ⟨⟨k + 1, p + 1, by omega, (show Hid _ from (by have := HPK.out; omega : p + 1 = 1 + (k + 1))), by simp, _, rfl, ?_, trivial⟩, by simp [intOf] <;> omega⟩
          have h := HOB.out
          have g := HDG.out
          have hnv : nv s 1 0 (k + 1) = 10 * nv s 1 0 k + dgt s (1 + k) := rfl
          have h' : nv s 1 0 k = 0 := by simpa using h
          refine (show _ = decide (nv s 1 0 (k + 1) = 0) from ?_)
          rw [Bool.eq_iff_iff, beq_iff_eq, decide_eq_true_eq]
          omega
      · have q1 : ((p : Int) == 2) = false := by have := HPK.out; simp; omega
        clear hk1
        cases ob with
        | false =>
          go_wp2_with fail
          refine (fig_yes _ _ hd1' hd2').mono ?_
          rintro e w1 ⟨rfl, rfl⟩
          go_wp2_with fail
          refine ⟨⟨k + 1, p + 1, by omega, (show Hid _ from (by have := HPK.out; omega : p + 1 = 1 + (k + 1))), by simp, false, rfl, ?_, trivial⟩, by simp [intOf] <;> omega⟩
          have h := HOB.out
          have hnv : nv s 1 0 (k + 1) = 10 * nv s 1 0 k + dgt s (1 + k) := rfl
          have h' : ¬ nv s 1 0 k = 0 := by simpa using h
          exact (by symm; simp; omega : false = decide (nv s 1 0 (k + 1) = 0))
        | true =>
          go_wp2_with fail
          refine (fig_yes _ _ hd1' hd2').mono ?_
          rintro e w1 ⟨rfl, rfl⟩
          go_wp2_with fail
          refine ⟨⟨k + 1, p + 1, by omega, (show Hid _ from (by have := HPK.out; omega : p + 1 = 1 + (k + 1))), by simp, _, rfl, ?_, trivial⟩, by simp [intOf] <;> omega⟩
          have h := HOB.out
          have g := HDG.out
          have hnv : nv s 1 0 (k + 1) = 10 * nv s 1 0 k + dgt s (1 + k) := rfl
          have h' : nv s 1 0 k = 0 := by simpa using h
          refine (show _ = decide (nv s 1 0 (k + 1) = 0) from ?_)
          rw [Bool.eq_iff_iff, beq_iff_eq, decide_eq_true_eq]
          omega
set_option maxHeartbeats 4000000 in
set_option maxRecDepth 100000 in
theorem fC5_neg (s : ByteArray) (n : Nat) (w : World) (hb : bt s 0 = 45) (hs : s.size ≤ 64) (hr : Runs s 1 n) (h1 : 1 ≤ n) (hz : n = 1 ∨ bt s 1 ≠ 48) (m : Nat) (hd : bt s (1 + n) = 46) (hrm : Runs s (1 + n + 1) m) (hm : 19 ≤ m) :
    Calls Tryz.prog 47 #[.string s] w fun e w' => e = .returned (.int .i64 (((1 + n + 1 + 18 : Nat) : Int))) ∧ w' = w := by
  have h0 : 0 < s.size := by exact bt_lt.1 (by omega)
  have h0' : (0 : Int) < s.size := by omega
  have hle := hr.le (i := 1) (by omega)
  have HR := (show Hid _ from hr)
  have hx0 : (s[0].toNat : Int) = bt s 0 := by rw [bt_in h0]
  have hb0 : ((bt s 0 : Int) == 45) = true := by rw [hb]; rfl
  have hxi : ((s[1]'(by omega)).toNat : Int) = bt s 1 := by rw [bt_in (by omega)]
  have HZ := (show Hid _ from hz)
  clear hz
  have hj : 1 + n < s.size := bt_lt.1 (by omega)
  have hlm := hrm.le (by omega)
  have HD := (show Hid _ from hd)
  have HRm := (show Hid _ from hrm)
  clear hd hrm
  clear hr hb
  go_enter Tryz.func47, Tryz.ntmps47
  go_wp2_with fail
  go_loopw [3, 6] (fun a o wy => ∃ k p : Nat, k ≤ n ∧ Hid (p = 1 + k) ∧ a = .int .i64 (p : Int) ∧ ∃ ob : Bool, o = .bool ob ∧ Hid (ob = decide (nv s 1 0 k = 0)) ∧ wy = w) (fun a _ _ => s.size - (intOf a).toNat)
  case atStart => exact ⟨0, 1, by omega, rfl, rfl, true, rfl, rfl, rfl⟩
  case round =>
    obtain ⟨k, p, hk, HPK, rfl, ob, rfl, HOB, rfl⟩ := hrel
    by_cases hkn : k = n
    · subst hkn
      have qn : ((p : Int) == 1) = false := by have := HPK.out; simp; omega
      have hps : p < s.size := by have := HPK.out; omega
      have hx := ndg_at (show ¬ isDg s p by rw [HPK.out]; exact HR.out.x) hps
      have HX := (show Hid _ from hx)
      clear hx
      have q4 : ((s[p].toNat : Int) == 46) = true := by have h := HD.out; rw [← HPK.out, bt_in hps] at h; simp; omega
      go_wp2_with fail
      refine (fig_no _ _ HX.out).mono ?_
      rintro e w1 ⟨rfl, rfl⟩
      go_wp2_with fail
      obtain ⟨J, hJ⟩ : ∃ J, J = p + 1 := ⟨_, rfl⟩
      have eJ : (p : Int) + 1 = (J : Int) := by omega
      have HJ := (show Hid _ from hJ)
      have HR2 : Hid (Runs s J m) := (by rw [hJ, HPK.out]; exact HRm.out : Runs s J m)
      simp only [eJ]
      clear eJ hJ
      go_loopw [3, 6] (fun a o wy => ∃ k2 p2 : Nat, k2 ≤ 18 ∧ Hid (p2 = J + k2) ∧ a = .int .i64 (p2 : Int) ∧ ∃ oc : Bool, o = .bool oc ∧ Hid (oc = decide (nv s J (nv s 1 0 k) k2 = 0)) ∧ wy = w1) (fun a _ _ => s.size - (intOf a).toNat)
      case atStart => exact ⟨0, J, by omega, rfl, rfl, ob, rfl, HOB, rfl⟩
      case round =>
        obtain ⟨k2, p2, hk2, HPK2, rfl, oc, rfl, HOC, rfl⟩ := hrel
        by_cases hk1 : k2 = 18
        · obtain ⟨gps, gd1, gd2⟩ := dg_at (HR2.out.d k2 (by omega))
          rw [show J + k2 = p2 from HPK2.out.symm] at gps
          have gd1' : 48 ≤ (s[p2].toNat : Int) := by have := HPK2.out; subst this; exact gd1
          have gd2' : (s[p2].toNat : Int) ≤ 57 := by have := HPK2.out; subst this; exact gd2
          have gdg : dgt s (J + k2) = s[p2].toNat - 48 := by have := HPK2.out; subst this; unfold dgt; rw [dif_pos gps]
          have HDG2 := (show Hid _ from gdg)
          clear gd1 gd2 gdg
          have q3 : ((p2 : Int) == J + 18) = true := by have := HPK2.out; simp; omega
          have hp1 : p2 = J + 18 := by have := HPK2.out; omega
          have HP1 := (show Hid _ from hp1)
          clear hk1 hp1
          go_wp2_with fail
          refine (fig_yes _ _ gd1' gd2').mono ?_
          rintro e w1 ⟨rfl, rfl⟩
          go_wp2_with fail
          go_ret
          exact ⟨by show Ending.returned (.int .i64 (p2 : Int)) = _; rw [HP1.out, HJ.out, HPK.out], rfl⟩
        · have HK0 : Hid (k2 + 1 ≤ 18) := (by omega : k2 + 1 ≤ 18)
          obtain ⟨gps, gd1, gd2⟩ := dg_at (HR2.out.d k2 (by omega))
          rw [show J + k2 = p2 from HPK2.out.symm] at gps
          have gd1' : 48 ≤ (s[p2].toNat : Int) := by have := HPK2.out; subst this; exact gd1
          have gd2' : (s[p2].toNat : Int) ≤ 57 := by have := HPK2.out; subst this; exact gd2
          have gdg : dgt s (J + k2) = s[p2].toNat - 48 := by have := HPK2.out; subst this; unfold dgt; rw [dif_pos gps]
          have HDG2 := (show Hid _ from gdg)
          clear gd1 gd2 gdg
          have q3 : ((p2 : Int) == J + 18) = false := by have := HPK2.out; simp; omega
          clear hk1
          cases oc with
          | false =>
            go_wp2_with fail
            refine (fig_yes _ _ gd1' gd2').mono ?_
            rintro e w1 ⟨rfl, rfl⟩
            go_wp2_with fail
            refine ⟨⟨k2 + 1, p2 + 1, HK0.out, (show Hid _ from (by have := HPK2.out; omega : p2 + 1 = J + (k2 + 1))), by simp, false, rfl, ?_, trivial⟩, by simp [intOf] <;> omega⟩
            have h := HOC.out
            have hnv : nv s J (nv s 1 0 k) (k2 + 1) = 10 * nv s J (nv s 1 0 k) k2 + dgt s (J + k2) := rfl
            have h' : ¬ nv s J (nv s 1 0 k) k2 = 0 := by simpa using h
            exact (by symm; simp; omega : false = decide (nv s J (nv s 1 0 k) (k2 + 1) = 0))
          | true =>
            go_wp2_with fail
            refine (fig_yes _ _ gd1' gd2').mono ?_
            rintro e w1 ⟨rfl, rfl⟩
            go_wp2_with fail
            refine ⟨⟨k2 + 1, p2 + 1, HK0.out, (show Hid _ from (by have := HPK2.out; omega : p2 + 1 = J + (k2 + 1))), by simp, _, rfl, ?_, trivial⟩, by simp [intOf] <;> omega⟩
            have h := HOC.out
            have g := HDG2.out
            have hnv : nv s J (nv s 1 0 k) (k2 + 1) = 10 * nv s J (nv s 1 0 k) k2 + dgt s (J + k2) := rfl
            have h' : nv s J (nv s 1 0 k) k2 = 0 := by simpa using h
            refine (show _ = decide (nv s J (nv s 1 0 k) (k2 + 1) = 0) from ?_)
            rw [Bool.eq_iff_iff, beq_iff_eq, decide_eq_true_eq]
            omega
    · have hlt : k < n := by omega
      clear hkn
      obtain ⟨hps, hd1, hd2⟩ := dg_at (HR.out.d k hlt)
      rw [show 1 + k = p from HPK.out.symm] at hps
      have hd1' : 48 ≤ (s[p].toNat : Int) := by have := HPK.out; subst this; exact hd1
      have hd2' : (s[p].toNat : Int) ≤ 57 := by have := HPK.out; subst this; exact hd2
      have hdg : dgt s (1 + k) = s[p].toNat - 48 := by have := HPK.out; subst this; unfold dgt; rw [dif_pos hps]
      have HDG := (show Hid _ from hdg)
      clear hd1 hd2 hdg
      by_cases hk1 : k = 1
      · have q1 : ((p : Int) == 2) = true := by have := HPK.out; simp; omega
        have q2 : ((bt s 1 : Int) == 48) = false := by have := HZ.out; simp; omega
        clear hk1
        cases ob with
        | false =>
          go_wp2_with fail
          refine (fig_yes _ _ hd1' hd2').mono ?_
          rintro e w1 ⟨rfl, rfl⟩
          go_wp2_with fail
          refine ⟨⟨k + 1, p + 1, by omega, (show Hid _ from (by have := HPK.out; omega : p + 1 = 1 + (k + 1))), by simp, false, rfl, ?_, trivial⟩, by simp [intOf] <;> omega⟩
          have h := HOB.out
          have hnv : nv s 1 0 (k + 1) = 10 * nv s 1 0 k + dgt s (1 + k) := rfl
          have h' : ¬ nv s 1 0 k = 0 := by simpa using h
          exact (by symm; simp; omega : false = decide (nv s 1 0 (k + 1) = 0))
        | true =>
          go_wp2_with fail
          refine (fig_yes _ _ hd1' hd2').mono ?_
          rintro e w1 ⟨rfl, rfl⟩
          go_wp2_with fail
          refine ⟨⟨k + 1, p + 1, by omega, (show Hid _ from (by have := HPK.out; omega : p + 1 = 1 + (k + 1))), by simp, _, rfl, ?_, trivial⟩, by simp [intOf] <;> omega⟩
          have h := HOB.out
          have g := HDG.out
          have hnv : nv s 1 0 (k + 1) = 10 * nv s 1 0 k + dgt s (1 + k) := rfl
          have h' : nv s 1 0 k = 0 := by simpa using h
          refine (show _ = decide (nv s 1 0 (k + 1) = 0) from ?_)
          rw [Bool.eq_iff_iff, beq_iff_eq, decide_eq_true_eq]
          omega
      · have q1 : ((p : Int) == 2) = false := by have := HPK.out; simp; omega
        clear hk1
        cases ob with
        | false =>
          go_wp2_with fail
          refine (fig_yes _ _ hd1' hd2').mono ?_
          rintro e w1 ⟨rfl, rfl⟩
          go_wp2_with fail
          refine ⟨⟨k + 1, p + 1, by omega, (show Hid _ from (by have := HPK.out; omega : p + 1 = 1 + (k + 1))), by simp, false, rfl, ?_, trivial⟩, by simp [intOf] <;> omega⟩
          have h := HOB.out
          have hnv : nv s 1 0 (k + 1) = 10 * nv s 1 0 k + dgt s (1 + k) := rfl
          have h' : ¬ nv s 1 0 k = 0 := by simpa using h
          exact (by symm; simp; omega : false = decide (nv s 1 0 (k + 1) = 0))
        | true =>
          go_wp2_with fail
          refine (fig_yes _ _ hd1' hd2').mono ?_
          rintro e w1 ⟨rfl, rfl⟩
          go_wp2_with fail
          refine ⟨⟨k + 1, p + 1, by omega, (show Hid _ from (by have := HPK.out; omega : p + 1 = 1 + (k + 1))), by simp, _, rfl, ?_, trivial⟩, by simp [intOf] <;> omega⟩
          have h := HOB.out
          have g := HDG.out
          have hnv : nv s 1 0 (k + 1) = 10 * nv s 1 0 k + dgt s (1 + k) := rfl
          have h' : nv s 1 0 k = 0 := by simpa using h
          refine (show _ = decide (nv s 1 0 (k + 1) = 0) from ?_)
          rw [Bool.eq_iff_iff, beq_iff_eq, decide_eq_true_eq]
          omega
set_option maxHeartbeats 4000000 in
set_option maxRecDepth 100000 in
theorem fC6lt_neg (s : ByteArray) (n : Nat) (w : World) (hb : bt s 0 = 45) (hs : s.size ≤ 64) (hr : Runs s 1 n) (h1 : 1 ≤ n) (hz : n = 1 ∨ bt s 1 ≠ 48) (m : Nat) (hd : bt s (1 + n) = 46) (hrm : Runs s (1 + n + 1) m) (hm : 1 ≤ m) (hm18 : m ≤ 18) (hf : 1 + n + 1 + m < s.size) :
    Calls Tryz.prog 47 #[.string s] w fun e w' => e = .returned (.int .i64 (((1 + n + 1 + m : Nat) : Int))) ∧ w' = w := by
  have h0 : 0 < s.size := by exact bt_lt.1 (by omega)
  have h0' : (0 : Int) < s.size := by omega
  have hle := hr.le (i := 1) (by omega)
  have HR := (show Hid _ from hr)
  have hx0 : (s[0].toNat : Int) = bt s 0 := by rw [bt_in h0]
  have hb0 : ((bt s 0 : Int) == 45) = true := by rw [hb]; rfl
  have hxi : ((s[1]'(by omega)).toNat : Int) = bt s 1 := by rw [bt_in (by omega)]
  have HZ := (show Hid _ from hz)
  clear hz
  have hj : 1 + n < s.size := bt_lt.1 (by omega)
  have hlm := hrm.le (by omega)
  have HD := (show Hid _ from hd)
  have HRm := (show Hid _ from hrm)
  clear hd hrm
  clear hr hb
  go_enter Tryz.func47, Tryz.ntmps47
  go_wp2_with fail
  go_loopw [3, 6] (fun a o wy => ∃ k p : Nat, k ≤ n ∧ Hid (p = 1 + k) ∧ a = .int .i64 (p : Int) ∧ ∃ ob : Bool, o = .bool ob ∧ Hid (ob = decide (nv s 1 0 k = 0)) ∧ wy = w) (fun a _ _ => s.size - (intOf a).toNat)
  case atStart => exact ⟨0, 1, by omega, rfl, rfl, true, rfl, rfl, rfl⟩
  case round =>
    obtain ⟨k, p, hk, HPK, rfl, ob, rfl, HOB, rfl⟩ := hrel
    by_cases hkn : k = n
    · subst hkn
      have qn : ((p : Int) == 1) = false := by have := HPK.out; simp; omega
      have hps : p < s.size := by have := HPK.out; omega
      have hx := ndg_at (show ¬ isDg s p by rw [HPK.out]; exact HR.out.x) hps
      have HX := (show Hid _ from hx)
      clear hx
      have q4 : ((s[p].toNat : Int) == 46) = true := by have h := HD.out; rw [← HPK.out, bt_in hps] at h; simp; omega
      go_wp2_with fail
      refine (fig_no _ _ HX.out).mono ?_
      rintro e w1 ⟨rfl, rfl⟩
      go_wp2_with fail
      obtain ⟨J, hJ⟩ : ∃ J, J = p + 1 := ⟨_, rfl⟩
      have eJ : (p : Int) + 1 = (J : Int) := by omega
      have HJ := (show Hid _ from hJ)
      have HR2 : Hid (Runs s J m) := (by rw [hJ, HPK.out]; exact HRm.out : Runs s J m)
      simp only [eJ]
      clear eJ hJ
      go_loopw [3, 6] (fun a o wy => ∃ k2 p2 : Nat, k2 ≤ m ∧ Hid (p2 = J + k2) ∧ a = .int .i64 (p2 : Int) ∧ ∃ oc : Bool, o = .bool oc ∧ Hid (oc = decide (nv s J (nv s 1 0 k) k2 = 0)) ∧ wy = w1) (fun a _ _ => s.size - (intOf a).toNat)
      case atStart => exact ⟨0, J, by omega, rfl, rfl, ob, rfl, HOB, rfl⟩
      case round =>
        obtain ⟨k2, p2, hk2, HPK2, rfl, oc, rfl, HOC, rfl⟩ := hrel
        by_cases hkm : k2 = m
        · subst hkm
          have qe : ((p2 : Int) == J) = false := by have := HPK2.out; simp; omega
          have gps : p2 < s.size := by have := HPK2.out; have := HJ.out; have := HPK.out; omega
          have hx2 := ndg_at (show ¬ isDg s p2 by rw [HPK2.out]; exact HR2.out.x) gps
          have HX2 := (show Hid _ from hx2)
          clear hx2
          go_wp2_with fail
          refine (fig_no _ _ HX2.out).mono ?_
          rintro e w1 ⟨rfl, rfl⟩
          go_wp2_with fail
          go_ret
          exact ⟨by show Ending.returned (.int .i64 (p2 : Int)) = _; rw [HPK2.out, HJ.out, HPK.out], rfl⟩
        · have hlt2 : k2 < m := by omega
          clear hkm
          obtain ⟨gps, gd1, gd2⟩ := dg_at (HR2.out.d k2 hlt2)
          rw [show J + k2 = p2 from HPK2.out.symm] at gps
          have gd1' : 48 ≤ (s[p2].toNat : Int) := by have := HPK2.out; subst this; exact gd1
          have gd2' : (s[p2].toNat : Int) ≤ 57 := by have := HPK2.out; subst this; exact gd2
          have gdg : dgt s (J + k2) = s[p2].toNat - 48 := by have := HPK2.out; subst this; unfold dgt; rw [dif_pos gps]
          have HDG2 := (show Hid _ from gdg)
          clear gd1 gd2 gdg
          have q3 : ((p2 : Int) == J + 18) = false := by have := HPK2.out; simp; omega
          cases oc with
          | false =>
            go_wp2_with fail
            refine (fig_yes _ _ gd1' gd2').mono ?_
            rintro e w1 ⟨rfl, rfl⟩
            go_wp2_with fail
            refine ⟨⟨k2 + 1, p2 + 1, by omega, (show Hid _ from (by have := HPK2.out; omega : p2 + 1 = J + (k2 + 1))), by simp, false, rfl, ?_, trivial⟩, by simp [intOf] <;> omega⟩
            have h := HOC.out
            have hnv : nv s J (nv s 1 0 k) (k2 + 1) = 10 * nv s J (nv s 1 0 k) k2 + dgt s (J + k2) := rfl
            have h' : ¬ nv s J (nv s 1 0 k) k2 = 0 := by simpa using h
            exact (by symm; simp; omega : false = decide (nv s J (nv s 1 0 k) (k2 + 1) = 0))
          | true =>
            go_wp2_with fail
            refine (fig_yes _ _ gd1' gd2').mono ?_
            rintro e w1 ⟨rfl, rfl⟩
            go_wp2_with fail
            refine ⟨⟨k2 + 1, p2 + 1, by omega, (show Hid _ from (by have := HPK2.out; omega : p2 + 1 = J + (k2 + 1))), by simp, _, rfl, ?_, trivial⟩, by simp [intOf] <;> omega⟩
            have h := HOC.out
            have g := HDG2.out
            have hnv : nv s J (nv s 1 0 k) (k2 + 1) = 10 * nv s J (nv s 1 0 k) k2 + dgt s (J + k2) := rfl
            have h' : nv s J (nv s 1 0 k) k2 = 0 := by simpa using h
            refine (show _ = decide (nv s J (nv s 1 0 k) (k2 + 1) = 0) from ?_)
            rw [Bool.eq_iff_iff, beq_iff_eq, decide_eq_true_eq]
            omega
    · have hlt : k < n := by omega
      clear hkn
      obtain ⟨hps, hd1, hd2⟩ := dg_at (HR.out.d k hlt)
      rw [show 1 + k = p from HPK.out.symm] at hps
      have hd1' : 48 ≤ (s[p].toNat : Int) := by have := HPK.out; subst this; exact hd1
      have hd2' : (s[p].toNat : Int) ≤ 57 := by have := HPK.out; subst this; exact hd2
      have hdg : dgt s (1 + k) = s[p].toNat - 48 := by have := HPK.out; subst this; unfold dgt; rw [dif_pos hps]
      have HDG := (show Hid _ from hdg)
      clear hd1 hd2 hdg
      by_cases hk1 : k = 1
      · have q1 : ((p : Int) == 2) = true := by have := HPK.out; simp; omega
        have q2 : ((bt s 1 : Int) == 48) = false := by have := HZ.out; simp; omega
        clear hk1
        cases ob with
        | false =>
          go_wp2_with fail
          refine (fig_yes _ _ hd1' hd2').mono ?_
          rintro e w1 ⟨rfl, rfl⟩
          go_wp2_with fail
          refine ⟨⟨k + 1, p + 1, by omega, (show Hid _ from (by have := HPK.out; omega : p + 1 = 1 + (k + 1))), by simp, false, rfl, ?_, trivial⟩, by simp [intOf] <;> omega⟩
          have h := HOB.out
          have hnv : nv s 1 0 (k + 1) = 10 * nv s 1 0 k + dgt s (1 + k) := rfl
          have h' : ¬ nv s 1 0 k = 0 := by simpa using h
          exact (by symm; simp; omega : false = decide (nv s 1 0 (k + 1) = 0))
        | true =>
          go_wp2_with fail
          refine (fig_yes _ _ hd1' hd2').mono ?_
          rintro e w1 ⟨rfl, rfl⟩
          go_wp2_with fail
          refine ⟨⟨k + 1, p + 1, by omega, (show Hid _ from (by have := HPK.out; omega : p + 1 = 1 + (k + 1))), by simp, _, rfl, ?_, trivial⟩, by simp [intOf] <;> omega⟩
          have h := HOB.out
          have g := HDG.out
          have hnv : nv s 1 0 (k + 1) = 10 * nv s 1 0 k + dgt s (1 + k) := rfl
          have h' : nv s 1 0 k = 0 := by simpa using h
          refine (show _ = decide (nv s 1 0 (k + 1) = 0) from ?_)
          rw [Bool.eq_iff_iff, beq_iff_eq, decide_eq_true_eq]
          omega
      · have q1 : ((p : Int) == 2) = false := by have := HPK.out; simp; omega
        clear hk1
        cases ob with
        | false =>
          go_wp2_with fail
          refine (fig_yes _ _ hd1' hd2').mono ?_
          rintro e w1 ⟨rfl, rfl⟩
          go_wp2_with fail
          refine ⟨⟨k + 1, p + 1, by omega, (show Hid _ from (by have := HPK.out; omega : p + 1 = 1 + (k + 1))), by simp, false, rfl, ?_, trivial⟩, by simp [intOf] <;> omega⟩
          have h := HOB.out
          have hnv : nv s 1 0 (k + 1) = 10 * nv s 1 0 k + dgt s (1 + k) := rfl
          have h' : ¬ nv s 1 0 k = 0 := by simpa using h
          exact (by symm; simp; omega : false = decide (nv s 1 0 (k + 1) = 0))
        | true =>
          go_wp2_with fail
          refine (fig_yes _ _ hd1' hd2').mono ?_
          rintro e w1 ⟨rfl, rfl⟩
          go_wp2_with fail
          refine ⟨⟨k + 1, p + 1, by omega, (show Hid _ from (by have := HPK.out; omega : p + 1 = 1 + (k + 1))), by simp, _, rfl, ?_, trivial⟩, by simp [intOf] <;> omega⟩
          have h := HOB.out
          have g := HDG.out
          have hnv : nv s 1 0 (k + 1) = 10 * nv s 1 0 k + dgt s (1 + k) := rfl
          have h' : nv s 1 0 k = 0 := by simpa using h
          refine (show _ = decide (nv s 1 0 (k + 1) = 0) from ?_)
          rw [Bool.eq_iff_iff, beq_iff_eq, decide_eq_true_eq]
          omega
set_option maxHeartbeats 4000000 in
set_option maxRecDepth 100000 in
theorem fC6eq_neg (s : ByteArray) (n : Nat) (w : World) (hb : bt s 0 = 45) (hs : s.size ≤ 64) (hr : Runs s 1 n) (h1 : 1 ≤ n) (hz : n = 1 ∨ bt s 1 ≠ 48) (m : Nat) (hd : bt s (1 + n) = 46) (hrm : Runs s (1 + n + 1) m) (hm : 1 ≤ m) (hm18 : m ≤ 18) (hf : 1 + n + 1 + m = s.size) (A : Int) (hA : A = if nv s (1 + n + 1) (nv s 1 0 n) m = 0 then 0 else -1) :
    Calls Tryz.prog 47 #[.string s] w fun e w' => e = .returned (.int .i64 (A)) ∧ w' = w := by
  have h0 : 0 < s.size := by exact bt_lt.1 (by omega)
  have h0' : (0 : Int) < s.size := by omega
  have hle := hr.le (i := 1) (by omega)
  have HR := (show Hid _ from hr)
  have hx0 : (s[0].toNat : Int) = bt s 0 := by rw [bt_in h0]
  have hb0 : ((bt s 0 : Int) == 45) = true := by rw [hb]; rfl
  have hxi : ((s[1]'(by omega)).toNat : Int) = bt s 1 := by rw [bt_in (by omega)]
  have HZ := (show Hid _ from hz)
  clear hz
  have hj : 1 + n < s.size := bt_lt.1 (by omega)
  have hlm := hrm.le (by omega)
  have HD := (show Hid _ from hd)
  have HRm := (show Hid _ from hrm)
  clear hd hrm
  have HA := (show Hid _ from hA)
  clear hA
  clear hr hb
  go_enter Tryz.func47, Tryz.ntmps47
  go_wp2_with fail
  go_loopw [3, 6] (fun a o wy => ∃ k p : Nat, k ≤ n ∧ Hid (p = 1 + k) ∧ a = .int .i64 (p : Int) ∧ ∃ ob : Bool, o = .bool ob ∧ Hid (ob = decide (nv s 1 0 k = 0)) ∧ wy = w) (fun a _ _ => s.size - (intOf a).toNat)
  case atStart => exact ⟨0, 1, by omega, rfl, rfl, true, rfl, rfl, rfl⟩
  case round =>
    obtain ⟨k, p, hk, HPK, rfl, ob, rfl, HOB, rfl⟩ := hrel
    by_cases hkn : k = n
    · subst hkn
      have qn : ((p : Int) == 1) = false := by have := HPK.out; simp; omega
      have hps : p < s.size := by have := HPK.out; omega
      have hx := ndg_at (show ¬ isDg s p by rw [HPK.out]; exact HR.out.x) hps
      have HX := (show Hid _ from hx)
      clear hx
      have q4 : ((s[p].toNat : Int) == 46) = true := by have h := HD.out; rw [← HPK.out, bt_in hps] at h; simp; omega
      go_wp2_with fail
      refine (fig_no _ _ HX.out).mono ?_
      rintro e w1 ⟨rfl, rfl⟩
      go_wp2_with fail
      obtain ⟨J, hJ⟩ : ∃ J, J = p + 1 := ⟨_, rfl⟩
      have eJ : (p : Int) + 1 = (J : Int) := by omega
      have HJ := (show Hid _ from hJ)
      have HR2 : Hid (Runs s J m) := (by rw [hJ, HPK.out]; exact HRm.out : Runs s J m)
      simp only [eJ]
      clear eJ hJ
      go_loopw [3, 6] (fun a o wy => ∃ k2 p2 : Nat, k2 ≤ m ∧ Hid (p2 = J + k2) ∧ a = .int .i64 (p2 : Int) ∧ ∃ oc : Bool, o = .bool oc ∧ Hid (oc = decide (nv s J (nv s 1 0 k) k2 = 0)) ∧ wy = w1) (fun a _ _ => s.size - (intOf a).toNat)
      case atStart => exact ⟨0, J, by omega, rfl, rfl, ob, rfl, HOB, rfl⟩
      case round =>
        obtain ⟨k2, p2, hk2, HPK2, rfl, oc, rfl, HOC, rfl⟩ := hrel
        by_cases hkm : k2 = m
        · subst hkm
          have qe : ((p2 : Int) == J) = false := by have := HPK2.out; simp; omega
          have gpe : ¬ (p2 : Int) < s.size := by have := HPK2.out; have := HJ.out; have := HPK.out; omega
          cases oc with
          | false =>
            go_wp2_with fail
            go_ret
            refine ⟨?_, rfl⟩
            have h := HOC.out
            have h' : ¬ nv s J (nv s 1 0 k) k2 = 0 := by simpa using h
            rw [HA.out, show 1 + k + 1 = J from by have := HPK.out; have := HJ.out; omega, if_neg h']
            rfl
          | true =>
            go_wp2_with fail
            go_ret
            refine ⟨?_, rfl⟩
            have h := HOC.out
            have h' : nv s J (nv s 1 0 k) k2 = 0 := by simpa using h
            rw [HA.out, show 1 + k + 1 = J from by have := HPK.out; have := HJ.out; omega, if_pos h']
            rfl
        · have hlt2 : k2 < m := by omega
          clear hkm
          obtain ⟨gps, gd1, gd2⟩ := dg_at (HR2.out.d k2 hlt2)
          rw [show J + k2 = p2 from HPK2.out.symm] at gps
          have gd1' : 48 ≤ (s[p2].toNat : Int) := by have := HPK2.out; subst this; exact gd1
          have gd2' : (s[p2].toNat : Int) ≤ 57 := by have := HPK2.out; subst this; exact gd2
          have gdg : dgt s (J + k2) = s[p2].toNat - 48 := by have := HPK2.out; subst this; unfold dgt; rw [dif_pos gps]
          have HDG2 := (show Hid _ from gdg)
          clear gd1 gd2 gdg
          have q3 : ((p2 : Int) == J + 18) = false := by have := HPK2.out; simp; omega
          cases oc with
          | false =>
            go_wp2_with fail
            refine (fig_yes _ _ gd1' gd2').mono ?_
            rintro e w1 ⟨rfl, rfl⟩
            go_wp2_with fail
            refine ⟨⟨k2 + 1, p2 + 1, by omega, (show Hid _ from (by have := HPK2.out; omega : p2 + 1 = J + (k2 + 1))), by simp, false, rfl, ?_, trivial⟩, by simp [intOf] <;> omega⟩
            have h := HOC.out
            have hnv : nv s J (nv s 1 0 k) (k2 + 1) = 10 * nv s J (nv s 1 0 k) k2 + dgt s (J + k2) := rfl
            have h' : ¬ nv s J (nv s 1 0 k) k2 = 0 := by simpa using h
            exact (by symm; simp; omega : false = decide (nv s J (nv s 1 0 k) (k2 + 1) = 0))
          | true =>
            go_wp2_with fail
            refine (fig_yes _ _ gd1' gd2').mono ?_
            rintro e w1 ⟨rfl, rfl⟩
            go_wp2_with fail
            refine ⟨⟨k2 + 1, p2 + 1, by omega, (show Hid _ from (by have := HPK2.out; omega : p2 + 1 = J + (k2 + 1))), by simp, _, rfl, ?_, trivial⟩, by simp [intOf] <;> omega⟩
            have h := HOC.out
            have g := HDG2.out
            have hnv : nv s J (nv s 1 0 k) (k2 + 1) = 10 * nv s J (nv s 1 0 k) k2 + dgt s (J + k2) := rfl
            have h' : nv s J (nv s 1 0 k) k2 = 0 := by simpa using h
            refine (show _ = decide (nv s J (nv s 1 0 k) (k2 + 1) = 0) from ?_)
            rw [Bool.eq_iff_iff, beq_iff_eq, decide_eq_true_eq]
            omega
    · have hlt : k < n := by omega
      clear hkn
      obtain ⟨hps, hd1, hd2⟩ := dg_at (HR.out.d k hlt)
      rw [show 1 + k = p from HPK.out.symm] at hps
      have hd1' : 48 ≤ (s[p].toNat : Int) := by have := HPK.out; subst this; exact hd1
      have hd2' : (s[p].toNat : Int) ≤ 57 := by have := HPK.out; subst this; exact hd2
      have hdg : dgt s (1 + k) = s[p].toNat - 48 := by have := HPK.out; subst this; unfold dgt; rw [dif_pos hps]
      have HDG := (show Hid _ from hdg)
      clear hd1 hd2 hdg
      by_cases hk1 : k = 1
      · have q1 : ((p : Int) == 2) = true := by have := HPK.out; simp; omega
        have q2 : ((bt s 1 : Int) == 48) = false := by have := HZ.out; simp; omega
        clear hk1
        cases ob with
        | false =>
          go_wp2_with fail
          refine (fig_yes _ _ hd1' hd2').mono ?_
          rintro e w1 ⟨rfl, rfl⟩
          go_wp2_with fail
          refine ⟨⟨k + 1, p + 1, by omega, (show Hid _ from (by have := HPK.out; omega : p + 1 = 1 + (k + 1))), by simp, false, rfl, ?_, trivial⟩, by simp [intOf] <;> omega⟩
          have h := HOB.out
          have hnv : nv s 1 0 (k + 1) = 10 * nv s 1 0 k + dgt s (1 + k) := rfl
          have h' : ¬ nv s 1 0 k = 0 := by simpa using h
          exact (by symm; simp; omega : false = decide (nv s 1 0 (k + 1) = 0))
        | true =>
          go_wp2_with fail
          refine (fig_yes _ _ hd1' hd2').mono ?_
          rintro e w1 ⟨rfl, rfl⟩
          go_wp2_with fail
          refine ⟨⟨k + 1, p + 1, by omega, (show Hid _ from (by have := HPK.out; omega : p + 1 = 1 + (k + 1))), by simp, _, rfl, ?_, trivial⟩, by simp [intOf] <;> omega⟩
          have h := HOB.out
          have g := HDG.out
          have hnv : nv s 1 0 (k + 1) = 10 * nv s 1 0 k + dgt s (1 + k) := rfl
          have h' : nv s 1 0 k = 0 := by simpa using h
          refine (show _ = decide (nv s 1 0 (k + 1) = 0) from ?_)
          rw [Bool.eq_iff_iff, beq_iff_eq, decide_eq_true_eq]
          omega
      · have q1 : ((p : Int) == 2) = false := by have := HPK.out; simp; omega
        clear hk1
        cases ob with
        | false =>
          go_wp2_with fail
          refine (fig_yes _ _ hd1' hd2').mono ?_
          rintro e w1 ⟨rfl, rfl⟩
          go_wp2_with fail
          refine ⟨⟨k + 1, p + 1, by omega, (show Hid _ from (by have := HPK.out; omega : p + 1 = 1 + (k + 1))), by simp, false, rfl, ?_, trivial⟩, by simp [intOf] <;> omega⟩
          have h := HOB.out
          have hnv : nv s 1 0 (k + 1) = 10 * nv s 1 0 k + dgt s (1 + k) := rfl
          have h' : ¬ nv s 1 0 k = 0 := by simpa using h
          exact (by symm; simp; omega : false = decide (nv s 1 0 (k + 1) = 0))
        | true =>
          go_wp2_with fail
          refine (fig_yes _ _ hd1' hd2').mono ?_
          rintro e w1 ⟨rfl, rfl⟩
          go_wp2_with fail
          refine ⟨⟨k + 1, p + 1, by omega, (show Hid _ from (by have := HPK.out; omega : p + 1 = 1 + (k + 1))), by simp, _, rfl, ?_, trivial⟩, by simp [intOf] <;> omega⟩
          have h := HOB.out
          have g := HDG.out
          have hnv : nv s 1 0 (k + 1) = 10 * nv s 1 0 k + dgt s (1 + k) := rfl
          have h' : nv s 1 0 k = 0 := by simpa using h
          refine (show _ = decide (nv s 1 0 (k + 1) = 0) from ?_)
          rw [Bool.eq_iff_iff, beq_iff_eq, decide_eq_true_eq]
          omega
end Go.Proofs.YteohncnjjgoemaaGreatDoor.dg
