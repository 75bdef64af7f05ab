/- The document's whole numbers: the contracts of Small, DocOf, DocInt. -/
import Derived.Test.YteohncnjjgoemaaGreatDoorM2
import Derived.Test.YteohncnjjgoemaaGreatDoorVc
namespace Go.Proofs.YteohncnjjgoemaaGreatDoor
open Go.RowKit
set_option linter.unusedVariables false
attribute [local go_sem ↓] Go.wp_at_zero Go.wp_at_succ

theorem cut0_size (c : Int) (s : Nat) : (cut0 c s).natAbs = c.natAbs / 10 ^ s := by
  unfold cut0 sv
  generalize c.natAbs / 10 ^ s = k
  split <;> omega
theorem cut0_pos {c : Int} {s : Nat} (h : 0 < cut0 c s) : 0 < c := by
  have hd := cut0_size c s
  rcases (show c = 0 ∨ c < 0 ∨ 0 < c by omega) with rfl | h1 | h1
  · simp at hd; omega
  · unfold cut0 sv at h; rw [decide_eq_true h1] at h; generalize c.natAbs / 10 ^ s = k at h; simp at h; omega
  · exact h1
theorem cut0_neg {c : Int} {s : Nat} (h : cut0 c s < 0) : c < 0 := by
  rcases Int.lt_or_le c 0 with h1 | h1
  · exact h1
  · unfold cut0 sv at h; rw [decide_eq_false (by omega)] at h; generalize c.natAbs / 10 ^ s = k at h; simp at h; omega
theorem cut0_tv (c : Int) (s : Nat) : tv (cut0 c s) 0 (-c) s = 0 ↔ c.natAbs % 10 ^ s = 0 := by
  unfold tv
  rw [show max 0 s - 0 = s by omega, show max 0 s - s = 0 by omega, Int.pow_zero, Int.mul_one]
  have e := Nat.div_add_mod c.natAbs (10 ^ s)
  have e2 : ((10 ^ s : Nat) : Int) = (10 : Int) ^ s := by rw [Int.natCast_pow]; rfl
  have e3 : (c.natAbs : Int) = (10 : Int) ^ s * ((c.natAbs / 10 ^ s : Nat) : Int) + ((c.natAbs % 10 ^ s : Nat) : Int) := by rw [← e2, ← Int.natCast_mul, ← Int.natCast_add, e]
  unfold cut0 sv
  generalize c.natAbs / 10 ^ s = k at *
  generalize c.natAbs % 10 ^ s = r at *
  rcases Int.lt_or_le c 0 with h1 | h1
  · rw [decide_eq_true h1]
    simp only [if_true, Int.neg_mul]
    rw [Int.mul_comm (k : Int)]
    omega
  · rw [decide_eq_false (by omega)]
    simp only [Bool.false_eq_true, if_false]
    rw [Int.mul_comm (k : Int)]
    omega
set_option maxHeartbeats 1000000 in
set_option maxRecDepth 100000 in
theorem small_yes (v : Value) (z : Int) (w : World) (h : In w v z) (h1 : -9223372036854775808 ≤ z) (h2 : z ≤ 9223372036854775807) :
    Calls Tryz.prog 54 #[v] w fun e w' => e = .returned (.tuple #[.int .i64 z, .bool true]) ∧ Below w.heap.size w w' := by
  obtain ⟨m, a, n, k, rfl, hn, ha, hb⟩ := h.form
  have hx : z.natAbs ≤ 9223372036854775808 := by omega
  have hw : wrap64 (z.natAbs : Int) = if z.natAbs = 9223372036854775808 then -9223372036854775808 else (z.natAbs : Int) := by unfold wrap64; split <;> omega
  have HN := (show Hid _ from hn)
  have ha' : ¬ (m = false ∧ z < 0) := fun ⟨e, hz⟩ => by have := hb hz; rw [e] at this; cases this
  have hb' : ¬ (m = true ∧ 0 < z) := fun ⟨e, hz⟩ => by have := ha hz; rw [e] at this; cases this
  clear hn ha hb h
  cases m
  · have hz : 0 ≤ z := by
      rcases Int.lt_or_le z 0 with h | h
      · exact absurd ⟨rfl, h⟩ ha'
      · exact h
    obtain ⟨x, rfl⟩ := Int.eq_ofNat_of_zero_le hz
    rw [Int.natAbs_natCast] at *
    clear ha' hb' hw hz
    go_enter Tryz.func54, Tryz.ntmps54
    go_wp2_with fail
    refine (fits_yes _ x _ (HN.out.alloc _) (by omega)).mono ?_
    rintro e w1 ⟨rfl, rfl⟩
    go_wp2_with fail
    refine bodyPost_ret (v := .tuple #[.int .i64 (x : Int), .bool true]) (by simp [results, Tryz.results54, go_sem]) rfl ⟨rfl, bel_al (Below.refl _ _) _⟩
  · have hz : z ≤ 0 := by
      rcases Int.lt_or_le 0 z with h | h
      · exact absurd ⟨rfl, h⟩ hb'
      · exact h
    obtain ⟨x, hx'⟩ : ∃ x : Nat, z = -(x : Int) := ⟨z.natAbs, by omega⟩
    subst hx'
    rw [Int.natAbs_neg, Int.natAbs_natCast] at *
    have hneg : wrap64 (-(wrap64 (x : Int))) = -(x : Int) := by unfold wrap64; omega
    clear ha' hb' hw hz
    go_enter Tryz.func54, Tryz.ntmps54
    go_wp2_with fail
    refine (fits_yes _ x _ (HN.out.alloc _) (by omega)).mono ?_
    rintro e w1 ⟨rfl, rfl⟩
    have HG := (show Hid _ from hneg)
    clear hneg
    by_cases hx63 : x = 9223372036854775808
    · have t1 : ((x : Int) == 9223372036854775808) = true := by rw [beq_iff_eq]; omega
      have hg : wrap64 (-wrap64 9223372036854775808) = -9223372036854775808 := by unfold wrap64; omega
      have HH := (show Hid _ from hg)
      have H63 := (show Hid _ from hx63)
      clear hg
      go_wp2_with fail
      refine bodyPost_ret (v := .tuple #[.int .i64 (wrap64 (-wrap64 9223372036854775808)), .bool true]) (by simp [results, Tryz.results54, go_sem]) rfl ⟨?_, bel_al (Below.refl _ _) _⟩
      rw [HH.out, H63.out]
      rfl
    · have t1 : ((x : Int) == 9223372036854775808) = false := by rw [beq_eq_false_iff_ne]; omega
      go_wp2_with fail
      refine bodyPost_ret (v := .tuple #[.int .i64 (-(x : Int)), .bool true]) (by simp [results, Tryz.results54, go_sem]) rfl ⟨rfl, bel_al (Below.refl _ _) _⟩
set_option maxHeartbeats 1000000 in
set_option maxRecDepth 100000 in
theorem small_no (v : Value) (z : Int) (w : World) (h : In w v z) (h1 : ¬ (-9223372036854775808 ≤ z ∧ z ≤ 9223372036854775807)) :
    Calls Tryz.prog 54 #[v] w fun e w' => e = .returned (.tuple #[.int .i64 0, .bool false]) ∧ Below w.heap.size w w' := by
  obtain ⟨m, a, n, k, rfl, hn, ha, hb⟩ := h.form
  have HN := (show Hid _ from hn)
  have h63 : 9223372036854775808 ≤ z.natAbs := by omega
  have hm : z.natAbs = 9223372036854775808 → m = false := fun e => ha (by omega)
  clear hn ha hb h
  generalize z.natAbs = x at *
  clear h1
  by_cases h64 : 18446744073709551616 ≤ x
  · have HX := (show Hid _ from h64)
    clear h64 hm h63
    go_enter Tryz.func54, Tryz.ntmps54
    go_wp2_with fail
    refine (fits_no _ x _ (HN.out.alloc _) HX.out).mono ?_
    rintro e w1 ⟨rfl, rfl⟩
    go_wp2_with fail
    refine bodyPost_ret (v := .tuple #[.int .i64 0, .bool false]) (by simp [results, Tryz.results54, go_sem]) rfl ⟨rfl, bel_al (Below.refl _ _) _⟩
  · by_cases hx63 : x = 9223372036854775808
    · have hm' := hm hx63
      subst hm'
      have t0 : decide (9223372036854775808 < (x : Int)) = false := decide_eq_false (by omega)
      have t1 : ((x : Int) == 9223372036854775808) = true := by rw [beq_iff_eq]; omega
      clear hm
      go_enter Tryz.func54, Tryz.ntmps54
      go_wp2_with fail
      refine (fits_yes _ x _ (HN.out.alloc _) (by omega)).mono ?_
      rintro e w1 ⟨rfl, rfl⟩
      go_wp2_with fail
      refine bodyPost_ret (v := .tuple #[.int .i64 0, .bool false]) (by simp [results, Tryz.results54, go_sem]) rfl ⟨rfl, bel_al (Below.refl _ _) _⟩
    · have t0 : decide (9223372036854775808 < (x : Int)) = true := decide_eq_true (by omega)
      clear hm
      go_enter Tryz.func54, Tryz.ntmps54
      go_wp2_with fail
      refine (fits_yes _ x _ (HN.out.alloc _) (by omega)).mono ?_
      rintro e w1 ⟨rfl, rfl⟩
      go_wp2_with fail
      refine bodyPost_ret (v := .tuple #[.int .i64 0, .bool false]) (by simp [results, Tryz.results54, go_sem]) rfl ⟨rfl, bel_al (Below.refl _ _) _⟩
theorem i64_in {n : Int} (h1 : -9223372036854775808 ≤ n) (h2 : n ≤ 9223372036854775807) : InR n := ⟨by rw [M127_eq]; omega, by rw [M127_eq]; omega⟩
end Go.Proofs.YteohncnjjgoemaaGreatDoor
