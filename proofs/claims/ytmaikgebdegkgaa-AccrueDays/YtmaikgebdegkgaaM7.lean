/- Rounded quotients under a common factor; the contracts of way, and of Rounded by whole numbers. -/
import Derived.Test.YtmaikgebdegkgaaUt
import Derived.Test.YtmaikgebdegkgaaVa
import Derived.Test.YtmaikgebdegkgaaM5
import Derived.Test.YtmaikgebdegkgaaVc
namespace Go.Proofs.Ytmaikgebdegkgaa
open Go.RowKit
set_option linter.unusedVariables false
attribute [local go_sem ↓] Go.wp_at_zero Go.wp_at_succ

theorem away_scale (neg : Bool) (q r d k mode : Nat) (hk : 0 < k) : away neg q (r * k) (d * k) mode = away neg q r d mode := by
  have e0 : r * k = 0 ↔ r = 0 := by
    constructor
    · intro h; rcases Nat.mul_eq_zero.1 h with h | h <;> omega
    · intro h; rw [h, Nat.zero_mul]
  have es : r * k + r * k = (r + r) * k := by rw [Nat.add_mul]
  have e1 : (r + r) * k < d * k ↔ r + r < d := Nat.mul_lt_mul_right hk
  have e2 : d * k < (r + r) * k ↔ d < r + r := Nat.mul_lt_mul_right hk
  have e3 : (r + r) * k = d * k ↔ r + r = d := Nat.mul_right_cancel_iff hk
  unfold away
  rw [es]
  simp only [e0, e1, e2, e3]
theorem rnd_scale (neg : Bool) (n d k mode : Nat) (hk : 0 < k) : rnd neg (n * k) (d * k) mode = rnd neg n d mode := by
  unfold rnd
  rw [Nat.mul_div_mul_right _ _ hk, Nat.mul_mod_mul_right, away_scale _ _ _ _ _ _ hk]
theorem rquo_rnd (neg : Bool) (n d : Nat) (shift : Int) (mode : Nat) : rquo neg n d shift mode = rnd neg (rnum n shift) (rden d shift) mode := rfl
/-- n 10^u over d 10^v, as the program has it -/
theorem rnd_shift (neg : Bool) (n d u v mode : Nat) : rnd neg (n * 10 ^ u) (d * 10 ^ v) mode = rquo neg n d ((u : Int) - v) mode := by
  rw [rquo_rnd]
  unfold rnum rden
  rcases Nat.le_total v u with h | h
  · rw [show ((u : Int) - v).toNat = u - v by omega, show (-((u : Int) - v)).toNat = 0 by omega, Nat.pow_zero, Nat.mul_one]
    have e : n * 10 ^ u = n * 10 ^ (u - v) * 10 ^ v := by rw [Nat.mul_assoc, ← Nat.pow_add, show u - v + v = u by omega]
    rw [e, rnd_scale _ _ _ _ _ (Nat.pow_pos (by decide))]
  · rw [show ((u : Int) - v).toNat = 0 by omega, show (-((u : Int) - v)).toNat = v - u by omega, Nat.pow_zero, Nat.mul_one]
    have e : d * 10 ^ v = d * 10 ^ (v - u) * 10 ^ u := by rw [Nat.mul_assoc, ← Nat.pow_add, show v - u + u = v by omega]
    rw [e, rnd_scale _ _ _ _ _ (Nat.pow_pos (by decide))]
theorem rnd_zero (neg : Bool) (d mode : Nat) : rnd neg 0 d mode = 0 := by rw [rnd_exact _ _ _ _ (Nat.zero_mod d), Nat.zero_div]
theorem rounded_in (v u : Value) (z : Int) (y mode : Nat) (w : World) (h : In w v z) (h2 : Nm w u y) (hz : Mi z) (hy : Md y) (hy0 : 0 < y) (hm : mode ≤ 6) :
    Calls Try.prog 44 #[v, u, .int .i64 mode] w fun e w' => (∃ r, e = .returned r ∧ In w' r (sv (decide (z < 0)) (rnd (decide (z < 0)) z.natAbs y mode))) ∧ Below w.heap.size w w' := by
  obtain ⟨m, hw, a, b⟩ := h
  have key : Calls Try.prog 44 #[v, u, .int .i64 mode] w fun e w' => (∃ r, e = .returned r ∧ Wn w' r m (rnd m z.natAbs y mode)) ∧ Below w.heap.size w w' := by
    by_cases h0 : z.natAbs % y = 0
    · rw [rnd_exact _ _ _ _ h0]
      exact rounded_none v u m _ y mode w hw h2 hz hy hy0 h0
    · exact rounded_some v u m _ y mode w hw h2 hz hy hy0 (by omega) hm
  refine key.mono ?_
  rintro e w1 ⟨⟨r, rfl, hr⟩, hb⟩
  refine ⟨⟨r, rfl, m, ?_, ?_, ?_⟩, hb⟩
  · rcases (show z = 0 ∨ 0 < z ∨ z < 0 by omega) with rfl | h | h
    · rw [show (0 : Int).natAbs = 0 from rfl, rnd_zero] at hr
      rw [show (0 : Int).natAbs = 0 from rfl, rnd_zero]
      simpa [sv] using hr
    · have e := a h
      subst e
      rw [decide_eq_false (by omega)]
      simpa [sv] using hr
    · have e := b h
      subst e
      rw [decide_eq_true h]
      simpa [sv] using hr
  · intro h
    rcases (show z = 0 ∨ 0 < z ∨ z < 0 by omega) with rfl | h1 | h1
    · rw [show (0 : Int).natAbs = 0 from rfl, rnd_zero] at h; simp [sv] at h
    · exact a h1
    · rw [decide_eq_true h1] at h; simp [sv] at h; omega
  · intro h
    rcases (show z = 0 ∨ 0 < z ∨ z < 0 by omega) with rfl | h1 | h1
    · rw [show (0 : Int).natAbs = 0 from rfl, rnd_zero] at h; simp [sv] at h
    · rw [decide_eq_false (by omega)] at h; simp [sv] at h; omega
    · exact b h1
theorem neg_scale (c : Int) (k : Nat) : decide (c * 10 ^ k < 0) = decide (c < 0) := by
  have hk := ten_pos k
  rw [Bool.eq_iff_iff]
  simp only [decide_eq_true_eq]
  constructor
  · intro h
    rcases Int.lt_or_le c 0 with h1 | h1
    · exact h1
    · have := Int.mul_nonneg h1 (Int.le_of_lt hk); omega
  · intro h
    exact Int.mul_neg_of_neg_of_pos h hk
theorem rv_eq (c : Int) (s t mode : Nat) : sv (decide (c * 10 ^ t < 0)) (rnd (decide (c * 10 ^ t < 0)) (c * 10 ^ t).natAbs (10 ^ s) mode) = rv c s t mode := by
  rw [neg_scale, Int.natAbs_mul, ten_abs]
  have := rnd_shift (decide (c < 0)) c.natAbs 1 t s mode
  rw [Nat.one_mul] at this
  rw [this]
  rfl
end Go.Proofs.Ytmaikgebdegkgaa
/- The document's whole numbers: the contracts of Small, DocOf, DocInt. -/
namespace Go.Proofs.Ytmaikgebdegkgaa
open Go.RowKit
set_option linter.unusedVariables false
attribute [local go_sem ↓] Go.wp_at_zero Go.wp_at_succ

theorem cut0_size (c : Int) (s : Nat) : (cut0 c s).natAbs = c.natAbs / 10 ^ s := by
  unfold cut0 sv
  generalize c.natAbs / 10 ^ s = k
  split <;> omega
theorem cut0_pos {c : Int} {s : Nat} (h : 0 < cut0 c s) : 0 < c := by
  have hd := cut0_size c s
  rcases (show c = 0 ∨ c < 0 ∨ 0 < c by omega) with rfl | h1 | h1
  · simp at hd; omega
  · unfold cut0 sv at h; rw [decide_eq_true h1] at h; generalize c.natAbs / 10 ^ s = k at h; simp at h; omega
  · exact h1
theorem cut0_neg {c : Int} {s : Nat} (h : cut0 c s < 0) : c < 0 := by
  rcases Int.lt_or_le c 0 with h1 | h1
  · exact h1
  · unfold cut0 sv at h; rw [decide_eq_false (by omega)] at h; generalize c.natAbs / 10 ^ s = k at h; simp at h; omega
theorem cut0_tv (c : Int) (s : Nat) : tv (cut0 c s) 0 (-c) s = 0 ↔ c.natAbs % 10 ^ s = 0 := by
  unfold tv
  rw [show max 0 s - 0 = s by omega, show max 0 s - s = 0 by omega, Int.pow_zero, Int.mul_one]
  have e := Nat.div_add_mod c.natAbs (10 ^ s)
  have e2 : ((10 ^ s : Nat) : Int) = (10 : Int) ^ s := by rw [Int.natCast_pow]; rfl
  have e3 : (c.natAbs : Int) = (10 : Int) ^ s * ((c.natAbs / 10 ^ s : Nat) : Int) + ((c.natAbs % 10 ^ s : Nat) : Int) := by rw [← e2, ← Int.natCast_mul, ← Int.natCast_add, e]
  unfold cut0 sv
  generalize c.natAbs / 10 ^ s = k at *
  generalize c.natAbs % 10 ^ s = r at *
  rcases Int.lt_or_le c 0 with h1 | h1
  · rw [decide_eq_true h1]
    simp only [if_true, Int.neg_mul]
    rw [Int.mul_comm (k : Int)]
    omega
  · rw [decide_eq_false (by omega)]
    simp only [Bool.false_eq_true, if_false]
    rw [Int.mul_comm (k : Int)]
    omega
set_option maxHeartbeats 1000000 in
set_option maxRecDepth 100000 in
theorem small_yes (v : Value) (z : Int) (w : World) (h : In w v z) (h1 : -9223372036854775808 ≤ z) (h2 : z ≤ 9223372036854775807) :
    Calls Try.prog 26 #[v] w fun e w' => e = .returned (.tuple #[.int .i64 z, .bool true]) ∧ Below w.heap.size w w' := by
  obtain ⟨m, a, n, k, rfl, hn, ha, hb⟩ := h.form
  have hx : z.natAbs ≤ 9223372036854775808 := by omega
  have hw : wrap64 (z.natAbs : Int) = if z.natAbs = 9223372036854775808 then -9223372036854775808 else (z.natAbs : Int) := by unfold wrap64; split <;> omega
  have HN := (show Hid _ from hn)
  have ha' : ¬ (m = false ∧ z < 0) := fun ⟨e, hz⟩ => by have := hb hz; rw [e] at this; cases this
  have hb' : ¬ (m = true ∧ 0 < z) := fun ⟨e, hz⟩ => by have := ha hz; rw [e] at this; cases this
  clear hn ha hb h
  cases m
  · have hz : 0 ≤ z := by
      rcases Int.lt_or_le z 0 with h | h
      · exact absurd ⟨rfl, h⟩ ha'
      · exact h
    obtain ⟨x, rfl⟩ := Int.eq_ofNat_of_zero_le hz
    rw [Int.natAbs_natCast] at *
    clear ha' hb' hw hz
    go_enter Try.func26, Try.ntmps26
    go_wp2_with fail
    refine (fits_yes _ x _ (HN.out.alloc _) (by omega)).mono ?_
    rintro e w1 ⟨rfl, rfl⟩
    go_wp2_with fail
    refine bodyPost_ret (v := .tuple #[.int .i64 (x : Int), .bool true]) (by simp [results, Try.results26, go_sem]) rfl ⟨rfl, bel_al (Below.refl _ _) _⟩
  · have hz : z ≤ 0 := by
      rcases Int.lt_or_le 0 z with h | h
      · exact absurd ⟨rfl, h⟩ hb'
      · exact h
    obtain ⟨x, hx'⟩ : ∃ x : Nat, z = -(x : Int) := ⟨z.natAbs, by omega⟩
    subst hx'
    rw [Int.natAbs_neg, Int.natAbs_natCast] at *
    have hneg : wrap64 (-(wrap64 (x : Int))) = -(x : Int) := by unfold wrap64; omega
    clear ha' hb' hw hz
    go_enter Try.func26, Try.ntmps26
    go_wp2_with fail
    refine (fits_yes _ x _ (HN.out.alloc _) (by omega)).mono ?_
    rintro e w1 ⟨rfl, rfl⟩
    have HG := (show Hid _ from hneg)
    clear hneg
    by_cases hx63 : x = 9223372036854775808
    · have t1 : ((x : Int) == 9223372036854775808) = true := by rw [beq_iff_eq]; omega
      have hg : wrap64 (-wrap64 9223372036854775808) = -9223372036854775808 := by unfold wrap64; omega
      have HH := (show Hid _ from hg)
      have H63 := (show Hid _ from hx63)
      clear hg
      go_wp2_with fail
      refine bodyPost_ret (v := .tuple #[.int .i64 (wrap64 (-wrap64 9223372036854775808)), .bool true]) (by simp [results, Try.results26, go_sem]) rfl ⟨?_, bel_al (Below.refl _ _) _⟩
      rw [HH.out, H63.out]
      rfl
    · have t1 : ((x : Int) == 9223372036854775808) = false := by rw [beq_eq_false_iff_ne]; omega
      go_wp2_with fail
      refine bodyPost_ret (v := .tuple #[.int .i64 (-(x : Int)), .bool true]) (by simp [results, Try.results26, go_sem]) rfl ⟨rfl, bel_al (Below.refl _ _) _⟩
set_option maxHeartbeats 1000000 in
set_option maxRecDepth 100000 in
theorem small_no (v : Value) (z : Int) (w : World) (h : In w v z) (h1 : ¬ (-9223372036854775808 ≤ z ∧ z ≤ 9223372036854775807)) :
    Calls Try.prog 26 #[v] w fun e w' => e = .returned (.tuple #[.int .i64 0, .bool false]) ∧ Below w.heap.size w w' := by
  obtain ⟨m, a, n, k, rfl, hn, ha, hb⟩ := h.form
  have HN := (show Hid _ from hn)
  have h63 : 9223372036854775808 ≤ z.natAbs := by omega
  have hm : z.natAbs = 9223372036854775808 → m = false := fun e => ha (by omega)
  clear hn ha hb h
  generalize z.natAbs = x at *
  clear h1
  by_cases h64 : 18446744073709551616 ≤ x
  · have HX := (show Hid _ from h64)
    clear h64 hm h63
    go_enter Try.func26, Try.ntmps26
    go_wp2_with fail
    refine (fits_no _ x _ (HN.out.alloc _) HX.out).mono ?_
    rintro e w1 ⟨rfl, rfl⟩
    go_wp2_with fail
    refine bodyPost_ret (v := .tuple #[.int .i64 0, .bool false]) (by simp [results, Try.results26, go_sem]) rfl ⟨rfl, bel_al (Below.refl _ _) _⟩
  · by_cases hx63 : x = 9223372036854775808
    · have hm' := hm hx63
      subst hm'
      have t0 : decide (9223372036854775808 < (x : Int)) = false := decide_eq_false (by omega)
      have t1 : ((x : Int) == 9223372036854775808) = true := by rw [beq_iff_eq]; omega
      clear hm
      go_enter Try.func26, Try.ntmps26
      go_wp2_with fail
      refine (fits_yes _ x _ (HN.out.alloc _) (by omega)).mono ?_
      rintro e w1 ⟨rfl, rfl⟩
      go_wp2_with fail
      refine bodyPost_ret (v := .tuple #[.int .i64 0, .bool false]) (by simp [results, Try.results26, go_sem]) rfl ⟨rfl, bel_al (Below.refl _ _) _⟩
    · have t0 : decide (9223372036854775808 < (x : Int)) = true := decide_eq_true (by omega)
      clear hm
      go_enter Try.func26, Try.ntmps26
      go_wp2_with fail
      refine (fits_yes _ x _ (HN.out.alloc _) (by omega)).mono ?_
      rintro e w1 ⟨rfl, rfl⟩
      go_wp2_with fail
      refine bodyPost_ret (v := .tuple #[.int .i64 0, .bool false]) (by simp [results, Try.results26, go_sem]) rfl ⟨rfl, bel_al (Below.refl _ _) _⟩
theorem i64_in {n : Int} (h1 : -9223372036854775808 ≤ n) (h2 : n ≤ 9223372036854775807) : InR n := ⟨by rw [M127_eq]; omega, by rw [M127_eq]; omega⟩
end Go.Proofs.Ytmaikgebdegkgaa
