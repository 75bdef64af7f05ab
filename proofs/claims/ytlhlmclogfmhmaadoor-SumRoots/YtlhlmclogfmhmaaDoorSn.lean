/- The document's roots: the contracts of prime and root. -/
import Derived.Test.YtlhlmclogfmhmaaDoorSi
import Derived.Test.YtlhlmclogfmhmaaDoorUg
namespace Go.Proofs.YtlhlmclogfmhmaaDoor
open Go.RowKit
set_option linter.unusedVariables false

def prB (n : Nat) : Bool := decide (1 < n) && (List.range 21).all (fun e => decide (e < 2) || decide (n < e * e) || decide (n % e ≠ 0))
theorem prB_false {n d : Nat} (h2 : 2 ≤ d) (hd : d ≤ 20) (hdd : d * d ≤ n) (hm : n % d = 0) : prB n = false := by
  cases h : prB n with
  | false => rfl
  | true =>
    exfalso
    unfold prB at h
    rw [Bool.and_eq_true, List.all_eq_true] at h
    have := h.2 d (by simp; omega)
    simp [hm] at this
    omega
theorem prB_true {n d : Nat} (h : ∀ e, 2 ≤ e → e < d → n % e ≠ 0) (hdd : ¬ d * d ≤ n) : prB n = decide (1 < n) := by
  unfold prB
  have : (List.range 21).all (fun e => decide (e < 2) || decide (n < e * e) || decide (n % e ≠ 0)) = true := by
    rw [List.all_eq_true]
    intro e _
    by_cases h1 : e < 2
    · simp [h1]
    · by_cases h3 : e < d
      · have := h e (by omega) h3
        simp [this]
      · have := Nat.mul_le_mul (show d ≤ e by omega) (show d ≤ e by omega)
        have h4 : n < e * e := by omega
        simp [h4]
  rw [this, Bool.and_true]
set_option maxRecDepth 100000 in
theorem prime_ok (n : Nat) (w : World) (hn : n ≤ 400) :
    Calls Tryd.prog 26 #[.int .u64 n] w fun e w' => e = .returned (.bool (prB n)) ∧ w' = w := by
  go_enter Tryd.func26, Tryd.ntmps26
  go_wp2_with fail
  go_loop [3] (fun s => ∃ d : Nat, 2 ≤ d ∧ d ≤ 21 ∧ s = .int .u64 d ∧ Hid (∀ e, 2 ≤ e → e < d → n % e ≠ 0)) (fun s => 30 - (intOf s).toNat)
  case atStart => exact ⟨2, by omega, by omega, rfl, fun e h1 h2 => by omega⟩
  case round =>
    obtain ⟨d, hd1, hd2, rfl, hall⟩ := hrel
    obtain ⟨q, hq⟩ : ∃ q, q = d * d := ⟨_, rfl⟩
    have HQ := (show Hid _ from hq)
    have e1 : (d : Int) * (d : Int) = (q : Int) := by rw [hq]; simp
    have hq2 : q ≤ 441 := by rw [hq]; exact Nat.mul_le_mul hd2 hd2
    have hq3 : Hid (d ≤ 20 ∨ 400 < q) := by
      show _ ∨ _
      by_cases h : d ≤ 20
      · exact Or.inl h
      · right
        have : d = 21 := by omega
        subst this
        omega
    clear hq
    by_cases hle : q ≤ n
    · have hd20 : d ≤ 20 := by have := hq3.out; omega
      obtain ⟨r, hr⟩ : ∃ r, r = n % d := ⟨_, rfl⟩
      have HR := (show Hid _ from hr)
      have e2 : (n : Int).tmod (d : Int) = (r : Int) := by rw [hr, Int.tmod_eq_emod_of_nonneg (by omega)]; rfl
      have e3 : (n : Int) % (d : Int) = (r : Int) := by rw [hr]; rfl
      clear hr
      by_cases hr0 : r = 0
      · have hf := (show Hid _ from prB_false hd1 hd20 (by rw [← HQ.out]; exact hle) (by rw [← HR.out]; exact hr0))
        subst hr0
        go_wp2_with fail
        go_ret
        rw [hf.out]
        exact ⟨rfl, rfl⟩
      · go_wp2_with fail
        refine ⟨⟨d + 1, by omega, by omega, by go_num, fun e h1 h2 => ?_⟩, by simp [intOf]; omega⟩
        by_cases e4 : e = d
        · subst e4
          rw [← HR.out]; exact hr0
        · exact hall.out e h1 (by omega)
    · have ht := (show Hid _ from prB_true hall.out (by rw [← HQ.out]; exact hle))
      go_wp2_with fail
      go_ret
      rw [ht.out]
      refine ⟨?_, rfl⟩
      simp
      omega
theorem cube_lt {a b : Nat} (h : a < b) : a * a * a < b * b * b := by
  have h1 : a * a ≤ b * b := Nat.mul_le_mul (by omega) (by omega)
  have h2 : a * a * a ≤ b * b * a := Nat.mul_le_mul_right _ h1
  have h3 : b * b * a < b * b * b := Nat.mul_lt_mul_of_pos_left h (Nat.mul_pos (by omega) (by omega))
  omega
theorem cmp_le {x y : Nat} : lg.cmpN x y ≤ 0 ↔ x ≤ y := by
  unfold lg.cmpN
  split
  · simp; omega
  · split <;> simp <;> omega
set_option maxHeartbeats 1000000 in
set_option maxRecDepth 100000 in
theorem root_ok (n r T : Nat) (w : World) (hn : n ≤ 400) (hT : T = n * 2 ^ 96) (h1 : r * r * r ≤ T) (h2 : T < (r + 1) * (r + 1) * (r + 1)) (hr : r < 68719476736) :
    Calls Tryd.prog 27 #[.int .u64 n] w fun e w' => e = .returned (.int .u64 ((r % 4294967296 : Nat) : Int)) ∧ Below w.heap.size w w' := by
  have HH : Hid (r * r * r ≤ T ∧ T < (r + 1) * (r + 1) * (r + 1)) := ⟨h1, h2⟩
  have HT := (show Hid _ from hT)
  clear h1 h2 hT
  go_enter Tryd.func27, Tryd.ntmps27
  go_wp2_with fail
  refine (lg.word_ok n _ (by omega) (by omega)).mono ?_
  rintro e w1 ⟨⟨u1, rfl, N1⟩, b1⟩
  rw [Int.toNat_natCast] at N1
  have M1 := (show Hid _ from N1)
  have B1 := (show Hid _ from b1)
  clear N1 b1
  go_wp2_with fail
  refine (lg.left_ok u1 n 96 _ M1.out (lg.md_of (k := 64) (by omega) (by omega)) (by omega)).mono ?_
  rintro e w2 ⟨⟨top, rfl, N2⟩, b2⟩
  rw [← HT.out] at N2
  have M2 := (show Hid _ from N2)
  have B2 := (show Hid _ from B1.out.trans (b2.mono B1.out.size))
  clear N2 b2 M1 B1
  go_wp2_with fail
  go_loopw [3, 4] (fun lo hi wr => ∃ a b : Nat, a ≤ r ∧ r ≤ b ∧ b ≤ 68719476736 ∧ lo = .int .u64 a ∧ hi = .int .u64 b ∧ Below w.heap.size w wr ∧ Hid (lg.Nm wr top T)) (fun lo hi _ => (intOf hi).toNat - (intOf lo).toNat)
  case atStart => exact ⟨0, 68719476736, by omega, by omega, by omega, rfl, rfl, B2.out, M2⟩
  case round =>
    clear B2 M2
    obtain ⟨a, b, ha, hb, hb2, rfl, rfl, hbel, M⟩ := hrel
    have HB := (show Hid _ from hbel)
    clear hbel
    by_cases hab : a = b
    · obtain rfl : a = r := by omega
      subst hab
      go_wp2_with fail
      go_ret
      exact ⟨rfl, HB.out⟩
    obtain ⟨x, hx⟩ : ∃ x, x = b - (b - a) / 2 := ⟨_, rfl⟩
    have ex : (b : Int) - ((b : Int) - (a : Int)) / 2 = (x : Int) := by omega
    have x1 : a < x := by omega
    have x2 : x ≤ b := by omega
    have MD1 : Hid (lg.Md x) := lg.md_of (k := 64) (by omega) (by omega)
    have MD2 : Hid (lg.Md (x * x)) := lg.md_of (k := 128) (by have := Nat.mul_le_mul (show x ≤ 68719476736 by omega) (show x ≤ 68719476736 by omega); omega) (by omega)
    clear hx
    have hlt : a < b := by omega
    go_wp2_with fail
    refine (lg.word_ok x _ (by omega) (by omega)).mono ?_
    rintro e w3 ⟨⟨u3, rfl, N3⟩, b3⟩
    rw [Int.toNat_natCast] at N3
    have A3 := (show Hid _ from N3)
    have M3 := (show Hid _ from M.out.step b3)
    have B3 := (show Hid _ from HB.out.trans (b3.mono HB.out.size))
    clear N3 b3 M HB
    go_wp2_with fail
    refine (lg.times_ok u3 u3 x x _ A3.out A3.out MD1.out MD1.out).mono ?_
    rintro e w4 ⟨⟨u4, rfl, N4⟩, b4⟩
    have A4 := (show Hid _ from N4)
    have C4 := (show Hid _ from A3.out.step b4)
    have M4 := (show Hid _ from M3.out.step b4)
    have B4 := (show Hid _ from B3.out.trans (b4.mono B3.out.size))
    clear N4 b4 A3 M3 B3
    go_wp2_with fail
    refine (lg.times_ok u4 u3 (x * x) x _ A4.out C4.out MD2.out MD1.out).mono ?_
    rintro e w5 ⟨⟨u5, rfl, N5⟩, b5⟩
    have A5 := (show Hid _ from N5)
    have M5 := (show Hid _ from M4.out.step b5)
    have B5 := (show Hid _ from B4.out.trans (b5.mono B4.out.size))
    clear N5 b5 A4 C4 M4 B4
    go_wp2_with fail
    refine (lg.compare_ok u5 top (x * x * x) T _ A5.out M5.out).mono ?_
    rintro e w6 ⟨rfl, b6⟩
    have M6 := (show Hid _ from M5.out.step b6)
    have B6 := (show Hid _ from B5.out.trans (b6.mono B5.out.size))
    clear b6 A5 M5 B5
    obtain ⟨cm, hcm⟩ : ∃ cm, cm = lg.cmpN (x * x * x) T := ⟨_, rfl⟩
    have HC := (show Hid _ from hcm)
    rw [← hcm]
    clear hcm
    by_cases hc : cm ≤ 0
    · have hxr : x ≤ r := by
        rcases Nat.lt_or_ge r x with h | h
        · exfalso
          rw [HC.out, cmp_le] at hc
          have h3 := HH.out.2
          rcases Nat.lt_or_ge (r + 1) x with h4 | h4
          · have := cube_lt h4; omega
          · have : r + 1 = x := by omega
            rw [this] at h3; omega
        · exact h
      go_wp2_with fail
      exact ⟨⟨x, b, hxr, hb, hb2, rfl, rfl, B6.out, M6⟩, by simp [intOf]; omega⟩
    · have hxr : r < x := by
        rcases Nat.lt_or_ge r x with h | h
        · exact h
        · exfalso
          rw [HC.out, cmp_le] at hc
          have h3 := HH.out.1
          rcases Nat.lt_or_ge x r with h4 | h4
          · have := cube_lt h4; omega
          · have : r = x := by omega
            rw [this] at h3; omega
      go_wp2_with fail
      exact ⟨⟨a, x - 1, ha, by omega, by omega, rfl, by go_num, B6.out, M6⟩, by simp [intOf]; omega⟩
end Go.Proofs.YtlhlmclogfmhmaaDoor
