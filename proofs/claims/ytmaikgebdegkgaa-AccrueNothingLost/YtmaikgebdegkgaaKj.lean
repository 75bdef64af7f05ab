/- accrue: the walk of AccrueNothingLost. -/
import Derived.Test.YtmaikgebdegkgaaKi
import Derived.Test.YtmaikgebdegkgaaKf
namespace Go.Proofs.Ytmaikgebdegkgaa
open Go.RowKit
set_option linter.unusedVariables false

/-- k days one by one, and all at once -/
theorem days_lose (X D : Int) (k : Nat) (hX : 0 ≤ X) (hD : 0 < D) : (k : Int) * (X / D) ≤ X * k / D ∧ X * k / D - (k : Int) * (X / D) ≤ k := by
  have e := Int.mul_ediv_add_emod X D
  have r0 := Int.emod_nonneg X (show D ≠ 0 by omega)
  have r1 := Int.emod_lt_of_pos X hD
  generalize X / D = q at *
  generalize X % D = r at *
  have e2 : X * k = r * k + (k * q) * D := by
    rw [← e, Int.add_mul, Int.add_comm, Int.mul_comm D q, Int.mul_right_comm q D k, Int.mul_comm q (k : Int)]
  rw [e2, Int.add_mul_ediv_right _ _ (by omega)]
  have p0 : 0 ≤ r * k := Int.mul_nonneg r0 (by omega)
  have p1 : r * k ≤ D * k := Int.mul_le_mul_of_nonneg_right (by omega) (by omega)
  have a := Int.ediv_nonneg p0 (show 0 ≤ D by omega)
  have b : r * k / D ≤ k := Int.ediv_le_of_le_mul hD (by rw [Int.mul_comm (k : Int) D]; exact p1)
  omega
set_option maxRecDepth 100000 in
set_option maxHeartbeats 1000000 in
theorem lost_walk (p q r m f : Int) (w : World) (m1 : 0 ≤ m) (m2 : m ≤ 255) (f1 : 0 ≤ f) (f2 : f ≤ 65535) :
    Calls Try.prog 7 #[.int .i64 p, .int .i64 q, .int .i64 r, .int .u8 m, .int .u16 f] w fun e w' => e = .returned (.bool true) ∧ Below w.heap.size w w' := by
  go_enter Try.func7, Try.ntmps7
  go_wp2_with (go_at_call 9; refine (awake_ok _).mono ?_; rintro e w1 ⟨rfl, b1⟩; have B1 := (show Hid _ from b1); clear b1)
  have a1 := um p 10000000000000000 (by omega) (by omega)
  generalize wrap64 ((IntKind.u64.wrap p).tmod 10000000000000000) = A at *
  refine (Pay_ok A 20000000000000 _ (by omega) (by omega)).mono ?_
  rintro e w2 ⟨rfl, b2⟩
  have B2 := (show Hid _ from B1.out.trans (b2.mono B1.out.size))
  clear b2 B1
  rw [show min (A / 1000000) 20000000000000 = A / 1000000 by omega]
  obtain ⟨u, hu⟩ : ∃ u, u = A / 1000000 := ⟨_, rfl⟩
  obtain ⟨v, hv⟩ : ∃ v, v = A % 1000000 := ⟨_, rfl⟩
  have hs : 1000000 * u + v = A := by omega
  have u1 : 0 ≤ u ∧ u ≤ 10000000000 := by omega
  have v1 : 0 ≤ v ∧ v ≤ 999999 := by omega
  rw [← hu, ← hv]
  clear hu hv
  obtain ⟨u1, u2⟩ := u1
  obtain ⟨v1, v2⟩ := v1
  obtain ⟨a11, a12⟩ := a1
  have d1 : decide (v < 0) = false := decide_eq_false (by omega)
  have d2 : decide (999999 < v) = false := decide_eq_false (by omega)
  have a2 := um q 1000000000 (by omega) (by omega)
  have a3 := um r 1000000001 (by omega) (by omega)
  have HA2 := (show Hid _ from a2)
  have HA3 := (show Hid _ from a3)
  clear a2 a3
  obtain ⟨k, hk⟩ : ∃ k : Nat, m % 40 = k := ⟨(m % 40).toNat, by omega⟩
  have hk40 : k < 40 := by omega
  go_upto_region 11 with fail
  generalize wrap64 ((IntKind.u64.wrap q).tmod 1000000000) = B at *
  generalize wrap64 ((IntKind.u64.wrap r).tmod 1000000001) = R at *
  have hB : 0 ≤ B ∧ B ≤ 10000000000000 := by have := HA2.out; omega
  have hR : 0 ≤ R ∧ R ≤ 1000000000 := by have := HA3.out; omega
  have x0 : 0 ≤ B * R := Int.mul_nonneg hB.1 hR.1
  have x1 : B * R ≤ 1000000000 * 1000000000 := Int.mul_le_mul (by have := HA2.out; omega) hR.2 hR.1 (by omega)
  have x2 : B * R * (k : Int) ≤ 1000000000000000000 * 40 := Int.mul_le_mul (by omega) (by omega) (by omega) (by omega)
  have x3 : 0 ≤ B * R * (k : Int) := Int.mul_nonneg x0 (by omega)
  obtain ⟨Q, hQ⟩ : ∃ Q : Nat, Q = rq (B * R * 1) (360 * 1000) 0 := ⟨_, rfl⟩
  obtain ⟨Z, hZ⟩ : ∃ Z : Nat, Z = rq (B * R * (k : Int)) (360 * 1000) 0 := ⟨_, rfl⟩
  have q1 : (Q : Int) = B * R / 360000 := by rw [hQ, rq_down (by omega) (by omega), Int.mul_one]; rfl
  have z1 : (Z : Int) = B * R * k / 360000 := by rw [hZ, rq_down x3 (by omega)]; rfl
  have dl := days_lose (B * R) 360000 k x0 (by omega)
  rw [← q1, ← z1] at dl
  have qb : (Q : Int) ≤ 2777777777778 := by rw [q1]; exact Int.ediv_le_of_le_mul (by omega) (by omega)
  have zb : (Z : Int) ≤ 111111111111112 := by rw [z1]; exact Int.ediv_le_of_le_mul (by omega) (by omega)
  have HQ := (show Hid _ from hQ)
  have HZ := (show Hid _ from hZ)
  have HX := (show Hid _ from And.intro x2 (And.intro x0 x1))
  have HB := (show Hid _ from hB)
  have HR := (show Hid _ from hR)
  have HD := (show Hid _ from dl)
  have T3 := (show Hid _ from tr_new w2 [(0, R)] 1 rfl (by omega) (wf_one R hR) 25)
  have B3 := (show Hid _ from B2.out.alloc B2.out.size (.cells (tcs [(0, R)]).toArray 25))
  have HP : Hid (∀ f t, 1 ≤ f → f ≤ t → t ≤ 3652059 → ∀ w, Calls Try.prog 32 #[.int .i64 0, .int .i64 f, .int .i64 t] w fun e w' => e = .returned (.tuple #[.int .i64 (t - f), .int .i64 360, .int .i64 0]) ∧ w' = w) := fun f t a b c w => cb.Part_0 f t w a b c
  clear HA2 HA3 hk hB hR x0 x1 x2 x3 hQ hZ q1 z1 dl B2
  have hj0 : ((0 : Nat) : Int) * (Q : Int) = 0 := by simp
  have HJ0 := (show Hid _ from hj0)
  clear hj0
  change Code.wp _ _ _ _ (w2.alloc (.cells (tcs [(0, R)]).toArray 25))
  generalize w2.alloc (.cells (tcs [(0, R)]).toArray 25) = w3 at *
  generalize w2.heap.size = tb at *
  go_wp2_with fail
  go_loopw [18, 71] (fun s i wr => ∃ j : Nat, j ≤ k ∧ s = .int .i64 ((j : Int) * (Q : Int)) ∧ i = .int .i64 j ∧ Hid (Tr wr (.slice (some ⟨tb, 0, none⟩) 1 1) [(0, R)]) ∧ Hid (Below w.heap.size w wr)) (fun _ i _ => k - (intOf i).toNat)
  case atStart => exact ⟨0, by omega, by rw [HJ0.out], rfl, T3, B3⟩
  case round =>
    obtain ⟨j, hj, rfl, rfl, ht, hb⟩ := hrel
    by_cases hjk : j = k
    · subst hjk
      have y0 : 0 ≤ (j : Int) * (Q : Int) := Int.mul_nonneg (by omega) (by omega)
      obtain ⟨Y, hY⟩ : ∃ Y, Y = (j : Int) * (Q : Int) := ⟨_, rfl⟩
      have hd := HD.out
      rw [← hY] at hd y0 ⊢
      have HY := (show Hid _ from hd)
      clear hY hd
      go_wp2_with fail
      refine (Daily1 B R _ [(0, R)] 0 (1 + f) (1 + f + (j : Int)) (j : Int) 360 0 _ ht.out HB.out (terr_one HR.out) (ysum_one B R HB.out.1) HR.out (by omega) (fun w => by
        have h := HP.out (1 + f) (1 + f + (j : Int)) (by omega) (by omega) (by omega) w
        rw [show 1 + f + (j : Int) - (1 + f) = j by omega] at h
        exact h) (by omega) (by omega) (by have := HX.out.1; omega) (by omega)).mono ?_
      rintro e w4 ⟨rfl, b4⟩
      rw [← HZ.out]
      have B4 := (show Hid _ from hb.out.trans (b4.mono hb.out.size))
      clear b4
      have y9 : Y ≤ 111111111111112 := by have := HY.out.1; omega
      have e1 : decide (Y ≤ (Z : Int)) = true := decide_eq_true HY.out.1
      have e2 : decide ((Z : Int) - Y ≤ (j : Int)) = true := decide_eq_true HY.out.2
      go_wp2_with fail
      go_ret
      exact ⟨rfl, B4.out⟩
    have hj' : j < k := by omega
    have hlt : decide ((j : Int) < k) = true := decide_eq_true (by omega)
    have y0 : 0 ≤ (j : Int) * (Q : Int) := Int.mul_nonneg (by omega) (by omega)
    have y1 : (j : Int) * (Q : Int) ≤ 40 * 2777777777778 := Int.mul_le_mul (by omega) qb (by omega) (by omega)
    have y2 : Hid ((j : Int) * (Q : Int) + (Q : Int) = ((j + 1 : Nat) : Int) * (Q : Int)) := by
      show (j : Int) * (Q : Int) + (Q : Int) = ((j + 1 : Nat) : Int) * (Q : Int)
      rw [show ((j + 1 : Nat) : Int) = (j : Int) + 1 by omega, Int.add_mul, Int.one_mul]
    obtain ⟨Y, hY⟩ : ∃ Y, Y = (j : Int) * (Q : Int) := ⟨_, rfl⟩
    rw [← hY] at y0 y1 y2 ⊢
    clear hY
    go_wp2_with fail
    refine (Daily1 B R _ [(0, R)] 0 (1 + f + (j : Int)) (1 + f + (j : Int) + 1) 1 360 0 _ ht.out HB.out (terr_one HR.out) (ysum_one B R HB.out.1) HR.out (by omega) (fun w => by
      have h := HP.out (1 + f + (j : Int)) (1 + f + (j : Int) + 1) (by omega) (by omega) (by omega) w
      rw [show 1 + f + (j : Int) + 1 - (1 + f + (j : Int)) = 1 by omega] at h
      exact h) (by omega) (by omega) (by have := HX.out.2; omega) (by omega)).mono ?_
    rintro e w4 ⟨rfl, b4⟩
    rw [← HQ.out]
    have B4 := (show Hid _ from hb.out.trans (b4.mono hb.out.size))
    have T4 := (show Hid _ from ht.out.step b4)
    clear b4
    go_wp2_with fail
    exact ⟨⟨j + 1, by omega, by rw [y2.out], by simp, T4, B4⟩, by simp [intOf]; omega⟩
end Go.Proofs.Ytmaikgebdegkgaa
