/- The laws BasisAdds and BasisYears: their walks. -/
import Derived.Test.YtmnnkipfciahmaeCe
namespace Go.Proofs.Ytmnnkipfciahmae
open Go.RowKit
set_option linter.unusedVariables false

theorem u8_bounds {i : Int} (h : (Lit.int .u8 i).wf = true) : 0 ≤ i ∧ i ≤ 255 := by simpa [Lit.wf, IntKind.min, IntKind.max, IntKind.signed, IntKind.bits] using h
theorem u16_bounds {i : Int} (h : (Lit.int .u16 i).wf = true) : 0 ≤ i ∧ i ≤ 65535 := by simpa [Lit.wf, IntKind.min, IntKind.max, IntKind.signed, IntKind.bits] using h
theorem adds_0 (a b c how : Int) (h0 : 0 ≤ how) (h1 : how ≤ 255) (hk : how % 4 = 0) (w : World) :
    Calls Try.prog 4 #[.int .i64 a, .int .i64 b, .int .i64 c, .int .u8 how] w fun e w' => e = .returned (.bool true) ∧ w' = w := by
  go_enter Try.func4, Try.ntmps4
  go_wp2_with fail
  refine (awake04 _).mono ?_
  rintro e w1 ⟨rfl, rfl⟩
  go_wp2_with fail
  refine (days_ok a b c _).mono ?_
  rintro e w1 ⟨x, y, z, hx, rfl, rfl⟩
  go_wp2_with fail
  refine (Part_0 x y _ (by omega) (by omega) (by omega)).mono ?_
  rintro e w1 ⟨rfl, rfl⟩
  go_wp2_with fail
  refine (Part_0 y z _ (by omega) (by omega) (by omega)).mono ?_
  rintro e w1 ⟨rfl, rfl⟩
  go_wp2_with fail
  refine (Part_0 x z _ (by omega) (by omega) (by omega)).mono ?_
  rintro e w1 ⟨rfl, rfl⟩
  go_wp2_with fail
  go_ret
  exact ⟨by simp; omega, rfl⟩
theorem adds_1 (a b c how : Int) (h0 : 0 ≤ how) (h1 : how ≤ 255) (hk : how % 4 = 1) (w : World) :
    Calls Try.prog 4 #[.int .i64 a, .int .i64 b, .int .i64 c, .int .u8 how] w fun e w' => e = .returned (.bool true) ∧ w' = w := by
  go_enter Try.func4, Try.ntmps4
  go_wp2_with fail
  refine (awake04 _).mono ?_
  rintro e w1 ⟨rfl, rfl⟩
  go_wp2_with fail
  refine (days_ok a b c _).mono ?_
  rintro e w1 ⟨x, y, z, hx, rfl, rfl⟩
  go_wp2_with fail
  refine (Part_1 x y _ (by omega) (by omega) (by omega)).mono ?_
  rintro e w1 ⟨rfl, rfl⟩
  go_wp2_with fail
  refine (Part_1 y z _ (by omega) (by omega) (by omega)).mono ?_
  rintro e w1 ⟨rfl, rfl⟩
  go_wp2_with fail
  refine (Part_1 x z _ (by omega) (by omega) (by omega)).mono ?_
  rintro e w1 ⟨rfl, rfl⟩
  go_wp2_with fail
  go_ret
  exact ⟨by simp; omega, rfl⟩
theorem adds_2 (a b c how : Int) (h0 : 0 ≤ how) (h1 : how ≤ 255) (hk : how % 4 = 2) (w : World) :
    Calls Try.prog 4 #[.int .i64 a, .int .i64 b, .int .i64 c, .int .u8 how] w fun e w' => e = .returned (.bool true) ∧ w' = w := by
  go_enter Try.func4, Try.ntmps4
  go_wp2_with fail
  refine (awake04 _).mono ?_
  rintro e w1 ⟨rfl, rfl⟩
  go_wp2_with fail
  refine (days_ok a b c _).mono ?_
  rintro e w1 ⟨x, y, z, hx, rfl, rfl⟩
  obtain ⟨x1, x2, x3, DX⟩ := date_ex x (by omega) (by omega)
  obtain ⟨y1, y2, y3, DY⟩ := date_ex y (by omega) (by omega)
  obtain ⟨z1, z2, z3, DZ⟩ := date_ex z (by omega) (by omega)
  have t1 := thi_mono DX DY hx.2.1
  have t2 := thi_mono DY DZ hx.2.2.1
  have b1 := thi_bounds DX
  have b2 := thi_bounds DY
  have b3 := thi_bounds DZ
  go_wp2_with fail
  refine (Part_2 x y _ _ _ _ _ _ _ DX DY (by omega)).mono ?_
  rintro e w1 ⟨rfl, rfl⟩
  go_wp2_with fail
  refine (Part_2 y z _ _ _ _ _ _ _ DY DZ (by omega)).mono ?_
  rintro e w1 ⟨rfl, rfl⟩
  go_wp2_with fail
  refine (Part_2 x z _ _ _ _ _ _ _ DX DZ (by omega)).mono ?_
  rintro e w1 ⟨rfl, rfl⟩
  go_wp2_with fail
  go_ret
  exact ⟨by simp; omega, rfl⟩
theorem adds_3 (a b c how : Int) (h0 : 0 ≤ how) (h1 : how ≤ 255) (hk : how % 4 = 3) (w : World) :
    Calls Try.prog 4 #[.int .i64 a, .int .i64 b, .int .i64 c, .int .u8 how] w fun e w' => e = .returned (.bool true) ∧ w' = w := by
  go_enter Try.func4, Try.ntmps4
  go_wp2_with fail
  refine (awake04 _).mono ?_
  rintro e w1 ⟨rfl, rfl⟩
  go_wp2_with fail
  refine (days_ok a b c _).mono ?_
  rintro e w1 ⟨x, y, z, hx, rfl, rfl⟩
  obtain ⟨x1, x2, x3, DX⟩ := date_ex x (by omega) (by omega)
  obtain ⟨y1, y2, y3, DY⟩ := date_ex y (by omega) (by omega)
  obtain ⟨z1, z2, z3, DZ⟩ := date_ex z (by omega) (by omega)
  have t1 := act_mono DX.inY DY.inY hx.2.1
  have t2 := act_mono DY.inY DZ.inY hx.2.2.1
  have b1 := act_bounds DX
  have b2 := act_bounds DY
  have b3 := act_bounds DZ
  go_wp2_with fail
  refine (Part_3 x y _ _ _ _ _ _ _ DX DY (by omega)).mono ?_
  rintro e w1 ⟨rfl, rfl⟩
  go_wp2_with fail
  refine (Part_3 y z _ _ _ _ _ _ _ DY DZ (by omega)).mono ?_
  rintro e w1 ⟨rfl, rfl⟩
  go_wp2_with fail
  refine (Part_3 x z _ _ _ _ _ _ _ DX DZ (by omega)).mono ?_
  rintro e w1 ⟨rfl, rfl⟩
  go_wp2_with fail
  go_ret
  exact ⟨by simp; omega, rfl⟩
theorem adds_walk (a b c how : Int) (w0 : (Lit.int .u8 how).wf = true) (w : World) :
    Calls Try.prog 4 #[.int .i64 a, .int .i64 b, .int .i64 c, .int .u8 how] w fun e w' => e = .returned (.bool true) ∧ w' = w := by
  have hb := u8_bounds w0
  have hc : how % 4 = 0 ∨ how % 4 = 1 ∨ how % 4 = 2 ∨ how % 4 = 3 := by omega
  rcases hc with h | h | h | h
  · exact adds_0 a b c how hb.1 hb.2 h w
  · exact adds_1 a b c how hb.1 hb.2 h w
  · exact adds_2 a b c how hb.1 hb.2 h w
  · exact adds_3 a b c how hb.1 hb.2 h w

theorem year_act (y : Int) : act (first (y + 1) + 1) (y + 1) - act (first y + 1) y = 133590 := by
  have s := first_step y
  have t := lps y
  unfold act lpd
  rw [show y + 1 - 1 = y by omega, t]
  have a : (if leap (y + 1) then first (y + 1) + 1 - (first (y + 1) + 1) else 0) = 0 := by split <;> omega
  have b : (if leap y then first y + 1 - (first y + 1) else 0) = 0 := by split <;> omega
  rw [a, b]
  omega
theorem year_later {n y m d : Int} (D : Date n y m d) (hn : n ≤ 3651693) : (y - 1) * 12 + m - 1 + 12 ≤ 119987 ∧ n ≤ shn y m d 12 ∧
    (thi (shy y m 12) (shm y m 12) (shd y m d 12) - thi y m d = 360 ∨ (m = 2 ∧ d = 29 ∧ thi (shy y m 12) (shm y m 12) (shd y m d 12) - thi y m d = 359)) := by
  have m1 := D.mlo
  have m2 := D.mhi
  have y1 := D.ylo
  have d1 := D.dlo
  have d2 := D.dhi
  have hy : y ≤ 9998 := by
    apply Classical.byContradiction
    intro c
    have := first_mono (show 9999 ≤ y by omega)
    rw [show first 9999 = 3651694 by decide] at this
    have := D.inY.1
    omega
  have S := D.shift 12 (by omega) (by omega)
  have e1 : shy y m 12 = y + 1 := by unfold shy; omega
  have e2 : shm y m 12 = m := by unfold shm; omega
  refine ⟨by omega, ?_, ?_⟩
  · apply Classical.byContradiction
    intro c
    have := S.order D (by omega)
    rw [e1] at this
    omega
  · have e3 : shd y m d 12 = min d (mlen (y + 1) m) := by unfold shd; rw [e1, e2]
    rw [e1, e2, e3]
    by_cases hm : m = 2
    · subst hm
      have l1 := lp_lo (y + 1)
      have l2 := lp_hi y
      have f1 : mlen (y + 1) 2 = 28 + lp (y + 1) := by simp [mlen]
      have f2 : mlen y 2 = 28 + lp y := by simp [mlen]
      rw [f1]
      rw [f2] at d2
      unfold thi
      omega
    · have f : mlen (y + 1) m = mlen y m := by unfold mlen; rw [if_neg hm, if_neg hm]
      rw [f, show min d (mlen y m) = d by omega]
      unfold thi
      omega
theorem years_walk (n y : Int) (w1 : (Lit.int .u16 y).wf = true) (w : World) :
    Calls Try.prog 5 #[.int .i64 n, .int .u16 y] w fun e w' => e = .returned (.bool true) ∧ w' = w := by
  obtain ⟨b1, b2⟩ := u16_bounds w1
  have hn := u_mod n (show (0 : Int) < 3651693 by omega)
  obtain ⟨N, hN⟩ : ∃ N, N = 1 + (IntKind.u64.wrap n).tmod 3651693 := ⟨_, rfl⟩
  obtain ⟨Y, hY⟩ : ∃ Y, Y = 1 + y % 9998 := ⟨_, rfl⟩
  have DA := date_first (y := Y) (by omega) (by omega)
  have DB := date_first (y := Y + 1) (by omega) (by omega)
  have HA := year_act Y
  have f1 := first_step Y
  have l1 := lp_lo Y
  obtain ⟨z, m, d, D⟩ := date_ex N (by omega) (by omega)
  obtain ⟨q1, q2, q3⟩ := year_later D (by omega)
  have q0 : 0 ≤ (z - 1) * 12 + m - 1 + 12 := by have := D.ylo; have := D.mlo; omega
  have S := D.shift 12 q0 q1
  have HQ : Hid (thi (shy z m 12) (shm z m 12) (shd z m d 12) - thi z m d = 360 ∨ (m = 2 ∧ d = 29 ∧ thi (shy z m 12) (shm z m 12) (shd z m d 12) - thi z m d = 359)) := q3
  have HY : Hid (Y = 1 + y % 9998) := hY
  have HN : Hid (N = 1 + (IntKind.u64.wrap n).tmod 3651693) := hN
  have t1 := thi_bounds D
  have t2 := thi_bounds S
  have yb : 1 ≤ Y ∧ Y ≤ 9998 := by omega
  have P3 : ∀ w, Calls Try.prog 6 #[.int .i64 3, .int .i64 (first Y + 1), .int .i64 (first (Y + 1) + 1)] w fun e w' => e = .returned (.tuple #[.int .i64 133590, .int .i64 133590, .int .i64 0]) ∧ w' = w := by
    intro w
    have := Part_3 _ _ _ _ _ _ _ _ w DA DB (by omega)
    rw [HA] at this
    exact this
  clear q3 hY hN f1 l1 HA
  go_enter Try.func5, Try.ntmps5
  go_wp2_with fail
  refine (awake04 _).mono ?_
  rintro e w1 ⟨rfl, rfl⟩
  go_wp2_with fail
  rw [← HY.out]
  refine (Number_ok _ Y 1 1 _ DA).mono ?_
  rintro e w1 ⟨rfl, rfl⟩
  go_wp2_with fail
  refine (Number_ok _ (Y + 1) 1 1 _ DB).mono ?_
  rintro e w1 ⟨rfl, rfl⟩
  go_wp2_with fail
  refine (P3 _).mono ?_
  rintro e w1 ⟨rfl, rfl⟩
  go_wp2_with fail
  rw [← HN.out]
  refine (Civil_ok N z m d _ D).mono ?_
  rintro e w1 ⟨rfl, rfl⟩
  go_wp2_with fail
  refine (AddMonths_ok N z m d 12 _ D q0 q1).mono ?_
  rintro e w1 ⟨rfl, rfl⟩
  go_wp2_with fail
  refine (Part_2 _ _ _ _ _ _ _ _ _ D S q2).mono ?_
  rintro e w1 ⟨rfl, rfl⟩
  rcases HQ.out with hq | ⟨hm, hd, hq⟩
  · rw [hq]
    clear HQ t1 t2 hq
    go_wp2_with fail
    go_ret
    exact ⟨rfl, rfl⟩
  · rw [hq]
    clear HQ t1 t2 hq D S q0 q1 q2
    subst hm
    subst hd
    go_wp2_with fail
    go_ret
    exact ⟨rfl, rfl⟩
end Go.Proofs.Ytmnnkipfciahmae
