/- accrue: the walk of AccrueGrows. -/
import Derived.Test.YtmaikgebdegkgaaKh
namespace Go.Proofs.Ytmaikgebdegkgaa
open Go.RowKit
set_option linter.unusedVariables false

theorem wf_one (r : Int) (h : 0 ≤ r ∧ r ≤ 1000000000) : ∀ t ∈ [((0 : Int), r)], I64 t.1 ∧ I64 t.2 := by
  intro t ht; simp at ht; subst ht; exact ⟨by unfold I64; dsimp only; omega, by unfold I64; dsimp only; omega⟩
theorem wf_two (r c : Int) (h : 0 ≤ r ∧ r ≤ 1000000000) (hc : 1 ≤ c ∧ c ≤ 10000000000000) : ∀ t ∈ [((0 : Int), r), (c, r)], I64 t.1 ∧ I64 t.2 := by
  intro t ht; simp at ht; rcases ht with rfl | rfl
  · exact ⟨by unfold I64; dsimp only; omega, by unfold I64; dsimp only; omega⟩
  · exact ⟨by unfold I64; dsimp only; omega, by unfold I64; dsimp only; omega⟩
set_option maxRecDepth 100000 in
set_option maxHeartbeats 1000000 in
theorem grows_walk (p q r c m f : Int) (w : World) (m1 : 0 ≤ m) (m2 : m ≤ 255) (f1 : 0 ≤ f) (f2 : f ≤ 65535) :
    Calls Try.prog 5 #[.int .i64 p, .int .i64 q, .int .i64 r, .int .i64 c, .int .u8 m, .int .u16 f] w fun e w' => e = .returned (.bool true) ∧ Below w.heap.size w w' := by
  go_enter Try.func5, Try.ntmps5
  go_wp2_with (go_at_call 9; refine (awake_ok _).mono ?_; rintro e w1 ⟨rfl, b1⟩; have B1 := (show Hid _ from b1); clear b1)
  have a1 := um p 5000000000000 (by omega) (by omega)
  have a2 := um q 5000000000000 (by omega) (by omega)
  have a3 := um r 1000000001 (by omega) (by omega)
  have a4 := um c 5000000000000 (by omega) (by omega)
  generalize wrap64 ((IntKind.u64.wrap p).tmod 5000000000000) = A at *
  generalize wrap64 ((IntKind.u64.wrap q).tmod 5000000000000) = Z at *
  generalize wrap64 ((IntKind.u64.wrap r).tmod 1000000001) = R at *
  generalize wrap64 ((IntKind.u64.wrap c).tmod 5000000000000) = C0 at *
  rw [show wrap64 (A + Z) = A + Z by unfold wrap64; omega, show wrap64 (1 + C0) = 1 + C0 by unfold wrap64; omega]
  obtain ⟨M, hM⟩ : ∃ M : Nat, m % 7 = M := ⟨(m % 7).toNat, by omega⟩
  have hM6 : (M : Int) ≤ 6 := by omega
  rw [hM]
  clear hM
  obtain ⟨C, hC⟩ : ∃ C, C = 1 + C0 := ⟨_, rfl⟩
  obtain ⟨BB, hBB⟩ : ∃ BB, BB = A + Z := ⟨_, rfl⟩
  rw [← hC, ← hBB]
  have hR : 0 ≤ R ∧ R ≤ 1000000000 := by omega
  have hA : 0 ≤ A ∧ A ≤ 10000000000000 := by omega
  have hB : 0 ≤ BB ∧ BB ≤ 10000000000000 := by omega
  have hCb : 1 ≤ C ∧ C ≤ 10000000000000 := by omega
  have hAB : A ≤ BB := by omega
  clear hC hBB a1 a2 a3 a4
  have w1t := tr_new w1 [(0, R)] 1 rfl (by omega) (wf_one R hR) 25
  have w2t := tr_new (w1.alloc (.cells (tcs [(0, R)]).toArray 25)) [(0, R), (C, R)] 2 rfl (by omega) (wf_two R C hR hCb) 25
  have T1 := (show Hid _ from w1t.step ((Below.refl _ _).alloc (Nat.le_refl _) (.cells (tcs [(0, R), (C, R)]).toArray 25)))
  rw [show (w1.alloc (.cells (tcs [(0, R)]).toArray 25)).heap.size = w1.heap.size + 1 by simp] at w2t
  have T2 := (show Hid _ from w2t)
  have B2 := (show Hid _ from (B1.out.alloc B1.out.size (.cells (tcs [(0, R)]).toArray 25)).alloc (by have := B1.out.size; simp; omega) (.cells (tcs [(0, R), (C, R)]).toArray 25))
  clear w1t w2t B1
  have HP : Hid (∀ w, Calls Try.prog 32 #[.int .i64 1, .int .i64 (1 + f), .int .i64 (1 + f + 1)] w fun e w' => e = .returned (.tuple #[.int .i64 1, .int .i64 365, .int .i64 0]) ∧ w' = w) := fun w => by
    have h := cb.Part_1 (1 + f) (1 + f + 1) w (by omega) (by omega) (by omega)
    rw [show 1 + f + 1 - (1 + f) = 1 by omega] at h
    exact h
  have big : ∀ x : Int, 0 ≤ x → x ≤ 10000000000000 → x * R * 1 ≤ 1400000000000000000000000 := by
    intro x h1 h2
    have := Int.mul_le_mul h2 hR.2 hR.1 (by omega)
    omega
  have HBIG := (show Hid _ from big)
  have HR := (show Hid _ from hR)
  have HA := (show Hid _ from hA)
  have HB := (show Hid _ from hB)
  have HCB := (show Hid _ from hCb)
  have hmono : rq (A * R * 1) (365 * 1000) M ≤ rq (BB * R * 1) (365 * 1000) M := rq_mono (by have := Int.mul_nonneg hA.1 hR.1; omega) (by have := Int.mul_le_mul_of_nonneg_right hAB hR.1; omega) (by omega)
  have HMO := (show Hid _ from hmono)
  have bx := rq_bound (mode := M) (show 0 ≤ BB * R * 1 by have := Int.mul_nonneg hB.1 hR.1; omega) (show (0 : Int) < 365 * 1000 by omega)
  have by2 := big BB hB.1 hB.2
  have HBD : Hid (((rq (BB * R * 1) (365 * 1000) M : Nat) : Int) ≤ 4000000000000000000) := (by omega : ((rq (BB * R * 1) (365 * 1000) M : Nat) : Int) ≤ 4000000000000000000)
  clear big hR hA hB hCb hAB hmono bx by2
  refine (Daily1 A R _ [(0, R)] 1 (1 + f) (1 + f + 1) 1 365 M _ T1.out HA.out (terr_one HR.out) (ysum_one A R HA.out.1) HR.out hM6 HP.out (by omega) (by omega) (HBIG.out A HA.out.1 HA.out.2) (by omega)).mono ?_
  rintro e w3 ⟨rfl, b3⟩
  have T3 := (show Hid _ from T1.out.step b3)
  have T4 := (show Hid _ from T2.out.step b3)
  have B3 := (show Hid _ from B2.out.trans (b3.mono B2.out.size))
  clear T1 T2 B2 b3
  obtain ⟨x, hx⟩ : ∃ x : Nat, x = rq (A * R * 1) (365 * 1000) M := ⟨_, rfl⟩
  obtain ⟨y, hy⟩ : ∃ y : Nat, y = rq (BB * R * 1) (365 * 1000) M := ⟨_, rfl⟩
  rw [← hx] at HMO ⊢
  rw [← hy] at HMO HBD
  have HY := (show Hid _ from hy)
  clear hx hy
  go_wp2_with fail
  refine (Daily1 BB R _ [(0, R)] 1 (1 + f) (1 + f + 1) 1 365 M _ T3.out HB.out (terr_one HR.out) (ysum_one BB R HB.out.1) HR.out hM6 HP.out (by omega) (by omega) (HBIG.out BB HB.out.1 HB.out.2) (by omega)).mono ?_
  rintro e w4 ⟨rfl, b4⟩
  have T5 := (show Hid _ from T4.out.step b4)
  have B4 := (show Hid _ from B3.out.trans (b4.mono B3.out.size))
  rw [← HY.out]
  clear T3 T4 B3 b4
  go_wp2_with fail
  refine (Daily1 BB R _ [(0, R), (C, R)] 1 (1 + f) (1 + f + 1) 1 365 M _ T5.out HB.out (terr_two HR.out HCB.out) (ysum_two BB R C HB.out.1 HCB.out.1) HR.out hM6 HP.out (by omega) (by omega) (HBIG.out BB HB.out.1 HB.out.2) (by omega)).mono ?_
  rintro e w5 ⟨rfl, b5⟩
  have B5 := (show Hid _ from B4.out.trans (b5.mono B4.out.size))
  rw [← HY.out]
  clear T5 B4 b5
  have l1 : (x : Int) ≤ (y : Int) := by have := HMO.out; omega
  have l0 : (0 : Int) ≤ (x : Int) := by omega
  have d0 : decide (0 ≤ (x : Int)) = true := decide_eq_true l0
  have d1 : decide ((x : Int) ≤ (y : Int)) = true := decide_eq_true l1
  go_wp2_with fail
  go_ret
  exact ⟨rfl, B5.out⟩
end Go.Proofs.Ytmaikgebdegkgaa
