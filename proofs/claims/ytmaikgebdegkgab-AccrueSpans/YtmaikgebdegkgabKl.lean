/- accrue: the walk of AccrueSpans. -/
import Derived.Test.YtmaikgebdegkgabKi
namespace Go.Proofs.Ytmaikgebdegkgab
open Go.RowKit
set_option linter.unusedVariables false

set_option maxRecDepth 100000 in
set_option maxHeartbeats 1000000 in
theorem spans_walk (p q s m f a b : Int) (w : World) (s1 : 0 ≤ s) (s2 : s ≤ 255) (m1 : 0 ≤ m) (m2 : m ≤ 255) (f1 : 0 ≤ f) (f2 : f ≤ 65535) (a1 : 0 ≤ a) (a2 : a ≤ 255) (b1 : 0 ≤ b) (b2 : b ≤ 255) :
    Calls Try.prog 3 #[.int .i64 p, .int .i64 q, .int .u8 s, .int .u8 m, .int .u16 f, .int .u8 a, .int .u8 b] w fun e w' => e = .returned (.bool true) ∧ Below w.heap.size w w' := by
  have a2' := um p 1000000000 (by omega) (by omega)
  have a3' := um q 1000000001 (by omega) (by omega)
  have HA2 := (show Hid _ from a2')
  have HA3 := (show Hid _ from a3')
  clear a2' a3'
  obtain ⟨how, hhow⟩ : ∃ how, s % 4 = how := ⟨_, rfl⟩
  obtain ⟨M, hM⟩ : ∃ M : Nat, m % 7 = M := ⟨(m % 7).toNat, by omega⟩
  have hM6 : (M : Int) ≤ 6 := by omega
  obtain ⟨NN, d, hd, hN, hP⟩ := part_ways how (by omega) (by omega)
  have HD := (show Hid _ from hd)
  have HN := (show Hid _ from hN)
  have HP := (show Hid _ from hP)
  clear hd hN hP
  go_enter Try.func3, Try.ntmps3
  go_wp2_with (go_at_call 4; refine (awake_ok _).mono ?_; rintro e w1 ⟨rfl, b1⟩; have B1 := (show Hid _ from b1); clear b1)
  generalize wrap64 ((IntKind.u64.wrap p).tmod 1000000000) = B at *
  generalize wrap64 ((IntKind.u64.wrap q).tmod 1000000001) = R at *
  have hB : 0 ≤ B ∧ B ≤ 10000000000000 := by have := HA2.out; omega
  have hR : 0 ≤ R ∧ R ≤ 1000000000 := by have := HA3.out; omega
  have x0 : 0 ≤ B * R := Int.mul_nonneg hB.1 hR.1
  have x1 : B * R ≤ 1000000000 * 1000000000 := Int.mul_le_mul (by have := HA2.out; omega) hR.2 hR.1 (by omega)
  have P0 := HP.out (1 + f) (1 + f) (by omega) (by omega) (by omega)
  have P1 := HP.out (1 + f) (1 + f + a) (by omega) (by omega) (by omega)
  have P2 := HP.out (1 + f) (1 + f + a + b) (by omega) (by omega) (by omega)
  have n1 := HN.out (1 + f) (1 + f + a) (by omega) (by omega) (by omega)
  have n2 := HN.out (1 + f) (1 + f + a + b) (by omega) (by omega) (by omega)
  have n3 := HN.out (1 + f + a) (1 + f + a + b) (by omega) (by omega) (by omega)
  obtain ⟨n, hn⟩ : ∃ n, n = NN (1 + f + a) - NN (1 + f) := ⟨_, rfl⟩
  obtain ⟨k, hk⟩ : ∃ k, k = NN (1 + f + a + b) - NN (1 + f) := ⟨_, rfl⟩
  have hnk : n ≤ k := by omega
  rw [← hn] at n1
  rw [← hk] at n2
  simp only [← hn] at P1
  simp only [← hk] at P2
  simp only [Int.sub_self] at P0
  have n1' : n ≤ 256200 := n1.2.1 (by omega)
  have n2' : k ≤ 256200 := n2.2.1 (by omega)
  have y1 : B * R * n ≤ 1000000000000000000 * 256200 := Int.mul_le_mul (by omega) n1' n1.1 (by omega)
  have y2 : B * R * k ≤ 1000000000000000000 * 256200 := Int.mul_le_mul (by omega) n2' n2.1 (by omega)
  have y3 : 0 ≤ B * R * n := Int.mul_nonneg x0 n1.1
  have y4 : B * R * n ≤ B * R * k := Int.mul_le_mul_of_nonneg_left hnk x0
  have hd := HD.out
  have r0 : rq (B * R * 0) (d * 1000) M = 0 := by rw [Int.mul_zero]; exact rq_zero _ _
  have r1 : rq (B * R * n) (d * 1000) M ≤ rq (B * R * k) (d * 1000) M := rq_mono y3 y4 (by omega)
  have r2 := rq_bound (mode := M) (show 0 ≤ B * R * k by omega) (show 0 < d * 1000 by omega)
  have r3 : B * R * k / (d * 1000) ≤ 3999999999999999999 := Int.ediv_le_of_le_mul (by omega) (by omega)
  have HB := (show Hid _ from hB)
  have HR := (show Hid _ from hR)
  have HP0 := (show Hid _ from P0)
  have HP1 := (show Hid _ from P1)
  have HP2 := (show Hid _ from P2)
  have HY := (show Hid _ from And.intro y1 y2)
  have HNN : Hid ((0 ≤ n ∧ n ≤ 1500000000) ∧ 0 ≤ k ∧ k ≤ 1500000000) := ⟨⟨n1.1, n1.2.2⟩, n2.1, n2.2.2⟩
  have HR0 := (show Hid _ from r0)
  have r4 : ((rq (B * R * k) (d * 1000) M : Nat) : Int) ≤ 4000000000000000000 := by omega
  obtain ⟨y, hy⟩ : ∃ y : Nat, y = rq (B * R * n) (d * 1000) M := ⟨_, rfl⟩
  obtain ⟨z, hz⟩ : ∃ z : Nat, z = rq (B * R * k) (d * 1000) M := ⟨_, rfl⟩
  rw [← hy] at r1
  rw [← hz] at r1 r4
  have HYY := (show Hid _ from hy)
  have HZZ := (show Hid _ from hz)
  have T3 := (show Hid _ from tr_new w1 [(0, R)] 1 rfl (by omega) (wf_one R hR) 26)
  have B3 := (show Hid _ from B1.out.alloc B1.out.size (.cells (tcs [(0, R)]).toArray 26))
  clear HA2 HA3 hB hR x0 x1 P0 P1 P2 n1 n2 n3 hn hk hnk n1' n2' y1 y2 y3 y4 hd r0 r2 r3 hy hz HN HP B1
  refine (Daily1 B R _ [(0, R)] how (1 + f) (1 + f) 0 d M _ T3.out HB.out (terr_one HR.out) (ysum_one B R HB.out.1) HR.out hM6 HP0.out (by omega) (by have := HD.out; omega) (by rw [Int.mul_zero]; omega) HD.out.1).mono ?_
  rintro e w4 ⟨rfl, b4⟩
  rw [HR0.out]
  have T4 := (show Hid _ from T3.out.step b4)
  have B4 := (show Hid _ from B3.out.trans (b4.mono B3.out.size))
  clear b4 T3 B3
  go_wp2_with fail
  refine (Daily1 B R _ [(0, R)] how (1 + f) (1 + f + a) n d M _ T4.out HB.out (terr_one HR.out) (ysum_one B R HB.out.1) HR.out hM6 HP1.out HNN.out.1 (by have := HD.out; omega) (by have := HY.out.1; omega) HD.out.1).mono ?_
  rintro e w5 ⟨rfl, b5⟩
  rw [← HYY.out]
  have T5 := (show Hid _ from T4.out.step b5)
  have B5 := (show Hid _ from B4.out.trans (b5.mono B4.out.size))
  clear b5 T4 B4
  go_wp2_with fail
  refine (Daily1 B R _ [(0, R)] how (1 + f) (1 + f + a + b) k d M _ T5.out HB.out (terr_one HR.out) (ysum_one B R HB.out.1) HR.out hM6 HP2.out HNN.out.2 (by have := HD.out; omega) (by have := HY.out.2; omega) HD.out.1).mono ?_
  rintro e w6 ⟨rfl, b6⟩
  rw [← HZZ.out]
  have B6 := (show Hid _ from B5.out.trans (b6.mono B5.out.size))
  clear b6 T5 B5
  have l1 : decide ((y : Int) ≤ (z : Int)) = true := decide_eq_true (by omega)
  have l0 : decide (0 ≤ (y : Int)) = true := decide_eq_true (by omega)
  go_wp2_with fail
  go_ret
  exact ⟨rfl, B6.out⟩
end Go.Proofs.Ytmaikgebdegkgab
