/- The contract of math/bits' Div64 (the library's own Go text, Knuth's division by halves). -/
import Derived.Test.YtgcmbiahakampaaMd
namespace Go.Proofs.Ytgcmbiahakampaa
open Go.RowKit
set_option linter.unusedVariables false

set_option maxHeartbeats 1000000 in
set_option maxRecDepth 100000 in
theorem div64_big (hi lo y : Nat) (w : World) (h1 : hi < y) (h2 : y ≤ 18446744073709551615) (h3 : lo ≤ 18446744073709551615) (h0 : 0 < hi) :
    Calls Try.prog 32 #[.int .u64 hi, .int .u64 lo, .int .u64 y] w fun e w' => e = .returned (.tuple #[.int .u64 (((hi * 18446744073709551616 + lo) / y : Nat) : Int), .int .u64 (((hi * 18446744073709551616 + lo) % y : Nat) : Int)]) ∧ w' = w := by
  have c0 : ((y : Int) == 0) = false := beq_eq_false_iff_ne.2 (by omega)
  have c1 : ((hi : Int) == 0) = false := beq_eq_false_iff_ne.2 (by omega)
  have c2 : ¬ (y : Int) ≤ hi := by omega
  have hb : bl y ≤ 64 := bl_le64 y (by omega)
  obtain ⟨Y, N, L, eY, eN, eL, Ylo, Yhi, hL, hN, quo, rem⟩ := begin_div h1 (by omega : y < 18446744073709551616) (by omega : lo < 18446744073709551616)
  obtain ⟨Y1, hY1⟩ : ∃ x, x = Y / 4294967296 := ⟨_, rfl⟩
  obtain ⟨Y0, hY0⟩ : ∃ x, x = Y % 4294967296 := ⟨_, rfl⟩
  obtain ⟨L1, hL1⟩ : ∃ x, x = L / 4294967296 := ⟨_, rfl⟩
  obtain ⟨L0, hL0⟩ : ∃ x, x = L % 4294967296 := ⟨_, rfl⟩
  have YY : Hid (Y = Y1 * 4294967296 + Y0) := by show Y = _; omega
  have LL : Hid (L = L1 * 4294967296 + L0) := by show L = _; omega
  have eY1 : (Y : Int) / 4294967296 = (Y1 : Int) := by omega
  have eY0 : bits .and .u64 (Y : Int) 4294967295 = (Y0 : Int) := by rw [hY0]; exact maskN Y Yhi
  have eL1 : (L : Int) / 4294967296 = (L1 : Int) := by omega
  have eL0 : bits .and .u64 (L : Int) 4294967295 = (L0 : Int) := by rw [hL0]; exact maskN L hL
  have b1 : Hid (2147483648 ≤ Y1) := by show 2147483648 ≤ Y1; omega
  have b1i : 2147483648 ≤ (Y1 : Int) := by have := b1.out; omega
  have b2 : Hid (Y1 < 4294967296) := by show Y1 < 4294967296; omega
  have b2i : (Y1 : Int) < 4294967296 := by have := b2.out; omega
  have b3 : Hid (Y0 < 4294967296) := by show Y0 < 4294967296; omega
  have b3i : (Y0 : Int) < 4294967296 := by have := b3.out; omega
  have b4 : Hid (L1 < 4294967296) := by show L1 < 4294967296; omega
  have b4i : (L1 : Int) < 4294967296 := by have := b4.out; omega
  have b5 : Hid (L0 < 4294967296) := by show L0 < 4294967296; omega
  have b5i : (L0 : Int) < 4294967296 := by have := b5.out; omega
  have b6 : ¬ (Y1 : Int) = 0 := by omega
  have eq1 : IntKind.u64.wrap ((N : Int) / (Y1 : Int)) = ((N / Y1 : Nat) : Int) := wrap_ediv (by omega)
  have er1 : IntKind.u64.wrap ((N : Int) - IntKind.u64.wrap (((N / Y1 : Nat) : Int) * (Y1 : Int))) = ((N % Y1 : Nat) : Int) := wrap_rest (by omega)
  have HQ : Hid ((hi * 18446744073709551616 + lo) / y = (N * 18446744073709551616 + L) / Y) := quo.symm
  have HR : Hid ((hi * 18446744073709551616 + lo) % y = (N * 18446744073709551616 + L) % Y / 2 ^ (64 - bl y)) := rem.symm
  obtain ⟨q, hq⟩ : ∃ x, x = N / Y1 := ⟨_, rfl⟩
  obtain ⟨r, hr⟩ : ∃ x, x = N % Y1 := ⟨_, rfl⟩
  rw [← hq] at eq1 er1
  rw [← hr] at er1
  obtain ⟨Q1, hQ1⟩ : ∃ x, x = (N * 4294967296 + L1) / (Y1 * 4294967296 + Y0) := ⟨_, rfl⟩
  have i1 : q * Y1 + r = N := by rw [hq, hr, Nat.mul_comm]; exact Nat.div_add_mod N Y1
  have i2 : Q1 ≤ q := by rw [hq, hQ1]; exact guess_ge b1.out b4.out
  have i3 : (r : Int) < 4294967296 := by have := Nat.mod_lt N (show 0 < Y1 by omega); omega
  have i4' : q < 8589934592 := by rw [hq]; apply Nat.div_lt_of_lt_mul; have : 2147483648 * 8589934592 ≤ Y1 * 8589934592 := Nat.mul_le_mul_right _ b1.out; omega
  have i4 : (q : Int) < 8589934592 := by omega
  have I1 : Hid (q * Y1 + r = N) := i1
  have HQ1 : Hid (Q1 = (N * 4294967296 + L1) / (Y1 * 4294967296 + Y0)) := hQ1
  have HN : Hid (N < Y1 * 4294967296 + Y0) := by show N < _; have := YY.out; omega
  -- the second half
  obtain ⟨R1, hR1⟩ : ∃ x, x = (N * 4294967296 + L1) % Y := ⟨_, rfl⟩
  have YY' : Y1 * 4294967296 + Y0 = Y := YY.out.symm
  have kU : Hid (IntKind.u64.wrap (IntKind.u64.wrap (IntKind.u64.wrap ((N : Int) * 4294967296) + (L1 : Int)) - IntKind.u64.wrap ((Q1 : Int) * (Y : Int))) = (R1 : Int)) := by rw [hR1]; exact left_wrap Yhi (by rw [hQ1, YY']) (by omega)
  have lR1 : R1 < Y := by rw [hR1]; exact Nat.mod_lt _ (by omega)
  have lR1i : (R1 : Int) < (Y : Int) := by omega
  obtain ⟨q2, hq2⟩ : ∃ x, x = R1 / Y1 := ⟨_, rfl⟩
  obtain ⟨r2, hr2⟩ : ∃ x, x = R1 % Y1 := ⟨_, rfl⟩
  have kq2 : Hid (IntKind.u64.wrap ((R1 : Int) / (Y1 : Int)) = (q2 : Int)) := by rw [hq2]; exact wrap_ediv (by omega)
  have kr2 : Hid (IntKind.u64.wrap ((R1 : Int) - IntKind.u64.wrap ((q2 : Int) * (Y1 : Int))) = (r2 : Int)) := by rw [hq2, hr2]; exact wrap_rest (by omega)
  obtain ⟨Q0, hQ0⟩ : ∃ x, x = (R1 * 4294967296 + L0) / (Y1 * 4294967296 + Y0) := ⟨_, rfl⟩
  have J1 : Hid (q2 * Y1 + r2 = R1) := by show q2 * Y1 + r2 = R1; rw [hq2, hr2, Nat.mul_comm]; exact Nat.div_add_mod R1 Y1
  have j2 : Q0 ≤ q2 := by rw [hq2, hQ0]; exact guess_ge b1.out b5.out
  have j3 : (r2 : Int) < 4294967296 := by have := Nat.mod_lt R1 (show 0 < Y1 by have := b1.out; omega); have := b2.out; omega
  have j4' : q2 < 8589934592 := by rw [hq2]; apply Nat.div_lt_of_lt_mul; have : 2147483648 * 8589934592 ≤ Y1 * 8589934592 := Nat.mul_le_mul_right _ b1.out; omega
  have j4 : (q2 : Int) < 8589934592 := by omega
  obtain ⟨R0, hR0⟩ : ∃ x, x = (R1 * 4294967296 + L0) % Y := ⟨_, rfl⟩
  have kF : Hid (IntKind.u64.wrap (IntKind.u64.wrap (IntKind.u64.wrap ((R1 : Int) * 4294967296) + (L0 : Int)) - IntKind.u64.wrap ((Q0 : Int) * (Y : Int))) = (R0 : Int)) := by rw [hR0]; exact left_wrap Yhi (by rw [hQ0, YY']) (by omega)
  have HQ0 : Hid (Q0 = (R1 * 4294967296 + L0) / (Y1 * 4294967296 + Y0)) := hQ0
  have HR1 : Hid (R1 < Y1 * 4294967296 + Y0) := by show R1 < _; omega
  have lQ1 : (Q1 : Int) < 4294967296 := by have := digit_lt HN.out b4.out; rw [hQ1]; omega
  have lQ0 : (Q0 : Int) < 4294967296 := by have := digit_lt HR1.out b5.out; rw [hQ0]; omega
  have fQ : Hid ((Q1 : Int) * 4294967296 + (Q0 : Int) = (((hi * 18446744073709551616 + lo) / y : Nat) : Int)) := by
    show _ = _
    rw [HQ.out, LL.out, (two_digits (by omega) hN b4.out b5.out).1, ← hR1, hQ1, hQ0, YY']
    omega
  have fR : Hid ((R0 : Int) / 2 ^ (64 - bl y) = (((hi * 18446744073709551616 + lo) % y : Nat) : Int)) := by
    show _ = _
    rw [HR.out, LL.out, (two_digits (by omega) hN b4.out b5.out).2, ← hR1, ← hR0, castpow, Int.natCast_ediv]
  clear i4' quo rem hY1 hY0 hL1 hL0 hq hr hQ1 i1 YY' hR1 lR1 hq2 hr2 hQ0 j4' hR0
  go_enter Try.func32, Try.ntmps32
  go_wp2_with (go_at_call 49; refine (lead64_any _ _ ⟨by omega, by omega⟩).mono ?_; rintro e w' ⟨rfl, rfl⟩)
  clear eY eN eL eY1 eY0 eL1 eL0 eq1 er1
  go_loop [15, 16] (fun a b => ∃ q r : Nat, a = .int .u64 q ∧ b = .int .u64 r ∧ Hid (q * Y1 + r = N) ∧ Q1 ≤ q ∧ (q : Int) < 8589934592 ∧ (r : Int) < 4294967296) (fun a _ => (intOf a).toNat)
  case atStart => exact ⟨q, r, rfl, rfl, I1, i2, i4, i3⟩
  case round =>
    clear i2 i3 i4 I1
    obtain ⟨p, s, rfl, rfl, I1, i2, i4, i3⟩ := hrel
    by_cases t1 : (4294967296 : Int) ≤ (p : Int)
    · have j1 : Q1 + 1 ≤ p := by rw [HQ1.out]; exact guess_lt b1.out I1.out HN.out b4.out (Or.inl (by omega))
      by_cases t3 : (4294967296 : Int) ≤ (s : Int) + (Y1 : Int)
      · have hp : (p : Int) - 1 = (Q1 : Int) := by
          have := guess_big (L1 := L1) (q := p - 1) (r := s + Y1) b1.out (by
            have := I1.out
            have e : p * Y1 = (p - 1) * Y1 + Y1 := by rw [← Nat.succ_mul]; congr 1; omega
            omega) HN.out b3.out (by rw [← HQ1.out]; omega) (by omega)
          rw [← HQ1.out] at this
          omega
        have eU := kU.out
        have eq2 := kq2.out
        have er2 := kr2.out
        go_wp2
        clear eU eq2 er2
        go_loop [18, 16] (fun a b => ∃ q r : Nat, a = .int .u64 q ∧ b = .int .u64 r ∧ Hid (q * Y1 + r = R1) ∧ Q0 ≤ q ∧ (q : Int) < 8589934592 ∧ (r : Int) < 4294967296) (fun a _ => (intOf a).toNat)
        case atStart => exact ⟨q2, r2, rfl, rfl, J1, j2, j4, j3⟩
        case round =>
          clear j2 j3 j4 J1 t1 t3 j1 hp i2 i3 i4 I1
          obtain ⟨p, s, rfl, rfl, I1, i2, i4, i3⟩ := hrel
          by_cases t1 : (4294967296 : Int) ≤ (p : Int)
          · have j1 : Q0 + 1 ≤ p := by rw [HQ0.out]; exact guess_lt b1.out I1.out HR1.out b5.out (Or.inl (by omega))
            by_cases t3 : (4294967296 : Int) ≤ (s : Int) + (Y1 : Int)
            · have hp : (p : Int) - 1 = (Q0 : Int) := by
                have := guess_big (L1 := L0) (q := p - 1) (r := s + Y1) b1.out (by
                  have := I1.out
                  have e : p * Y1 = (p - 1) * Y1 + Y1 := by rw [← Nat.succ_mul]; congr 1; omega
                  omega) HR1.out b3.out (by rw [← HQ0.out]; omega) (by omega)
                rw [← HQ0.out] at this
                omega
              have eF := kF.out
              go_wp2
              rw [fQ.out, fR.out]
              go_ret2
              exact ⟨rfl, rfl⟩
            · have I2 : Hid ((p - 1) * Y1 + (s + Y1) = R1) := by
                show (p - 1) * Y1 + (s + Y1) = R1
                have := I1.out
                have e : p * Y1 = (p - 1) * Y1 + Y1 := by rw [← Nat.succ_mul]; congr 1; omega
                omega
              go_wp2
              go_round
              case rel => exact ⟨p - 1, s + Y1, by go_num, by go_num, I2, by omega, by omega, by omega⟩
              case measure => simp [intOf]; omega
          · obtain ⟨A, hA⟩ : ∃ x, x = p * Y0 := ⟨_, rfl⟩
            have eA : IntKind.u64.wrap ((p : Int) * (Y0 : Int)) = (A : Int) := by rw [hA]; exact wrap_mul (by omega) b3.out
            have hA2 : Hid (A = p * Y0) := hA
            clear hA
            by_cases t2 : 4294967296 * (s : Int) + (L0 : Int) < (A : Int)
            · have j1 : Q0 + 1 ≤ p := by rw [HQ0.out]; exact guess_lt b1.out I1.out HR1.out b5.out (Or.inr (by rw [← hA2.out]; omega))
              by_cases t3 : (4294967296 : Int) ≤ (s : Int) + (Y1 : Int)
              · have hp : (p : Int) - 1 = (Q0 : Int) := by
                  have := guess_big (L1 := L0) (q := p - 1) (r := s + Y1) b1.out (by
                    have := I1.out
                    have e : p * Y1 = (p - 1) * Y1 + Y1 := by rw [← Nat.succ_mul]; congr 1; omega
                    omega) HR1.out b3.out (by rw [← HQ0.out]; omega) (by omega)
                  rw [← HQ0.out] at this
                  omega
                have eF := kF.out
                go_wp2
                rw [fQ.out, fR.out]
                go_ret2
                exact ⟨rfl, rfl⟩
              · have I2 : Hid ((p - 1) * Y1 + (s + Y1) = R1) := by
                  show (p - 1) * Y1 + (s + Y1) = R1
                  have := I1.out
                  have e : p * Y1 = (p - 1) * Y1 + Y1 := by rw [← Nat.succ_mul]; congr 1; omega
                  omega
                go_wp2
                go_round
                case rel => exact ⟨p - 1, s + Y1, by go_num, by go_num, I2, by omega, by omega, by omega⟩
                case measure => simp [intOf]; omega
            · have hp : p = Q0 := by rw [HQ0.out]; exact guess_eq b1.out I1.out (by rw [← HQ0.out]; exact i2) (by rw [← hA2.out]; omega)
              subst hp
              have eF := kF.out
              go_wp2
              rw [fQ.out, fR.out]
              go_ret2
              exact ⟨rfl, rfl⟩
      · have I2 : Hid ((p - 1) * Y1 + (s + Y1) = N) := by
          show (p - 1) * Y1 + (s + Y1) = N
          have := I1.out
          have e : p * Y1 = (p - 1) * Y1 + Y1 := by rw [← Nat.succ_mul]; congr 1; omega
          omega
        go_wp2
        go_round
        case rel => exact ⟨p - 1, s + Y1, by go_num, by go_num, I2, by omega, by omega, by omega⟩
        case measure => simp [intOf]; omega
    · obtain ⟨A, hA⟩ : ∃ x, x = p * Y0 := ⟨_, rfl⟩
      have eA : IntKind.u64.wrap ((p : Int) * (Y0 : Int)) = (A : Int) := by rw [hA]; exact wrap_mul (by omega) b3.out
      have hA2 : Hid (A = p * Y0) := hA
      clear hA
      by_cases t2 : 4294967296 * (s : Int) + (L1 : Int) < (A : Int)
      · have j1 : Q1 + 1 ≤ p := by rw [HQ1.out]; exact guess_lt b1.out I1.out HN.out b4.out (Or.inr (by rw [← hA2.out]; omega))
        by_cases t3 : (4294967296 : Int) ≤ (s : Int) + (Y1 : Int)
        · have hp : (p : Int) - 1 = (Q1 : Int) := by
            have := guess_big (L1 := L1) (q := p - 1) (r := s + Y1) b1.out (by
              have := I1.out
              have e : p * Y1 = (p - 1) * Y1 + Y1 := by rw [← Nat.succ_mul]; congr 1; omega
              omega) HN.out b3.out (by rw [← HQ1.out]; omega) (by omega)
            rw [← HQ1.out] at this
            omega
          have eU := kU.out
          have eq2 := kq2.out
          have er2 := kr2.out
          go_wp2
          clear eU eq2 er2
          go_loop [18, 16] (fun a b => ∃ q r : Nat, a = .int .u64 q ∧ b = .int .u64 r ∧ Hid (q * Y1 + r = R1) ∧ Q0 ≤ q ∧ (q : Int) < 8589934592 ∧ (r : Int) < 4294967296) (fun a _ => (intOf a).toNat)
          case atStart => exact ⟨q2, r2, rfl, rfl, J1, j2, j4, j3⟩
          case round =>
            clear j2 j3 j4 J1 t1 t3 j1 hp i2 i3 i4 I1
            obtain ⟨p, s, rfl, rfl, I1, i2, i4, i3⟩ := hrel
            by_cases t1 : (4294967296 : Int) ≤ (p : Int)
            · have j1 : Q0 + 1 ≤ p := by rw [HQ0.out]; exact guess_lt b1.out I1.out HR1.out b5.out (Or.inl (by omega))
              by_cases t3 : (4294967296 : Int) ≤ (s : Int) + (Y1 : Int)
              · have hp : (p : Int) - 1 = (Q0 : Int) := by
                  have := guess_big (L1 := L0) (q := p - 1) (r := s + Y1) b1.out (by
                    have := I1.out
                    have e : p * Y1 = (p - 1) * Y1 + Y1 := by rw [← Nat.succ_mul]; congr 1; omega
                    omega) HR1.out b3.out (by rw [← HQ0.out]; omega) (by omega)
                  rw [← HQ0.out] at this
                  omega
                have eF := kF.out
                go_wp2
                rw [fQ.out, fR.out]
                go_ret2
                exact ⟨rfl, rfl⟩
              · have I2 : Hid ((p - 1) * Y1 + (s + Y1) = R1) := by
                  show (p - 1) * Y1 + (s + Y1) = R1
                  have := I1.out
                  have e : p * Y1 = (p - 1) * Y1 + Y1 := by rw [← Nat.succ_mul]; congr 1; omega
                  omega
                go_wp2
                go_round
                case rel => exact ⟨p - 1, s + Y1, by go_num, by go_num, I2, by omega, by omega, by omega⟩
                case measure => simp [intOf]; omega
            · obtain ⟨A, hA⟩ : ∃ x, x = p * Y0 := ⟨_, rfl⟩
              have eA : IntKind.u64.wrap ((p : Int) * (Y0 : Int)) = (A : Int) := by rw [hA]; exact wrap_mul (by omega) b3.out
              have hA2 : Hid (A = p * Y0) := hA
              clear hA
              by_cases t2 : 4294967296 * (s : Int) + (L0 : Int) < (A : Int)
              · have j1 : Q0 + 1 ≤ p := by rw [HQ0.out]; exact guess_lt b1.out I1.out HR1.out b5.out (Or.inr (by rw [← hA2.out]; omega))
                by_cases t3 : (4294967296 : Int) ≤ (s : Int) + (Y1 : Int)
                · have hp : (p : Int) - 1 = (Q0 : Int) := by
                    have := guess_big (L1 := L0) (q := p - 1) (r := s + Y1) b1.out (by
                      have := I1.out
                      have e : p * Y1 = (p - 1) * Y1 + Y1 := by rw [← Nat.succ_mul]; congr 1; omega
                      omega) HR1.out b3.out (by rw [← HQ0.out]; omega) (by omega)
                    rw [← HQ0.out] at this
                    omega
                  have eF := kF.out
                  go_wp2
                  rw [fQ.out, fR.out]
                  go_ret2
                  exact ⟨rfl, rfl⟩
                · have I2 : Hid ((p - 1) * Y1 + (s + Y1) = R1) := by
                    show (p - 1) * Y1 + (s + Y1) = R1
                    have := I1.out
                    have e : p * Y1 = (p - 1) * Y1 + Y1 := by rw [← Nat.succ_mul]; congr 1; omega
                    omega
                  go_wp2
                  go_round
                  case rel => exact ⟨p - 1, s + Y1, by go_num, by go_num, I2, by omega, by omega, by omega⟩
                  case measure => simp [intOf]; omega
              · have hp : p = Q0 := by rw [HQ0.out]; exact guess_eq b1.out I1.out (by rw [← HQ0.out]; exact i2) (by rw [← hA2.out]; omega)
                subst hp
                have eF := kF.out
                go_wp2
                rw [fQ.out, fR.out]
                go_ret2
                exact ⟨rfl, rfl⟩
        · have I2 : Hid ((p - 1) * Y1 + (s + Y1) = N) := by
            show (p - 1) * Y1 + (s + Y1) = N
            have := I1.out
            have e : p * Y1 = (p - 1) * Y1 + Y1 := by rw [← Nat.succ_mul]; congr 1; omega
            omega
          go_wp2
          go_round
          case rel => exact ⟨p - 1, s + Y1, by go_num, by go_num, I2, by omega, by omega, by omega⟩
          case measure => simp [intOf]; omega
      · have hp : p = Q1 := by rw [HQ1.out]; exact guess_eq b1.out I1.out (by rw [← HQ1.out]; exact i2) (by rw [← hA2.out]; omega)
        subst hp
        have eU := kU.out
        have eq2 := kq2.out
        have er2 := kr2.out
        go_wp2
        clear eU eq2 er2
        go_loop [18, 16] (fun a b => ∃ q r : Nat, a = .int .u64 q ∧ b = .int .u64 r ∧ Hid (q * Y1 + r = R1) ∧ Q0 ≤ q ∧ (q : Int) < 8589934592 ∧ (r : Int) < 4294967296) (fun a _ => (intOf a).toNat)
        case atStart => exact ⟨q2, r2, rfl, rfl, J1, j2, j4, j3⟩
        case round =>
          clear j2 j3 j4 J1 t1 t2 i2 i3 i4 I1 eA hA2
          obtain ⟨p, s, rfl, rfl, I1, i2, i4, i3⟩ := hrel
          by_cases t1 : (4294967296 : Int) ≤ (p : Int)
          · have j1 : Q0 + 1 ≤ p := by rw [HQ0.out]; exact guess_lt b1.out I1.out HR1.out b5.out (Or.inl (by omega))
            by_cases t3 : (4294967296 : Int) ≤ (s : Int) + (Y1 : Int)
            · have hp : (p : Int) - 1 = (Q0 : Int) := by
                have := guess_big (L1 := L0) (q := p - 1) (r := s + Y1) b1.out (by
                  have := I1.out
                  have e : p * Y1 = (p - 1) * Y1 + Y1 := by rw [← Nat.succ_mul]; congr 1; omega
                  omega) HR1.out b3.out (by rw [← HQ0.out]; omega) (by omega)
                rw [← HQ0.out] at this
                omega
              have eF := kF.out
              go_wp2
              rw [fQ.out, fR.out]
              go_ret2
              exact ⟨rfl, rfl⟩
            · have I2 : Hid ((p - 1) * Y1 + (s + Y1) = R1) := by
                show (p - 1) * Y1 + (s + Y1) = R1
                have := I1.out
                have e : p * Y1 = (p - 1) * Y1 + Y1 := by rw [← Nat.succ_mul]; congr 1; omega
                omega
              go_wp2
              go_round
              case rel => exact ⟨p - 1, s + Y1, by go_num, by go_num, I2, by omega, by omega, by omega⟩
              case measure => simp [intOf]; omega
          · obtain ⟨A, hA⟩ : ∃ x, x = p * Y0 := ⟨_, rfl⟩
            have eA : IntKind.u64.wrap ((p : Int) * (Y0 : Int)) = (A : Int) := by rw [hA]; exact wrap_mul (by omega) b3.out
            have hA2 : Hid (A = p * Y0) := hA
            clear hA
            by_cases t2 : 4294967296 * (s : Int) + (L0 : Int) < (A : Int)
            · have j1 : Q0 + 1 ≤ p := by rw [HQ0.out]; exact guess_lt b1.out I1.out HR1.out b5.out (Or.inr (by rw [← hA2.out]; omega))
              by_cases t3 : (4294967296 : Int) ≤ (s : Int) + (Y1 : Int)
              · have hp : (p : Int) - 1 = (Q0 : Int) := by
                  have := guess_big (L1 := L0) (q := p - 1) (r := s + Y1) b1.out (by
                    have := I1.out
                    have e : p * Y1 = (p - 1) * Y1 + Y1 := by rw [← Nat.succ_mul]; congr 1; omega
                    omega) HR1.out b3.out (by rw [← HQ0.out]; omega) (by omega)
                  rw [← HQ0.out] at this
                  omega
                have eF := kF.out
                go_wp2
                rw [fQ.out, fR.out]
                go_ret2
                exact ⟨rfl, rfl⟩
              · have I2 : Hid ((p - 1) * Y1 + (s + Y1) = R1) := by
                  show (p - 1) * Y1 + (s + Y1) = R1
                  have := I1.out
                  have e : p * Y1 = (p - 1) * Y1 + Y1 := by rw [← Nat.succ_mul]; congr 1; omega
                  omega
                go_wp2
                go_round
                case rel => exact ⟨p - 1, s + Y1, by go_num, by go_num, I2, by omega, by omega, by omega⟩
                case measure => simp [intOf]; omega
            · have hp : p = Q0 := by rw [HQ0.out]; exact guess_eq b1.out I1.out (by rw [← HQ0.out]; exact i2) (by rw [← hA2.out]; omega)
              subst hp
              have eF := kF.out
              go_wp2
              rw [fQ.out, fR.out]
              go_ret2
              exact ⟨rfl, rfl⟩
end Go.Proofs.Ytgcmbiahakampaa
