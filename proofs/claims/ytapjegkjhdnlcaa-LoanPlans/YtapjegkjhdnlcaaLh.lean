/- loan: the walk of LoanPlans. -/
import Derived.Test.YtapjegkjhdnlcaaLf
namespace Go.Proofs.Ytapjegkjhdnlcaa
open Go.RowKit
set_option linter.unusedVariables false

set_option maxRecDepth 100000 in
theorem plans_walk (p n k b : Int) (w : World) : Calls Try.prog 3 #[.int .i64 p, .int .i64 n, .int .i64 k, .int .i64 b] w fun e w' => e = .returned (.bool true) ∧ Below w.heap.size w w' := by
  obtain ⟨zs, r, hS, hD⟩ : ∃ (zs : List Int) (r : Int), (∀ w, Calls Try.prog 8 #[.int .i64 p, .int .i64 n] w fun e w' => (∃ v, e = .returned (.tuple #[v, .int .i64 r]) ∧ Is w' v zs) ∧ Below w.heap.size w w') ∧ (∀ w, Calls Try.prog 9 #[.int .i64 p, .int .i64 n] w fun e w' => (∃ v, e = .returned (.tuple #[v, .int .i64 r]) ∧ Is w' v zs) ∧ Below w.heap.size w w') := by
    by_cases h : Plan p n
    · obtain ⟨m, rfl⟩ := Int.eq_ofNat_of_zero_le (show 0 ≤ n by have := h.2.2.1; omega)
      refine ⟨plan p m m, 0, fun w => (Schedule_ok p m w h).mono ?_, fun w => (DocSchedule_ok p m w h).mono ?_⟩
      · rintro e w' ⟨⟨v, rfl, ho⟩, hb⟩; exact ⟨⟨v, rfl, ho.is⟩, hb⟩
      · rintro e w' ⟨⟨v, rfl, ho⟩, hb⟩; exact ⟨⟨v, rfl, ho.is⟩, hb⟩
    · refine ⟨[], 1, fun w => (Schedule_no p n w h).mono ?_, fun w => (DocSchedule_no p n w h).mono ?_⟩
      · rintro e w' ⟨rfl, rfl⟩; exact ⟨⟨_, rfl, is_nil _⟩, Below.refl _ _⟩
      · rintro e w' ⟨rfl, rfl⟩; exact ⟨⟨_, rfl, is_nil _⟩, Below.refl _ _⟩
  obtain ⟨l, s, hL, hE⟩ : ∃ l s : Int, (∀ w, Calls Try.prog 10 #[.int .i64 p, .int .i64 n, .int .i64 k] w fun e w' => e = .returned (.tuple #[.int .i64 l, .int .i64 s]) ∧ Below w.heap.size w w') ∧ (∀ w, Calls Try.prog 11 #[.int .i64 p, .int .i64 n, .int .i64 k] w fun e w' => e = .returned (.tuple #[.int .i64 l, .int .i64 s]) ∧ Below w.heap.size w w') := by
    by_cases h : Plan p n ∧ 0 ≤ k
    · obtain ⟨m, rfl⟩ := Int.eq_ofNat_of_zero_le (show 0 ≤ n by have := h.1.2.2.1; omega)
      refine ⟨lft p m k, 0, fun w => (Left_ok p m k w h.1 h.2).mono ?_, fun w => DocLeft_ok p m k w h.1 h.2⟩
      rintro e w' ⟨rfl, rfl⟩; exact ⟨rfl, (Below.refl _ _).drew⟩
    · refine ⟨0, 1, fun w => (Left_no p n k w h).mono ?_, fun w => (DocLeft_no p n k w h).mono ?_⟩
      · rintro e w' ⟨rfl, rfl⟩; exact ⟨rfl, Below.refl _ _⟩
      · rintro e w' ⟨rfl, rfl⟩; exact ⟨rfl, Below.refl _ _⟩
  obtain ⟨c, t, hA, hF⟩ : ∃ c t : Int, (∀ w, Calls Try.prog 12 #[.int .i64 p, .int .i64 n, .int .i64 k, .int .i64 b] w fun e w' => e = .returned (.tuple #[.int .i64 c, .int .i64 t]) ∧ Below w.heap.size w w') ∧ (∀ w, Calls Try.prog 13 #[.int .i64 p, .int .i64 n, .int .i64 k, .int .i64 b] w fun e w' => e = .returned (.tuple #[.int .i64 c, .int .i64 t]) ∧ Below w.heap.size w w') := by
    by_cases h : Plan p n ∧ 0 ≤ k
    · obtain ⟨m, rfl⟩ := Int.eq_ofNat_of_zero_le (show 0 ≤ n by have := h.1.2.2.1; omega)
      by_cases hb : 0 ≤ b ∧ b ≤ 10000000000000
      · refine ⟨max 0 (b - lft p m k), 0, fun w => (Arrears_ok p m k b w h.1 h.2 hb).mono ?_, fun w => DocArrears_ok p m k b w h.1 h.2 hb⟩
        rintro e w' ⟨rfl, rfl⟩; exact ⟨rfl, (Below.refl _ _).drew⟩
      · exact ⟨0, 1, fun w => Arrears_no p m k b w (fun h => hb ⟨h.2.2.1, h.2.2.2⟩), fun w => DocArrears_no2 p m k b w h.1 h.2 hb⟩
    · exact ⟨0, 1, fun w => Arrears_no p n k b w (fun h' => h ⟨h'.1, h'.2.1⟩), fun w => DocArrears_no1 p n k b w h⟩
  have HS := (show Hid _ from hS)
  have HD := (show Hid _ from hD)
  have HL := (show Hid _ from hL)
  have HE := (show Hid _ from hE)
  have HA := (show Hid _ from hA)
  have HF := (show Hid _ from hF)
  clear hS hD hL hE hA hF
  go_enter Try.func3, Try.ntmps3
  go_wp2_with fail
  refine (HS.out _).mono ?_
  rintro e w1 ⟨⟨v, rfl, i1⟩, b1⟩
  have I1 := (show Hid _ from i1)
  have B1 := (show Hid _ from b1)
  clear i1 b1
  go_wp2_with fail
  refine (HD.out _).mono ?_
  rintro e w2 ⟨⟨u, rfl, i2⟩, b2⟩
  have I2 := (show Hid _ from I1.out.step b2)
  have J2 := (show Hid _ from i2)
  have B2 := (show Hid _ from B1.out.trans (b2.mono B1.out.size))
  clear i2 b2 I1 B1
  go_wp2_with fail
  refine (HL.out _).mono ?_
  rintro e w3 ⟨rfl, b3⟩
  have I3 := (show Hid _ from I2.out.step b3)
  have J3 := (show Hid _ from J2.out.step b3)
  have B3 := (show Hid _ from B2.out.trans (b3.mono B2.out.size))
  clear b3 I2 J2 B2
  go_wp2_with fail
  refine (HE.out _).mono ?_
  rintro e w4 ⟨rfl, b4⟩
  have I4 := (show Hid _ from I3.out.step b4)
  have J4 := (show Hid _ from J3.out.step b4)
  have B4 := (show Hid _ from B3.out.trans (b4.mono B3.out.size))
  clear b4 I3 J3 B3
  go_wp2_with fail
  refine (HA.out _).mono ?_
  rintro e w5 ⟨rfl, b5⟩
  have I5 := (show Hid _ from I4.out.step b5)
  have J5 := (show Hid _ from J4.out.step b5)
  have B5 := (show Hid _ from B4.out.trans (b5.mono B4.out.size))
  clear b5 I4 J4 B4
  go_wp2_with fail
  refine (HF.out _).mono ?_
  rintro e w6 ⟨rfl, b6⟩
  have I6 := (show Hid _ from I5.out.step b6)
  have J6 := (show Hid _ from J5.out.step b6)
  have B6 := (show Hid _ from B5.out.trans (b6.mono B5.out.size))
  clear b6 I5 J5 B5
  go_wp2_with fail
  refine (awake_ok _).mono ?_
  rintro e w7 ⟨rfl, b7⟩
  have I7 := (show Hid _ from I6.out.step b7)
  have J7 := (show Hid _ from J6.out.step b7)
  have B7 := (show Hid _ from B6.out.trans (b7.mono B6.out.size))
  clear b7 I6 J6 B6
  go_wp2_with fail
  refine (sameInts_ok v u zs _ I7.out J7.out).mono ?_
  rintro e w8 ⟨rfl, b8⟩
  have B8 := (show Hid _ from B7.out.trans (b8.mono B7.out.size))
  clear b8 I7 J7 B7
  go_wp2_with fail
  go_ret
  exact ⟨rfl, B8.out⟩
end Go.Proofs.Ytapjegkjhdnlcaa
