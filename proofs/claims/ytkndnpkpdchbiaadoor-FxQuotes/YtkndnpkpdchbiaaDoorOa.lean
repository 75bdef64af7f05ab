/- fx: the contracts of times, isRate, Quote, Cross, and of the document's over, DocQuote, DocCross. -/
import Derived.Test.YtkndnpkpdchbiaaDoorBc
import Derived.Test.YtkndnpkpdchbiaaDoorUu
import Derived.Test.YtkndnpkpdchbiaaDoorVd
namespace Go.Proofs.YtkndnpkpdchbiaaDoor
open Go.RowKit
set_option linter.unusedVariables false
attribute [local go_sem] ext_cell ext_frozen ext_drew ext_of_drew ext_of_drewN ext_setCell ext_lt ext_lt1 ext_lt2 ext_lt3 lt_n2 lt_n3 lt_n4 lt_n5 lt_n6

theorem in_small {x : Int} (h1 : 0 ≤ x) (h2 : x ≤ 1000000000000000000000000000000000000) : InR x := by
  constructor <;> (rw [M127_eq]; omega)
theorem rnd_flo (x y : Nat) : rnd false x y 0 = x / y ∧ rnd false x y 2 = x / y := by
  constructor <;> (unfold rnd; by_cases h : x % y = 0 <;> simp [away, h])
theorem rnd_cei (x y : Nat) : rnd false x y 1 = rnd false x y 3 := by
  unfold rnd; by_cases h : x % y = 0 <;> simp [away, h]
theorem rnd_bd (x y mode : Nat) : x / y ≤ rnd false x y mode ∧ rnd false x y mode ≤ x / y + 1 := by
  unfold rnd; split <;> omega
theorem mv_rnd (r n d mode : Nat) : mv (r : Int) 0 (n : Int) d 0 mode = ((rnd false (r * n) (10 ^ d) mode : Nat) : Int) := by
  have e := rnd_shift false (r * n) 1 0 d mode
  rw [Nat.pow_zero, Nat.mul_one, Nat.one_mul] at e
  unfold mv sv
  rw [decide_eq_false (show ¬ (r : Int) < 0 by omega), decide_eq_false (show ¬ (n : Int) < 0 by omega), Int.natAbs_natCast, Int.natAbs_natCast, e]
  simp
set_option maxHeartbeats 1000000 in
set_option maxRecDepth 100000 in
theorem ftimes_ok (r n d mode q : Nat) (w : World) (hr : r ≤ 1000000000000) (hn : n ≤ 1000000000000) (hd : (d : Int) ≤ 18) (hm : (mode : Int) ≤ 6) (hq : q = rnd false (r * n) (10 ^ d) mode) (hq2 : q ≤ 9223372036854775807) :
    Calls Tryd.prog 13 #[.int .i64 r, .int .i64 n, .int .i64 d, .int .i64 mode] w fun e w' => e = .returned (.int .i64 q) ∧ Below w.heap.size w w' := by
  have iq : InR (q : Int) := in_small (by omega) (by omega)
  have MU0 : ∀ w, Calls Tryd.prog 22 #[.agg #[.int .i64 (dhi (r : Int)), .int .u64 (dlo (r : Int)), .int .i64 0], .agg #[.int .i64 (dhi (n : Int)), .int .u64 (dlo (n : Int)), .int .i64 d], .int .i64 0, .int .i64 mode] w fun e w' => e = .returned (.tuple #[.agg #[.int .i64 (dhi (q : Int)), .int .u64 (dlo (q : Int)), .int .i64 0], .int .i64 0]) ∧ Below w.heap.size w w' := by
    intro w
    have e := mv_rnd r n d mode
    rw [← hq] at e
    have h := mul_yes (r : Int) (n : Int) 0 d 0 mode w (in_small (by omega) (by omega)) (in_small (by omega) (by omega)) (by decide) hd (by decide) hm (by rw [e]; exact iq)
    rw [e] at h
    exact h
  have MU := (show Hid _ from MU0)
  have IQ : Hid (InR (q : Int)) := iq
  have HD := (show Hid _ from hd)
  have H64 := (show Hid _ from And.intro hr (And.intro hn hq2))
  clear MU0 iq hq hr hn hq2 hd
  go_enter Tryd.func13, Tryd.ntmps13
  go_wp2_with fail
  refine (of_ok r 0 _ (by have := H64.out; omega) (by have := H64.out; omega) (by decide)).mono ?_
  rintro e w1 ⟨rfl, bb⟩
  have G := bb
  clear bb
  go_wp2_with fail
  refine (of_ok n d _ (by have := H64.out; omega) (by have := H64.out; omega) HD.out).mono ?_
  rintro e w2 ⟨rfl, bb⟩
  have Ax := (at3_new w1 _ _ _ _).step bb
  have G := G.trans ((below_over bb).mono G.size)
  clear bb
  generalize w1.heap.size = px at *
  obtain ⟨x0, x1, x2, x3⟩ := Ax
  go_wp2_with fail
  refine (MU.out _).mono ?_
  rintro e w3 ⟨rfl, bb⟩
  clear x0 x1 x2 x3
  have G := G.trans ((below_over bb).mono G.size)
  clear bb
  generalize w2.heap.size = py at *
  go_wp2_with fail
  refine (int_near q _ IQ.out (by have := H64.out; omega) (by have := H64.out; omega)).mono ?_
  rintro e w4 ⟨rfl, bb⟩
  have G := G.trans ((below_over bb).mono G.size)
  clear bb
  generalize w3.heap.size = pz at *
  go_wp2_with fail
  exact bodyPost_ret (v := .int .i64 q) (by simp [results, Tryd.results13, go_sem]) rfl ⟨rfl, G⟩
theorem frate_ok (n : Int) (w : World) : Calls Tryd.prog 12 #[.int .i64 n] w fun e w' => e = .returned (.bool (wi n (1) 1000000000000)) ∧ w' = w := by
  unfold wi
  by_cases h1 : 1 ≤ n
  · by_cases h2 : n ≤ 1000000000000
    · rw [show decide (1 ≤ n ∧ n ≤ 1000000000000) = true by simp; omega]
      go_enter Tryd.func12, Tryd.ntmps12
      go_wp2_with fail
      go_ret
      exact ⟨rfl, rfl⟩
    · rw [show decide (1 ≤ n ∧ n ≤ 1000000000000) = false by simp; omega]
      go_enter Tryd.func12, Tryd.ntmps12
      go_wp2_with fail
      go_ret
      exact ⟨rfl, rfl⟩
  · rw [show decide (1 ≤ n ∧ n ≤ 1000000000000) = false by simp; omega]
    go_enter Tryd.func12, Tryd.ntmps12
    go_wp2_with fail
    go_ret
    exact ⟨rfl, rfl⟩
theorem famount_ok (n : Int) (w : World) : Calls Tryd.prog 17 #[.int .i64 n] w fun e w' => e = .returned (.bool (wi n (1) 10000000000000)) ∧ w' = w := by
  unfold wi
  by_cases h1 : 1 ≤ n
  · by_cases h2 : n ≤ 10000000000000
    · rw [show decide (1 ≤ n ∧ n ≤ 10000000000000) = true by simp; omega]
      go_enter Tryd.func17, Tryd.ntmps17
      go_wp2_with fail
      go_ret
      exact ⟨rfl, rfl⟩
    · rw [show decide (1 ≤ n ∧ n ≤ 10000000000000) = false by simp; omega]
      go_enter Tryd.func17, Tryd.ntmps17
      go_wp2_with fail
      go_ret
      exact ⟨rfl, rfl⟩
  · rw [show decide (1 ≤ n ∧ n ≤ 10000000000000) = false by simp; omega]
    go_enter Tryd.func17, Tryd.ntmps17
    go_wp2_with fail
    go_ret
    exact ⟨rfl, rfl⟩
theorem rrate_ok (n : Int) (w : World) : Calls Tryd.prog 14 #[.int .i64 n] w fun e w' => e = .returned (.bool (wi n (1) 1000000000000)) ∧ w' = w := by
  unfold wi
  by_cases h1 : 1 ≤ n
  · by_cases h2 : n ≤ 1000000000000
    · rw [show decide (1 ≤ n ∧ n ≤ 1000000000000) = true by simp; omega]
      go_enter Tryd.func14, Tryd.ntmps14
      go_wp2_with fail
      go_ret
      exact ⟨rfl, rfl⟩
    · rw [show decide (1 ≤ n ∧ n ≤ 1000000000000) = false by simp; omega]
      go_enter Tryd.func14, Tryd.ntmps14
      go_wp2_with fail
      go_ret
      exact ⟨rfl, rfl⟩
  · rw [show decide (1 ≤ n ∧ n ≤ 1000000000000) = false by simp; omega]
    go_enter Tryd.func14, Tryd.ntmps14
    go_wp2_with fail
    go_ret
    exact ⟨rfl, rfl⟩
theorem fcur_yes (i : Nat) (w : World) (T : Cu w) (hi : i < 4) : Calls Tryd.prog 16 #[.int .i64 i] w fun e w' => e = .returned (.bool true) ∧ w' = w := by
  have HT := (show Hid _ from T)
  clear T
  go_enter Tryd.func16, Tryd.ntmps16
  go_wp2_with fail
  refine (digits_yes i _ HT.out hi).mono ?_
  rintro e w1 ⟨rfl, hq⟩
  obtain rfl := hq.symm
  go_wp2_with fail
  go_ret
  exact ⟨rfl, rfl⟩
theorem fcur_no (c : Int) (w : World) (hc : ¬ (0 ≤ c ∧ c ≤ 3)) : Calls Tryd.prog 16 #[.int .i64 c] w fun e w' => e = .returned (.bool false) ∧ w' = w := by
  have HC := (show Hid _ from hc)
  clear hc
  go_enter Tryd.func16, Tryd.ntmps16
  go_wp2_with fail
  refine (digits_no c _ HC.out).mono ?_
  rintro e w1 ⟨rfl, hq⟩
  obtain rfl := hq.symm
  go_wp2_with fail
  go_ret
  exact ⟨rfl, rfl⟩
end Go.Proofs.YtkndnpkpdchbiaaDoor
