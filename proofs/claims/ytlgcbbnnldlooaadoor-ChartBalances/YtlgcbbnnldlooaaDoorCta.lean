/- chart: the contracts of isCode, isCurrency, nought, plus, isNought, beyond, isAmount. -/
import Derived.Test.YtlgcbbnnldlooaaDoorBa
import Derived.Test.YtlgcbbnnldlooaaDoorPh
import Derived.Test.YtlgcbbnnldlooaaDoorQa
namespace Go.Proofs.YtlgcbbnnldlooaaDoor
open Go.RowKit
set_option linter.unusedVariables false
attribute [local go_sem] ext_cell ext_frozen ext_drew ext_of_drew ext_of_drewN ext_setCell ext_lt ext_lt1 ext_lt2 ext_lt3 lt_n2 lt_n3 lt_n4 lt_n5 lt_n6

theorem code_ok (n : Int) (w : World) : Calls Tryd.prog 37 #[.int .i64 n] w fun e w' => e = .returned (.bool (wi n (1) 8)) ∧ w' = w := by
  unfold wi
  by_cases h1 : 1 ≤ n
  · by_cases h2 : n ≤ 8
    · rw [show decide (1 ≤ n ∧ n ≤ 8) = true by simp; omega]
      go_enter Tryd.func37, Tryd.ntmps37
      go_wp2_with fail
      go_ret
      exact ⟨rfl, rfl⟩
    · rw [show decide (1 ≤ n ∧ n ≤ 8) = false by simp; omega]
      go_enter Tryd.func37, Tryd.ntmps37
      go_wp2_with fail
      go_ret
      exact ⟨rfl, rfl⟩
  · rw [show decide (1 ≤ n ∧ n ≤ 8) = false by simp; omega]
    go_enter Tryd.func37, Tryd.ntmps37
    go_wp2_with fail
    go_ret
    exact ⟨rfl, rfl⟩
theorem ccur_ok (c : Int) (w : World) : Calls Tryd.prog 38 #[.int .i64 c] w fun e w' => e = .returned (.bool (wi c 0 3)) ∧ Below w.heap.size w w' := by
  cases h : wi c 0 3
  · have hf : mform c 0 = false := by unfold mform; rw [h]; rfl
    go_enter Tryd.func38, Tryd.ntmps38
    go_wp2_with fail
    refine (mcheck_ok c 0 _).mono ?_
    rintro e w1 ⟨rfl, b1⟩
    rw [hf]
    go_wp2_with fail
    go_ret
    exact ⟨rfl, b1⟩
  · have hf : mform c 0 = true := by unfold mform; rw [h]; rfl
    go_enter Tryd.func38, Tryd.ntmps38
    go_wp2_with fail
    refine (mcheck_ok c 0 _).mono ?_
    rintro e w1 ⟨rfl, b1⟩
    rw [hf]
    go_wp2_with fail
    go_ret
    exact ⟨rfl, b1⟩
theorem dhi0 : dhi 0 = 0 := by decide
theorem dlo0 : dlo 0 = 0 := by decide
theorem nought_ok (w : World) : Calls Tryd.prog 24 #[] w fun e w' => e = .returned (dv 0 12) ∧ Below w.heap.size w w' := by
  rw [show dv 0 12 = .agg #[.int .i64 0, .int .u64 0, .int .i64 12] by unfold dv; rw [dhi0, dlo0]]
  go_enter Tryd.func24, Tryd.ntmps24
  go_wp2_with fail
  refine bodyPost_ret (v := .agg #[.int .i64 0, .int .u64 0, .int .i64 12]) (by simp [results, Tryd.results24, go_sem]) rfl ⟨rfl, ?_⟩
  repeat (first | exact Below.refl _ _ | refine Below.drew ?_ | refine below_drewN ?_ _ | refine bel_alloc ?_ _ | refine bel_ext ?_ _ | (refine Below.setCell ?_ ?_ _; rotate_left; (simp <;> omega)))
set_option maxHeartbeats 1000000 in
set_option maxRecDepth 100000 in
theorem cplus_ok (ca cb : Int) (sa sb : Nat) (w : World) (ia : InR ca) (ib : InR cb) (hsa : (sa : Int) ≤ 18) (hsb : (sb : Int) ≤ 18) (h : InR (tv ca sa cb sb)) :
    Calls Tryd.prog 40 #[dv ca sa, dv cb sb] w fun e w' => e = .returned (dv (tv ca sa cb sb) ((max sa sb : Nat) : Int)) ∧ Below w.heap.size w w' := by
  have C := (show Hid _ from fun w => add_yes ca cb sa sb w ia ib hsa hsb h)
  unfold dv
  generalize tv ca sa cb sb = z at *
  generalize max sa sb = m at *
  clear ia ib hsa hsb h
  go_enter Tryd.func40, Tryd.ntmps40
  go_wp2_with (go_at_call 20; refine (C.out _).mono ?_; rintro e w1 ⟨rfl, hb1⟩; obtain ⟨x, rfl⟩ := ext_of_below hb1; clear hb1)
  refine bodyPost_ret (v := .agg #[.int .i64 (dhi z), .int .u64 (dlo z), .int .i64 m]) (by simp [results, Tryd.results40, go_sem]) rfl ⟨rfl, ?_⟩
  repeat (first | exact Below.refl _ _ | refine Below.drew ?_ | refine below_drewN ?_ _ | refine bel_alloc ?_ _ | refine bel_ext ?_ _ | (refine Below.setCell ?_ ?_ _; rotate_left; (simp <;> omega)))
set_option maxHeartbeats 1000000 in
set_option maxRecDepth 100000 in
theorem isNought_ok (c : Int) (s : Nat) (w : World) (ic : InR c) (hs : (s : Int) ≤ 18) :
    Calls Tryd.prog 41 #[dv c s] w fun e w' => e = .returned (.bool (decide (c = 0))) ∧ Below w.heap.size w w' := by
  have C := (show Hid _ from fun w => sign_ok c _ _ s w (IsD.self _) ic hs)
  have e1 : (sgn c == 0) = decide (c = 0) := by
    unfold sgn
    by_cases h0 : c = 0
    · subst h0; decide
    · rw [decide_eq_false h0]
      rw [if_neg h0]
      split <;> rfl
  unfold dv
  generalize decide (c = 0) = q at *
  generalize sgn c = z at *
  clear ic hs
  go_enter Tryd.func41, Tryd.ntmps41
  go_wp2_with (go_at_call 58; refine (C.out _).mono ?_; rintro e w1 ⟨rfl, hb1⟩; obtain ⟨x, rfl⟩ := ext_of_below hb1; clear hb1)
  go_ret
  refine ⟨by simp, ?_⟩
  repeat (first | exact Below.refl _ _ | refine Below.drew ?_ | refine below_drewN ?_ _ | refine bel_alloc ?_ _ | refine bel_ext ?_ _ | (refine Below.setCell ?_ ?_ _; rotate_left; (simp <;> omega)))
end Go.Proofs.YtlgcbbnnldlooaaDoor
