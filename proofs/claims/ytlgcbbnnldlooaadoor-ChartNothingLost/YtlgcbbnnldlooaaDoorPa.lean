/- The contracts of the checks (package dec). -/
import Derived.Test.YtlgcbbnnldlooaaDoorNf
import Derived.Test.YtlgcbbnnldlooaaDoorEy
namespace Go.Proofs.YtlgcbbnnldlooaaDoor
open Go.RowKit
set_option linter.unusedVariables false
attribute [local go_sem] ext_cell ext_frozen ext_drew ext_of_drew ext_of_drewN ext_setCell ext_lt ext_lt1 ext_lt2 ext_lt3 lt_n2 lt_n3 lt_n4 lt_n5 lt_n6

set_option maxHeartbeats 400000 in
theorem isScale_yes (s : Int) (w : World) (h0 : 0 ≤ s) (h1 : s ≤ 18) :
    Calls Tryd.prog 62 #[.int .i64 s] w fun e w' => e = .returned (.bool true) ∧ w' = w := by
  go_enter Tryd.func62, Tryd.ntmps62
  go_wp2
  go_ret
  exact ⟨rfl, rfl⟩
set_option maxHeartbeats 400000 in
theorem isScale_no (s : Int) (w : World) (h : s < 0 ∨ 18 < s) :
    Calls Tryd.prog 62 #[.int .i64 s] w fun e w' => e = .returned (.bool false) ∧ w' = w := by
  rcases h with h | h
  · have hd : decide (0 ≤ s) = false := decide_eq_false (by omega)
    go_enter Tryd.func62, Tryd.ntmps62
    go_wp2
    go_ret
    exact ⟨rfl, rfl⟩
  · have h0 : 0 ≤ s := by omega
    have hd : decide (s ≤ 18) = false := decide_eq_false (by omega)
    go_enter Tryd.func62, Tryd.ntmps62
    go_wp2
    go_ret
    exact ⟨rfl, rfl⟩

/-! Check -/
theorem least_no {c : Int} (hc : InR c) : (dhi c == -9223372036854775808) = false ∨ ((dhi c == -9223372036854775808) = true ∧ (dlo c == 0) = false) := by
  have h1 := hc.lo
  rw [M127_eq] at h1
  by_cases h : dhi c = -9223372036854775808
  · refine Or.inr ⟨by rw [h]; rfl, beq_eq_false_iff_ne.2 fun h2 => ?_⟩
    unfold dhi at h; unfold dlo at h2; omega
  · exact Or.inl (beq_eq_false_iff_ne.2 h)
set_option maxHeartbeats 400000 in
set_option maxRecDepth 100000 in
theorem check_ok (c h l : Int) (s : Nat) (w : World) (hd : IsD c h l) (hc : InR c) (hs : (s : Int) ≤ 18) :
    Calls Tryd.prog 45 #[.agg #[.int .i64 h, .int .u64 l, .int .i64 s]] w fun e w' => e = .returned (.int .i64 0) ∧ Below w.heap.size w w' := by
  obtain ⟨rfl, rfl⟩ := hd
  rcases least_no hc with e1 | ⟨e1, e2⟩
  · clear hc
    go_enter Tryd.func45, Tryd.ntmps45
    go_wp2_with (go_at_call 62; refine (isScale_yes _ _ (by omega) hs).mono ?_; rintro e w' ⟨rfl, rfl⟩)
    go_ret
    refine ⟨rfl, ?_⟩
    repeat (first | exact Below.refl _ _ | refine Below.drew ?_ | refine below_drewN ?_ _ | refine bel_alloc ?_ _ | refine bel_ext ?_ _ | (refine Below.setCell ?_ ?_ _; rotate_left; (simp <;> omega)))
  · clear hc
    go_enter Tryd.func45, Tryd.ntmps45
    go_wp2_with (go_at_call 62; refine (isScale_yes _ _ (by omega) hs).mono ?_; rintro e w' ⟨rfl, rfl⟩)
    go_ret
    refine ⟨rfl, ?_⟩
    repeat (first | exact Below.refl _ _ | refine Below.drew ?_ | refine below_drewN ?_ _ | refine bel_alloc ?_ _ | refine bel_ext ?_ _ | (refine Below.setCell ?_ ?_ _; rotate_left; (simp <;> omega)))
set_option maxHeartbeats 400000 in
set_option maxRecDepth 100000 in
theorem check_bad (h l s : Int) (w : World) (hb : (s < 0 ∨ 18 < s) ∨ (h = -9223372036854775808 ∧ l = 0)) :
    Calls Tryd.prog 45 #[.agg #[.int .i64 h, .int .u64 l, .int .i64 s]] w fun e w' => e = .returned (.int .i64 3) ∧ Below w.heap.size w w' := by
  by_cases hs : s < 0 ∨ 18 < s
  · clear hb
    go_enter Tryd.func45, Tryd.ntmps45
    go_wp2_with (go_at_call 62; refine (isScale_no _ _ hs).mono ?_; rintro e w' ⟨rfl, rfl⟩)
    go_ret
    refine ⟨rfl, ?_⟩
    repeat (first | exact Below.refl _ _ | refine Below.drew ?_ | refine below_drewN ?_ _ | refine bel_alloc ?_ _ | refine bel_ext ?_ _ | (refine Below.setCell ?_ ?_ _; rotate_left; (simp <;> omega)))
  · obtain ⟨rfl, rfl⟩ := hb.resolve_left hs
    have h0 : 0 ≤ s := by omega
    have h1 : s ≤ 18 := by omega
    clear hb hs
    go_enter Tryd.func45, Tryd.ntmps45
    go_wp2_with (go_at_call 62; refine (isScale_yes _ _ h0 h1).mono ?_; rintro e w' ⟨rfl, rfl⟩)
    go_ret
    refine ⟨rfl, ?_⟩
    repeat (first | exact Below.refl _ _ | refine Below.drew ?_ | refine below_drewN ?_ _ | refine bel_alloc ?_ _ | refine bel_ext ?_ _ | (refine Below.setCell ?_ ?_ _; rotate_left; (simp <;> omega)))

set_option maxHeartbeats 400000 in
set_option maxRecDepth 100000 in
theorem both_ok (ca ha la cb hb lb : Int) (sa sb : Nat) (w : World) (da : IsD ca ha la) (db : IsD cb hb lb) (ia : InR ca) (ib : InR cb) (hsa : (sa : Int) ≤ 18) (hsb : (sb : Int) ≤ 18) :
    Calls Tryd.prog 42 #[.agg #[.int .i64 ha, .int .u64 la, .int .i64 sa], .agg #[.int .i64 hb, .int .u64 lb, .int .i64 sb]] w fun e w' => e = .returned (.int .i64 0) ∧ Below w.heap.size w w' := by
  go_enter Tryd.func42, Tryd.ntmps42
  go_wp2_with fail
  refine (check_ok ca _ _ sa _ da ia hsa).mono ?_
  rintro e w1 ⟨rfl, hb1⟩
  obtain ⟨x, rfl⟩ := ext_of_below hb1
  clear hb1
  go_wp2_with fail
  refine (check_ok cb _ _ sb _ db ib hsb).mono ?_
  rintro e w1 ⟨rfl, hb1⟩
  obtain ⟨y, rfl⟩ := ext_of_below hb1
  clear hb1
  go_wp2
  go_ret
  refine ⟨rfl, ?_⟩
  repeat (first | exact Below.refl _ _ | refine Below.drew ?_ | refine below_drewN ?_ _ | refine bel_alloc ?_ _ | refine bel_ext ?_ _ | (refine Below.setCell ?_ ?_ _; rotate_left; (simp <;> omega)))
set_option maxHeartbeats 400000 in
set_option maxRecDepth 100000 in
theorem both_bad1 (ha la sa hb lb sb : Int) (w : World) (hbad : (sa < 0 ∨ 18 < sa) ∨ (ha = -9223372036854775808 ∧ la = 0)) :
    Calls Tryd.prog 42 #[.agg #[.int .i64 ha, .int .u64 la, .int .i64 sa], .agg #[.int .i64 hb, .int .u64 lb, .int .i64 sb]] w fun e w' => e = .returned (.int .i64 3) ∧ Below w.heap.size w w' := by
  have H := (show Hid _ from hbad)
  clear hbad
  go_enter Tryd.func42, Tryd.ntmps42
  go_wp2_with fail
  refine (check_bad _ _ _ _ H.out).mono ?_
  rintro e w1 ⟨rfl, hb1⟩
  obtain ⟨x, rfl⟩ := ext_of_below hb1
  clear hb1
  go_wp2
  go_ret
  refine ⟨rfl, ?_⟩
  repeat (first | exact Below.refl _ _ | refine Below.drew ?_ | refine below_drewN ?_ _ | refine bel_alloc ?_ _ | refine bel_ext ?_ _ | (refine Below.setCell ?_ ?_ _; rotate_left; (simp <;> omega)))
set_option maxHeartbeats 400000 in
set_option maxRecDepth 100000 in
theorem both_bad2 (ca ha la hb lb sb : Int) (sa : Nat) (w : World) (da : IsD ca ha la) (ia : InR ca) (hsa : (sa : Int) ≤ 18) (hbad : (sb < 0 ∨ 18 < sb) ∨ (hb = -9223372036854775808 ∧ lb = 0)) :
    Calls Tryd.prog 42 #[.agg #[.int .i64 ha, .int .u64 la, .int .i64 sa], .agg #[.int .i64 hb, .int .u64 lb, .int .i64 sb]] w fun e w' => e = .returned (.int .i64 3) ∧ Below w.heap.size w w' := by
  have H := (show Hid _ from hbad)
  clear hbad
  go_enter Tryd.func42, Tryd.ntmps42
  go_wp2_with fail
  refine (check_ok ca _ _ sa _ da ia hsa).mono ?_
  rintro e w1 ⟨rfl, hb1⟩
  obtain ⟨x, rfl⟩ := ext_of_below hb1
  clear hb1
  go_wp2_with fail
  refine (check_bad _ _ _ _ H.out).mono ?_
  rintro e w1 ⟨rfl, hb1⟩
  obtain ⟨y, rfl⟩ := ext_of_below hb1
  clear hb1
  go_wp2
  go_ret
  refine ⟨rfl, ?_⟩
  repeat (first | exact Below.refl _ _ | refine Below.drew ?_ | refine below_drewN ?_ _ | refine bel_alloc ?_ _ | refine bel_ext ?_ _ | (refine Below.setCell ?_ ?_ _; rotate_left; (simp <;> omega)))
end Go.Proofs.YtlgcbbnnldlooaaDoor
