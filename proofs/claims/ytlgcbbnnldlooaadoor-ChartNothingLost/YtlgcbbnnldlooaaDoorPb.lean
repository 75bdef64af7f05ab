/- The contracts of Neg, Sign, Add (package dec). -/
import Derived.Test.YtlgcbbnnldlooaaDoorPa
namespace Go.Proofs.YtlgcbbnnldlooaaDoor
open Go.RowKit
set_option linter.unusedVariables false
attribute [local go_sem] ext_cell ext_frozen ext_drew ext_of_drew ext_of_drewN ext_setCell ext_lt ext_lt1 ext_lt2 ext_lt3 lt_n2 lt_n3 lt_n4 lt_n5 lt_n6 ext_ext

theorem InR.neg {c : Int} (h : InR c) : InR (-c) := ⟨by have := h.hi; omega, by have := h.lo; omega⟩
theorem tot_lt (ca : Int) (sa : Nat) (cb : Int) (sb : Nat) (ia : InR ca) (ib : InR cb) (hsa : (sa : Int) ≤ 18) (hsb : (sb : Int) ≤ 18) : (tot ca sa cb sb).2 < B ^ 5 := by
  have h1 : up10 ca.natAbs sa (max sa sb) < B ^ 4 := ten_lt (natAbs_lt ia) (show max sa sb - sa ≤ 18 by omega)
  have h2 : up10 cb.natAbs sb (max sa sb) < B ^ 4 := ten_lt (natAbs_lt ib) (show max sa sb - sb ≤ 18 by omega)
  have h3 := padd_le (decide (ca < 0), up10 ca.natAbs sa (max sa sb)) (decide (cb < 0), up10 cb.natAbs sb (max sa sb))
  have h4 : 2 * B ^ 4 ≤ B ^ 5 := by rw [Nat.pow_succ B 4, Nat.mul_comm]; exact Nat.mul_le_mul_left _ (by decide)
  unfold tot
  simp only at h3
  omega

set_option maxHeartbeats 400000 in
set_option maxRecDepth 100000 in
theorem neg_ok (c h l : Int) (s : Nat) (w : World) (hd : IsD c h l) (hc : InR c) (hs : (s : Int) ≤ 18) :
    Calls Tryd.prog 21 #[.agg #[.int .i64 h, .int .u64 l, .int .i64 s]] w
      fun e w' => e = .returned (.tuple #[.agg #[.int .i64 (dhi (-c)), .int .u64 (dlo (-c)), .int .i64 s], .int .i64 0]) ∧ Below w.heap.size w w' := by
  obtain ⟨rfl, rfl⟩ := hd
  go_enter Tryd.func21, Tryd.ntmps21
  go_wp2_with (first | (go_at_call 45; refine (check_ok c _ _ s _ (IsD.self _) hc hs).mono ?_; rintro e w1 ⟨rfl, hb1⟩; obtain ⟨x, rfl⟩ := ext_of_below hb1; clear hb1) | (go_at_call 46; refine (opposite_any c _ _ _ _ (IsD.self _) hc).mono ?_; rintro e w1 ⟨rfl, hb1⟩; obtain ⟨y, rfl⟩ := ext_of_below hb1; clear hb1))
  refine bodyPost_ret (v := .tuple #[.agg #[.int .i64 (dhi (-c)), .int .u64 (dlo (-c)), .int .i64 s], .int .i64 0]) (by simp [results, Tryd.results21, go_sem]) rfl ⟨rfl, ?_⟩
  repeat (first | exact Below.refl _ _ | refine Below.drew ?_ | refine below_drewN ?_ _ | refine bel_alloc ?_ _ | refine bel_ext ?_ _ | (refine Below.setCell ?_ ?_ _; rotate_left; (simp <;> omega)))
set_option maxHeartbeats 400000 in
set_option maxRecDepth 100000 in
theorem neg_bad (h l s : Int) (w : World) (hb : (s < 0 ∨ 18 < s) ∨ (h = -9223372036854775808 ∧ l = 0)) :
    Calls Tryd.prog 21 #[.agg #[.int .i64 h, .int .u64 l, .int .i64 s]] w
      fun e w' => e = .returned (.tuple #[.agg #[.int .i64 0, .int .u64 0, .int .i64 0], .int .i64 3]) ∧ Below w.heap.size w w' := by
  have H := (show Hid _ from hb)
  clear hb
  go_enter Tryd.func21, Tryd.ntmps21
  go_wp2_with (go_at_call 45; refine (check_bad _ _ _ _ H.out).mono ?_; rintro e w1 ⟨rfl, hb1⟩; obtain ⟨x, rfl⟩ := ext_of_below hb1; clear hb1)
  refine bodyPost_ret (v := .tuple #[.agg #[.int .i64 0, .int .u64 0, .int .i64 0], .int .i64 3]) (by simp [results, Tryd.results21, go_sem]) rfl ⟨rfl, ?_⟩
  repeat (first | exact Below.refl _ _ | refine Below.drew ?_ | refine below_drewN ?_ _ | refine bel_alloc ?_ _ | refine bel_ext ?_ _ | (refine Below.setCell ?_ ?_ _; rotate_left; (simp <;> omega)))
theorem abs_lt {c : Int} (hc : InR c) : c.natAbs < B ^ 5 := Nat.lt_trans (natAbs_lt hc) (by decide)
set_option maxHeartbeats 400000 in
set_option maxRecDepth 100000 in
theorem sign_ok (c h l : Int) (s : Nat) (w : World) (hd : IsD c h l) (hc : InR c) (hs : (s : Int) ≤ 18) :
    Calls Tryd.prog 58 #[.agg #[.int .i64 h, .int .u64 l, .int .i64 s]] w
      fun e w' => e = .returned (.tuple #[.int .i64 (sgn c), .int .i64 0]) ∧ Below w.heap.size w w' := by
  obtain ⟨rfl, rfl⟩ := hd
  have es := sv_abs c
  rw [← es]
  have HS : Hid (sv (decide (c < 0)) c.natAbs = c) := es
  clear es
  rw [HS.out]
  have hsg : Hid (sgn (sv (decide (c < 0)) c.natAbs) = sgn c) := by rw [HS.out]; rfl
  go_enter Tryd.func58, Tryd.ntmps58
  go_wp2_with (first | (go_at_call 45; refine (check_ok c _ _ s _ (IsD.self _) hc hs).mono ?_; rintro e w1 ⟨rfl, hb1⟩; obtain ⟨x, rfl⟩ := ext_of_below hb1; clear hb1) | (go_at_call 72; refine (numberOf_any c _ _ _ _ (IsD.self _) hc).mono ?_; rintro e w1 ⟨rfl, hb1⟩; obtain ⟨y, rfl⟩ := ext_of_below hb1; clear hb1) | (go_at_call 64; refine (sign_any _ _ _ (abs_lt hc)).mono ?_; rintro e w1 ⟨rfl, hb1⟩; obtain ⟨z, rfl⟩ := ext_of_below hb1; clear hb1))
  rw [hsg.out]
  go_ret2
  refine ⟨rfl, ?_⟩
  repeat (first | exact Below.refl _ _ | refine Below.drew ?_ | refine below_drewN ?_ _ | refine bel_alloc ?_ _ | refine bel_ext ?_ _ | (refine Below.setCell ?_ ?_ _; rotate_left; (simp <;> omega)))
set_option maxHeartbeats 400000 in
set_option maxRecDepth 100000 in
theorem sign_bad (h l s : Int) (w : World) (hb : (s < 0 ∨ 18 < s) ∨ (h = -9223372036854775808 ∧ l = 0)) :
    Calls Tryd.prog 58 #[.agg #[.int .i64 h, .int .u64 l, .int .i64 s]] w
      fun e w' => e = .returned (.tuple #[.int .i64 0, .int .i64 3]) ∧ Below w.heap.size w w' := by
  have H := (show Hid _ from hb)
  clear hb
  go_enter Tryd.func58, Tryd.ntmps58
  go_wp2_with (go_at_call 45; refine (check_bad _ _ _ _ H.out).mono ?_; rintro e w1 ⟨rfl, hb1⟩; obtain ⟨x, rfl⟩ := ext_of_below hb1; clear hb1)
  go_ret2
  refine ⟨rfl, ?_⟩
  repeat (first | exact Below.refl _ _ | refine Below.drew ?_ | refine below_drewN ?_ _ | refine bel_alloc ?_ _ | refine bel_ext ?_ _ | (refine Below.setCell ?_ ?_ _; rotate_left; (simp <;> omega)))

set_option maxHeartbeats 1000000 in
set_option maxRecDepth 100000 in
theorem add_ok (ca ha la cb hb lb : Int) (sa sb : Nat) (w : World) (da : IsD ca ha la) (db : IsD cb hb lb) (ia : InR ca) (ib : InR cb) (hsa : (sa : Int) ≤ 18) (hsb : (sb : Int) ≤ 18) (hr : ((tot ca sa cb sb).2 : Int) < M127) :
    Calls Tryd.prog 20 #[.agg #[.int .i64 ha, .int .u64 la, .int .i64 sa], .agg #[.int .i64 hb, .int .u64 lb, .int .i64 sb]] w
      fun e w' => e = .returned (.tuple #[.agg #[.int .i64 (dhi (sv (tot ca sa cb sb).1 (tot ca sa cb sb).2)), .int .u64 (dlo (sv (tot ca sa cb sb).1 (tot ca sa cb sb).2)), .int .i64 ((max sa sb : Nat) : Int)], .int .i64 0]) ∧ Below w.heap.size w w' := by
  obtain ⟨rfl, rfl⟩ := da
  obtain ⟨rfl, rfl⟩ := db
  have n5 : (tot ca sa cb sb).2 < B ^ 5 := tot_lt _ _ _ _ ia ib hsa hsb
  have HR : Hid (((tot ca sa cb sb).2 : Int) < M127) := hr
  have N5 := (show Hid _ from n5)
  clear hr n5
  go_enter Tryd.func20, Tryd.ntmps20
  go_wp2_with (first | (go_at_call 42; refine (both_ok ca _ _ cb _ _ sa sb _ (IsD.self _) (IsD.self _) ia ib hsa hsb).mono ?_; rintro e w1 ⟨rfl, hb1⟩; obtain ⟨x, rfl⟩ := ext_of_below hb1; clear hb1) | (go_at_call 43; refine (total_any ca _ _ cb _ _ sa sb _ (IsD.self _) (IsD.self _) ia ib hsa hsb).mono ?_; rintro e w1 ⟨rfl, hb1⟩; obtain ⟨z, rfl⟩ := ext_of_below hb1; clear hb1) | (go_at_call 44; refine (dec_ok _ _ _ _ N5.out HR.out).mono ?_; rintro e w1 ⟨rfl, hb1⟩; obtain ⟨v, rfl⟩ := ext_of_below hb1; clear hb1))
  refine bodyPost_ret (v := .tuple #[.agg #[.int .i64 (dhi (sv (tot ca sa cb sb).1 (tot ca sa cb sb).2)), .int .u64 (dlo (sv (tot ca sa cb sb).1 (tot ca sa cb sb).2)), .int .i64 ((max sa sb : Nat) : Int)], .int .i64 0]) (by simp [results, Tryd.results20, go_sem]) rfl ⟨rfl, ?_⟩
  repeat (first | exact Below.refl _ _ | refine Below.drew ?_ | refine below_drewN ?_ _ | refine bel_alloc ?_ _ | refine bel_ext ?_ _ | (refine Below.setCell ?_ ?_ _; rotate_left; (simp <;> omega)))
set_option maxHeartbeats 1000000 in
set_option maxRecDepth 100000 in
theorem add_big (ca ha la cb hb lb : Int) (sa sb : Nat) (w : World) (da : IsD ca ha la) (db : IsD cb hb lb) (ia : InR ca) (ib : InR cb) (hsa : (sa : Int) ≤ 18) (hsb : (sb : Int) ≤ 18) (hr : M127 ≤ ((tot ca sa cb sb).2 : Int)) :
    Calls Tryd.prog 20 #[.agg #[.int .i64 ha, .int .u64 la, .int .i64 sa], .agg #[.int .i64 hb, .int .u64 lb, .int .i64 sb]] w
      fun e w' => e = .returned (.tuple #[.agg #[.int .i64 0, .int .u64 0, .int .i64 0], .int .i64 4]) ∧ Below w.heap.size w w' := by
  obtain ⟨rfl, rfl⟩ := da
  obtain ⟨rfl, rfl⟩ := db
  have n5 : (tot ca sa cb sb).2 < B ^ 5 := tot_lt _ _ _ _ ia ib hsa hsb
  have HR : Hid (M127 ≤ ((tot ca sa cb sb).2 : Int)) := hr
  have N5 := (show Hid _ from n5)
  clear hr n5
  go_enter Tryd.func20, Tryd.ntmps20
  go_wp2_with (first | (go_at_call 42; refine (both_ok ca _ _ cb _ _ sa sb _ (IsD.self _) (IsD.self _) ia ib hsa hsb).mono ?_; rintro e w1 ⟨rfl, hb1⟩; obtain ⟨x, rfl⟩ := ext_of_below hb1; clear hb1) | (go_at_call 43; refine (total_any ca _ _ cb _ _ sa sb _ (IsD.self _) (IsD.self _) ia ib hsa hsb).mono ?_; rintro e w1 ⟨rfl, hb1⟩; obtain ⟨z, rfl⟩ := ext_of_below hb1; clear hb1) | (go_at_call 44; refine (dec_big _ _ _ _ N5.out HR.out).mono ?_; rintro e w1 ⟨rfl, hb1⟩; obtain ⟨v, rfl⟩ := ext_of_below hb1; clear hb1))
  refine bodyPost_ret (v := .tuple #[.agg #[.int .i64 0, .int .u64 0, .int .i64 0], .int .i64 4]) (by simp [results, Tryd.results20, go_sem]) rfl ⟨rfl, ?_⟩
  repeat (first | exact Below.refl _ _ | refine Below.drew ?_ | refine below_drewN ?_ _ | refine bel_alloc ?_ _ | refine bel_ext ?_ _ | (refine Below.setCell ?_ ?_ _; rotate_left; (simp <;> omega)))
set_option maxHeartbeats 400000 in
set_option maxRecDepth 100000 in
theorem add_bad (ha la sa hb lb sb : Int) (w : World) (hc : ∀ w : World, Calls Tryd.prog 42 #[.agg #[.int .i64 ha, .int .u64 la, .int .i64 sa], .agg #[.int .i64 hb, .int .u64 lb, .int .i64 sb]] w fun e w' => e = .returned (.int .i64 3) ∧ Below w.heap.size w w') :
    Calls Tryd.prog 20 #[.agg #[.int .i64 ha, .int .u64 la, .int .i64 sa], .agg #[.int .i64 hb, .int .u64 lb, .int .i64 sb]] w
      fun e w' => e = .returned (.tuple #[.agg #[.int .i64 0, .int .u64 0, .int .i64 0], .int .i64 3]) ∧ Below w.heap.size w w' := by
  have H := (show Hid _ from hc)
  clear hc
  go_enter Tryd.func20, Tryd.ntmps20
  go_wp2_with (go_at_call 42; refine (H.out _).mono ?_; rintro e w1 ⟨rfl, hb1⟩; obtain ⟨x, rfl⟩ := ext_of_below hb1; clear hb1)
  refine bodyPost_ret (v := .tuple #[.agg #[.int .i64 0, .int .u64 0, .int .i64 0], .int .i64 3]) (by simp [results, Tryd.results20, go_sem]) rfl ⟨rfl, ?_⟩
  repeat (first | exact Below.refl _ _ | refine Below.drew ?_ | refine below_drewN ?_ _ | refine bel_alloc ?_ _ | refine bel_ext ?_ _ | (refine Below.setCell ?_ ?_ _; rotate_left; (simp <;> omega)))
end Go.Proofs.YtlgcbbnnldlooaaDoor
