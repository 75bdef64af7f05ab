/- The contracts of number.dec, number.sign, number.plus, raised and total (package dec). -/
import Derived.Test.YtlgcbbnnldlooaaDoorNa
namespace Go.Proofs.YtlgcbbnnldlooaaDoor
open Go.RowKit
set_option linter.unusedVariables false
attribute [local go_sem] ext_cell ext_frozen ext_drew ext_of_drew ext_of_drewN ext_setCell ext_lt ext_lt1 ext_lt2 ext_lt3 lt_n2 lt_n3 lt_n4 lt_n5 lt_n6

/-- The whole number that a sign and a size are. -/
def sv (neg : Bool) (n : Nat) : Int := if neg then -(n : Int) else n
theorem sv_abs (c : Int) : sv (decide (c < 0)) c.natAbs = c := by unfold sv; by_cases h : c < 0 <;> simp [h] <;> omega

theorem low_words {n : Nat} (h : (n : Int) < M127) : dlo (n : Int) = wd n 0 ∧ dhi (n : Int) = wd n 1 ∧ wrap64 (wd n 1) = dhi (n : Int) := by
  rw [M127_eq] at h
  obtain ⟨e0, e1, -, -, -⟩ := wd_small (n := n) (by omega)
  rw [e0, e1]
  refine ⟨rfl, rfl, ?_⟩
  unfold wrap64 dhi; omega
theorem bl_127 (n : Nat) : bl n ≤ 127 ↔ (n : Int) < M127 := by
  rw [bl_le, M127_eq]
  omega

set_option maxHeartbeats 400000 in
set_option maxRecDepth 100000 in
theorem dec_big (neg : Bool) (n : Nat) (s : Int) (w : World) (hn5 : n < B ^ 5) (hn : M127 ≤ (n : Int)) :
    Calls Tryd.prog 44 #[.agg #[.bool neg, .int .u64 (wd (n) 0), .int .u64 (wd (n) 1), .int .u64 (wd (n) 2), .int .u64 (wd (n) 3), .int .u64 (wd (n) 4)], .int .i64 s] w
      fun e w' => e = .returned (.tuple #[.agg #[.int .i64 0, .int .u64 0, .int .i64 0], .int .i64 4]) ∧ Below w.heap.size w w' := by
  have hb : (127 : Int) < (bl n : Int) := by
    rcases Nat.lt_or_ge 127 (bl n) with c | c
    · omega
    · have := (bl_127 n).1 c; omega
  have h3 : (bl n : Int) ≤ 320 := by have := bl_wide hn5; omega
  go_enter Tryd.func44, Tryd.ntmps44
  go_wp2_with (go_at_call 61; refine (bits_any n _ _ _ _ _ _ (IsW.self _) hn5).mono ?_; rintro e w1 ⟨rfl, hb1⟩; obtain ⟨x, rfl⟩ := ext_of_below hb1; clear hb1)
  refine bodyPost_ret (v := .tuple #[.agg #[.int .i64 0, .int .u64 0, .int .i64 0], .int .i64 4]) (by simp [results, Tryd.results44, go_sem]) rfl ⟨rfl, ?_⟩
  repeat (first | exact Below.refl _ _ | refine Below.drew ?_ | refine below_drewN ?_ _ | refine bel_alloc ?_ _ | refine bel_ext ?_ _ | (refine Below.setCell ?_ ?_ _; rotate_left; (simp <;> omega)))
set_option maxHeartbeats 400000 in
set_option maxRecDepth 100000 in
theorem dec_ok (neg : Bool) (n : Nat) (s : Int) (w : World) (hn5 : n < B ^ 5) (hn : (n : Int) < M127) :
    Calls Tryd.prog 44 #[.agg #[.bool neg, .int .u64 (wd (n) 0), .int .u64 (wd (n) 1), .int .u64 (wd (n) 2), .int .u64 (wd (n) 3), .int .u64 (wd (n) 4)], .int .i64 s] w
      fun e w' => e = .returned (.tuple #[.agg #[.int .i64 (dhi (sv neg n)), .int .u64 (dlo (sv neg n)), .int .i64 s], .int .i64 0]) ∧ Below w.heap.size w w' := by
  have hb : (bl n : Int) ≤ 127 := by have := (bl_127 n).2 hn; omega
  obtain ⟨e0, e1, e2⟩ := low_words hn
  have HE : Hid (dlo (n : Int) = wd n 0) := e0
  have hc : InR (n : Int) := ⟨by have := M127_eq; omega, hn⟩
  clear e1
  cases neg
  · have es : sv false n = (n : Int) := rfl
    rw [es]
    clear es hn hc e0
    go_enter Tryd.func44, Tryd.ntmps44
    go_wp2_with (go_at_call 61; refine (bits_any n _ _ _ _ _ _ (IsW.self _) hn5).mono ?_; rintro e w1 ⟨rfl, hb1⟩; obtain ⟨x, rfl⟩ := ext_of_below hb1; clear hb1)
    refine bodyPost_ret (v := .tuple #[.agg #[.int .i64 (dhi n), .int .u64 (wd n 0), .int .i64 s], .int .i64 0]) (by simp [results, Tryd.results44, go_sem]) rfl ⟨by rw [HE.out], ?_⟩
    repeat (first | exact Below.refl _ _ | refine Below.drew ?_ | refine below_drewN ?_ _ | refine bel_alloc ?_ _ | refine bel_ext ?_ _ | (refine Below.setCell ?_ ?_ _; rotate_left; (simp <;> omega)))
  · have es : sv true n = -(n : Int) := rfl
    rw [es]
    have HD : Hid (IsD (n : Int) (dhi n) (wd n 0)) := ⟨rfl, e0.symm⟩
    have HC : Hid (InR (n : Int)) := hc
    clear e0 es hn hc
    go_enter Tryd.func44, Tryd.ntmps44
    go_wp2_with (first | (go_at_call 61; refine (bits_any n _ _ _ _ _ _ (IsW.self _) hn5).mono ?_; rintro e w1 ⟨rfl, hb1⟩; obtain ⟨x, rfl⟩ := ext_of_below hb1; clear hb1) | (go_at_call 46; refine (opposite_any (n : Int) _ _ _ _ HD.out HC.out).mono ?_; rintro e w1 ⟨rfl, hb1⟩; obtain ⟨y, rfl⟩ := ext_of_below hb1; clear hb1))
    refine bodyPost_ret (v := .tuple #[.agg #[.int .i64 (dhi (-n)), .int .u64 (dlo (-n)), .int .i64 s], .int .i64 0]) (by simp [results, Tryd.results44, go_sem]) rfl ⟨rfl, ?_⟩
    repeat (first | exact Below.refl _ _ | refine Below.drew ?_ | refine below_drewN ?_ _ | refine bel_alloc ?_ _ | refine bel_ext ?_ _ | (refine Below.setCell ?_ ?_ _; rotate_left; (simp <;> omega)))
end Go.Proofs.YtlgcbbnnldlooaaDoor
