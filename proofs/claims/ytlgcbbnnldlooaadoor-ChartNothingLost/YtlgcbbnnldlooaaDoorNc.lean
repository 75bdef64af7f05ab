/- The contracts of number.sign, number.plus, raised and total (package dec). -/
import Derived.Test.YtlgcbbnnldlooaaDoorNb
import Derived.ChangeKeysEq
namespace Go.Proofs.YtlgcbbnnldlooaaDoor
open Go.RowKit
set_option linter.unusedVariables false
attribute [local go_sem] ext_cell ext_frozen ext_drew ext_of_drew ext_of_drewN ext_setCell ext_lt ext_lt1 ext_lt2 ext_lt3 lt_n2 lt_n3 lt_n4 lt_n5 lt_n6

/-- '==' between two arrays of five words. -/
theorem eq_wide (a0 a1 a2 a3 a4 b0 b1 b2 b3 b4 : Int) (w : World) :
    (Op.equalIn 10000 85 (.agg #[.int .u64 a0, .int .u64 a1, .int .u64 a2, .int .u64 a3, .int .u64 a4]) (.agg #[.int .u64 b0, .int .u64 b1, .int .u64 b2, .int .u64 b3, .int .u64 b4])).run Tryd.prog w = .ok ((a0 == b0) && ((a1 == b1) && ((a2 == b2) && ((a3 == b3) && (a4 == b4))))) w := by
  obtain ⟨i, hi⟩ : ∃ i, Tryd.prog.info? 35 = some i := Option.isSome_iff_exists.1 (by kernel_rfl)
  rw [show (10000 : Nat) = 9999 + 1 from rfl, run_equalIn_array (P := Tryd.prog) w 9999 _ _ Tryd.underlying85 hi]
  have hc : Tryd.prog.cellsOf 35 = 1 := by kernel_rfl
  rw [hc]
  simp [Op.eqItems, List.range, List.range.loop, go_sem]
  by_cases h0 : a0 = b0 <;> by_cases h1 : a1 = b1 <;> by_cases h2 : a2 = b2 <;> by_cases h3 : a3 = b3 <;> by_cases h4 : a4 = b4 <;> simp [h0, h1, h2, h3, h4]
theorem same_words {m n : Nat} (hm : m < B ^ 5) (hn : n < B ^ 5) : ((wd m 0 == wd n 0) && ((wd m 1 == wd n 1) && ((wd m 2 == wd n 2) && ((wd m 3 == wd n 3) && (wd m 4 == wd n 4))))) = decide (m = n) := by
  rw [Bool.eq_iff_iff]
  simp only [Bool.and_eq_true, beq_iff_eq, decide_eq_true_eq]
  constructor
  · rintro ⟨e0, e1, e2, e3, e4⟩
    have f : ∀ i, wd m i = wd n i → wn m i = wn n i := fun i h => by rw [wd_wn, wd_wn] at h; omega
    have t4 := eq_of_word (less_all hm hn) (f 4 e4)
    have t3 := eq_of_word t4 (f 3 e3)
    have t2 := eq_of_word t3 (f 2 e2)
    have t1 := eq_of_word t2 (f 1 e1)
    have t0 := eq_of_word t1 (f 0 e0)
    simpa using t0
  · rintro rfl; simp
theorem eq_zero {n : Nat} (hn : n < B ^ 5) (w : World) :
    (Op.equalIn 10000 85 (.agg #[.int .u64 (wd (n) 0), .int .u64 (wd (n) 1), .int .u64 (wd (n) 2), .int .u64 (wd (n) 3), .int .u64 (wd (n) 4)]) (.agg #[.int .u64 0, .int .u64 0, .int .u64 0, .int .u64 0, .int .u64 0])).run Tryd.prog w = .ok (decide (n = 0)) w := by
  have h := eq_wide (wd n 0) (wd n 1) (wd n 2) (wd n 3) (wd n 4) (wd 0 0) (wd 0 1) (wd 0 2) (wd 0 3) (wd 0 4) w
  rw [same_words hn (Nat.pow_pos B_pos)] at h
  rw [wd_zero, wd_zero, wd_zero, wd_zero, wd_zero] at h
  exact h
theorem eq_same {m n : Nat} (hm : m < B ^ 5) (hn : n < B ^ 5) (w : World) :
    (Op.equalIn 10000 85 (.agg #[.int .u64 (wd (m) 0), .int .u64 (wd (m) 1), .int .u64 (wd (m) 2), .int .u64 (wd (m) 3), .int .u64 (wd (m) 4)]) (.agg #[.int .u64 (wd (n) 0), .int .u64 (wd (n) 1), .int .u64 (wd (n) 2), .int .u64 (wd (n) 3), .int .u64 (wd (n) 4)])).run Tryd.prog w = .ok (decide (m = n)) w := by
  rw [eq_wide, same_words hm hn]

def sgn (c : Int) : Int := if c < 0 then -1 else if c = 0 then 0 else 1

set_option maxHeartbeats 400000 in
set_option maxRecDepth 100000 in
theorem sign_any (neg : Bool) (n : Nat) (w : World) (hn : n < B ^ 5) :
    Calls Tryd.prog 64 #[.agg #[.bool neg, .int .u64 (wd (n) 0), .int .u64 (wd (n) 1), .int .u64 (wd (n) 2), .int .u64 (wd (n) 3), .int .u64 (wd (n) 4)]] w
      fun e w' => e = .returned (.int .i64 (sgn (sv neg n))) ∧ Below w.heap.size w w' := by
  have he := fun w => eq_zero hn w
  by_cases h0 : n = 0
  · have hd : decide (n = 0) = true := by simp [h0]
    have fin : Hid (sgn (sv neg n) = 0) := by show _ = _; subst h0; cases neg <;> rfl
    clear h0 hn
    rw [fin.out]
    go_enter Tryd.func64, Tryd.ntmps64
    go_wp2
    go_ret
    refine ⟨rfl, ?_⟩
    repeat (first | exact Below.refl _ _ | refine Below.drew ?_ | refine below_drewN ?_ _ | refine bel_alloc ?_ _ | refine bel_ext ?_ _ | (refine Below.setCell ?_ ?_ _; rotate_left; (simp <;> omega)))
  · have hd : decide (n = 0) = false := by simp [h0]
    cases neg
    · have fin : Hid (sgn (sv false n) = 1) := by show _ = _; unfold sgn sv; simp; omega
      clear h0 hn
      rw [fin.out]
      go_enter Tryd.func64, Tryd.ntmps64
      go_wp2
      go_ret
      refine ⟨rfl, ?_⟩
      repeat (first | exact Below.refl _ _ | refine Below.drew ?_ | refine below_drewN ?_ _ | refine bel_alloc ?_ _ | refine bel_ext ?_ _ | (refine Below.setCell ?_ ?_ _; rotate_left; (simp <;> omega)))
    · have fin : Hid (sgn (sv true n) = -1) := by show _ = _; unfold sgn sv; simp; omega
      clear h0 hn
      rw [fin.out]
      go_enter Tryd.func64, Tryd.ntmps64
      go_wp2
      go_ret
      refine ⟨rfl, ?_⟩
      repeat (first | exact Below.refl _ _ | refine Below.drew ?_ | refine below_drewN ?_ _ | refine bel_alloc ?_ _ | refine bel_ext ?_ _ | (refine Below.setCell ?_ ?_ _; rotate_left; (simp <;> omega)))

/-! the sum of two numbers with a sign -/
def padd (a : Bool × Nat) (b : Bool × Nat) : Bool × Nat := if a.1 = b.1 then (a.1, a.2 + b.2) else if a.2 < b.2 then (b.1, b.2 - a.2) else (a.1, a.2 - b.2)
theorem padd_sv (a b : Bool × Nat) : sv (padd a b).1 (padd a b).2 = sv a.1 a.2 + sv b.1 b.2 := by
  obtain ⟨s, m⟩ := a
  obtain ⟨t, n⟩ := b
  unfold padd sv
  cases s <;> cases t <;> simp <;> (try split) <;> (try simp) <;> omega
theorem padd_le (a b : Bool × Nat) : (padd a b).2 ≤ a.2 + b.2 := by unfold padd; split <;> (try split) <;> simp <;> omega

set_option maxHeartbeats 1000000 in
set_option maxRecDepth 100000 in
theorem nplus_any (s t : Bool) (m n : Nat) (w : World) (hm : m < B ^ 5) (hn : n < B ^ 5) :
    Calls Tryd.prog 60 #[.agg #[.bool s, .int .u64 (wd (m) 0), .int .u64 (wd (m) 1), .int .u64 (wd (m) 2), .int .u64 (wd (m) 3), .int .u64 (wd (m) 4)], .agg #[.bool t, .int .u64 (wd (n) 0), .int .u64 (wd (n) 1), .int .u64 (wd (n) 2), .int .u64 (wd (n) 3), .int .u64 (wd (n) 4)]] w
      fun e w' => e = .returned (.agg #[.bool (padd (s, m) (t, n)).1, .int .u64 (wd ((padd (s, m) (t, n)).2) 0), .int .u64 (wd ((padd (s, m) (t, n)).2) 1), .int .u64 (wd ((padd (s, m) (t, n)).2) 2), .int .u64 (wd ((padd (s, m) (t, n)).2) 3), .int .u64 (wd ((padd (s, m) (t, n)).2) 4)]) ∧ Below w.heap.size w w' := by
  by_cases hs : s = t
  · have hb : (s == t) = true := by simp [hs]
    have e : padd (s, m) (t, n) = (s, m + n) := by unfold padd; simp [hs]
    rw [e]
    clear e hs
    go_enter Tryd.func60, Tryd.ntmps60
    go_wp2
    refine wp_region_ext 8 (by kernel_rfl) (by kernel_rfl) ?_
    iterate 8 (refine wpQuiet_step (fun K hK => ?_); go_simp; first | (refine hK _ ?_; clear hK K) | (apply Exists.intro; refine ⟨fun xq => ?_, hK _ ?_⟩; (go_at_call 74; exact calls_ext (plus_any m n _ _ _ _ _ _ _ _ _ _ _ (IsW.self _) (IsW.self _))); clear hK K))
    refine wpQuiet_nil ?_
    intro xq
    simp only [List.drop_succ_cons, List.drop_zero]
    go_wp2
    refine bodyPost_ret (v := .agg _) (by simp [results, Tryd.results60, go_sem]) rfl ⟨rfl, ?_⟩
    repeat (first | exact Below.refl _ _ | refine Below.drew ?_ | refine below_drewN ?_ _ | refine bel_alloc ?_ _ | refine bel_ext ?_ _ | (refine Below.setCell ?_ ?_ _; rotate_left; (simp <;> omega)))
  · have hb : (s == t) = false := by simp [hs]
    by_cases hl : m < n
    · have hd : decide (m < n) = true := by simp [hl]
      have e : padd (s, m) (t, n) = (t, n - m) := by unfold padd; simp [hs, hl]
      rw [e]
      clear e hs
      go_enter Tryd.func60, Tryd.ntmps60
      go_wp2_with (go_at_call 75; refine (below_any m n _ _ _ _ _ _ _ _ _ _ _ (IsW.self _) (IsW.self _) hm hn).mono ?_; rintro e w1 ⟨rfl, hb1⟩; obtain ⟨x, rfl⟩ := ext_of_below hb1; clear hb1)
      refine wp_region_ext 8 (by kernel_rfl) (by kernel_rfl) ?_
      iterate 8 (refine wpQuiet_step (fun K hK => ?_); go_simp; first | (refine hK _ ?_; clear hK K) | (apply Exists.intro; refine ⟨fun xq => ?_, hK _ ?_⟩; (go_at_call 76; exact calls_ext (minus_any n m _ _ _ _ _ _ _ _ _ _ _ (IsW.self _) (IsW.self _) (Nat.le_of_lt hl))); clear hK K))
      refine wpQuiet_nil ?_
      intro xq
      simp only [List.drop_succ_cons, List.drop_zero]
      go_wp2
      refine bodyPost_ret (v := .agg _) (by simp [results, Tryd.results60, go_sem]) rfl ⟨rfl, ?_⟩
      repeat (first | exact Below.refl _ _ | refine Below.drew ?_ | refine below_drewN ?_ _ | refine bel_alloc ?_ _ | refine bel_ext ?_ _ | (refine Below.setCell ?_ ?_ _; rotate_left; (simp <;> omega)))
    · have hd : decide (m < n) = false := by simp [hl]
      have e : padd (s, m) (t, n) = (s, m - n) := by unfold padd; simp [hs, hl]
      rw [e]
      have hl2 : n ≤ m := by omega
      clear e hs hl
      go_enter Tryd.func60, Tryd.ntmps60
      go_wp2_with (go_at_call 75; refine (below_any m n _ _ _ _ _ _ _ _ _ _ _ (IsW.self _) (IsW.self _) hm hn).mono ?_; rintro e w1 ⟨rfl, hb1⟩; obtain ⟨x, rfl⟩ := ext_of_below hb1; clear hb1)
      refine wp_region_ext 8 (by kernel_rfl) (by kernel_rfl) ?_
      iterate 8 (refine wpQuiet_step (fun K hK => ?_); go_simp; first | (refine hK _ ?_; clear hK K) | (apply Exists.intro; refine ⟨fun xq => ?_, hK _ ?_⟩; (go_at_call 76; exact calls_ext (minus_any m n _ _ _ _ _ _ _ _ _ _ _ (IsW.self _) (IsW.self _) hl2)); clear hK K))
      refine wpQuiet_nil ?_
      intro xq
      simp only [List.drop_succ_cons, List.drop_zero]
      go_wp2
      refine bodyPost_ret (v := .agg _) (by simp [results, Tryd.results60, go_sem]) rfl ⟨rfl, ?_⟩
      repeat (first | exact Below.refl _ _ | refine Below.drew ?_ | refine below_drewN ?_ _ | refine bel_alloc ?_ _ | refine bel_ext ?_ _ | (refine Below.setCell ?_ ?_ _; rotate_left; (simp <;> omega)))
end Go.Proofs.YtlgcbbnnldlooaaDoor
