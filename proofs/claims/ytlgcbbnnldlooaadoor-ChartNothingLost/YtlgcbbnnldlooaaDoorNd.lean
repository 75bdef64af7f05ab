/- The contracts of raised and total (package dec). -/
import Derived.Test.YtlgcbbnnldlooaaDoorNc
namespace Go.Proofs.YtlgcbbnnldlooaaDoor
open Go.RowKit
set_option linter.unusedVariables false
attribute [local go_sem] ext_cell ext_frozen ext_drew ext_of_drew ext_of_drewN ext_setCell ext_lt ext_lt1 ext_lt2 ext_lt3 lt_n2 lt_n3 lt_n4 lt_n5 lt_n6

/-- A size at a greater scale. -/
def up10 (n s t : Nat) : Nat := n * 10 ^ (t - s)

set_option maxHeartbeats 1000000 in
set_option maxRecDepth 100000 in
theorem raised_any (c h l : Int) (s t : Nat) (w : World) (hd : IsD c h l) (hc : InR c) (hs : (s : Int) ≤ 18) (ht : (t : Int) ≤ 18) (hst : (s : Int) ≤ (t : Int)) :
    Calls Tryd.prog 59 #[.agg #[.int .i64 h, .int .u64 l, .int .i64 s], .int .i64 t] w
      fun e w' => e = .returned (.agg #[.bool (decide (c < 0)), .int .u64 (wd (up10 c.natAbs s t) 0), .int .u64 (wd (up10 c.natAbs s t) 1), .int .u64 (wd (up10 c.natAbs s t) 2), .int .u64 (wd (up10 c.natAbs s t) 3), .int .u64 (wd (up10 c.natAbs s t) 4)]) ∧ Below w.heap.size w w' := by
  obtain ⟨rfl, rfl⟩ := hd
  obtain ⟨u, hu⟩ : ∃ u, u = t - s := ⟨_, rfl⟩
  have eu : (t : Int) - (s : Int) = (u : Int) := by omega
  have hu3 : u ≤ 1000 := by omega
  have hup : up10 c.natAbs s t = c.natAbs * 10 ^ u := by rw [hu]; rfl
  rw [hup]
  clear hu hup
  go_enter Tryd.func59, Tryd.ntmps59
  go_wp2_with (first | (go_at_call 72; refine (numberOf_any c _ _ _ _ (IsD.self _) hc).mono ?_; rintro e w1 ⟨rfl, hb1⟩; obtain ⟨x, rfl⟩ := ext_of_below hb1; clear hb1) | (go_at_call 73; refine (ten_any c.natAbs u _ _ _ _ _ _ (IsW.self _) hu3).mono ?_; rintro e w1 ⟨rfl, hb1⟩; obtain ⟨y, rfl⟩ := ext_of_below hb1; clear hb1))
  refine bodyPost_ret (v := .agg _) (by simp [results, Tryd.results59, go_sem]) rfl ⟨rfl, ?_⟩
  repeat (first | exact Below.refl _ _ | refine Below.drew ?_ | refine below_drewN ?_ _ | refine bel_alloc ?_ _ | refine bel_ext ?_ _ | (refine Below.setCell ?_ ?_ _; rotate_left; (simp <;> omega)))

theorem natAbs_lt {c : Int} (hc : InR c) : c.natAbs < 2 ^ 127 := by
  have := hc.lo; have := hc.hi; rw [M127_eq] at *; omega
theorem ten_lt {n u : Nat} (hn : n < 2 ^ 127) (hu : u ≤ 18) : n * 10 ^ u < B ^ 4 := by
  have h1 : 10 ^ u ≤ 10 ^ 18 := Nat.pow_le_pow_right (by decide) hu
  have h2 : n * 10 ^ u ≤ 2 ^ 127 * 10 ^ 18 := Nat.mul_le_mul (Nat.le_of_lt hn) h1
  exact Nat.lt_of_le_of_lt h2 (by decide)
theorem B45 {n : Nat} (h : n < B ^ 4) : n < B ^ 5 := Nat.lt_of_lt_of_le h (Nat.pow_le_pow_right B_pos (by decide))

/-- The sum's sign and size, and its scale. -/
def tot (ca : Int) (sa : Nat) (cb : Int) (sb : Nat) : Bool × Nat :=
  padd (decide (ca < 0), up10 ca.natAbs sa (max sa sb)) (decide (cb < 0), up10 cb.natAbs sb (max sa sb))

set_option maxHeartbeats 1000000 in
set_option maxRecDepth 100000 in
theorem total_le (ca cb : Int) (sa sb : Nat) (w : World) (ia : InR ca) (ib : InR cb) (hsa : (sa : Int) ≤ 18) (hsb : (sb : Int) ≤ 18) (hc : (sa : Int) < (sb : Int)) :
    Calls Tryd.prog 43 #[.agg #[.int .i64 (dhi ca), .int .u64 (dlo ca), .int .i64 sa], .agg #[.int .i64 (dhi cb), .int .u64 (dlo cb), .int .i64 sb]] w
      fun e w' => e = .returned (.tuple #[.agg #[.bool (tot ca sa cb sb).1, .int .u64 (wd ((tot ca sa cb sb).2) 0), .int .u64 (wd ((tot ca sa cb sb).2) 1), .int .u64 (wd ((tot ca sa cb sb).2) 2), .int .u64 (wd ((tot ca sa cb sb).2) 3), .int .u64 (wd ((tot ca sa cb sb).2) 4)], .int .i64 ((max sa sb : Nat) : Int)]) ∧ Below w.heap.size w w' := by
  have HA : Hid (up10 ca.natAbs sa sb < B ^ 5) := B45 (ten_lt (natAbs_lt ia) (show sb - sa ≤ 18 by omega))
  have HB : Hid (up10 cb.natAbs sb sb < B ^ 5) := B45 (ten_lt (natAbs_lt ib) (show sb - sb ≤ 18 by omega))
  unfold tot
  have HT : max sa sb = sb := by omega
  rw [HT]
  clear HT
  go_enter Tryd.func43, Tryd.ntmps43
  go_wp2
  refine wp_region_any (by kernel_rfl) ?_
  refine wpAny_take (i := 7) rfl (by kernel_rfl) (by kernel_rfl) (by kernel_rfl) (fun _ _ _ h => h) (Or.inl ⟨rfl, fun _ => rfl⟩) ?_
  refine wpAny_exti 8 [7] [0, 1, 2, 3, 4, 5, 6] (by kernel_rfl) (by kernel_rfl) rfl (ext_drawn _) ?_
  iterate 2 (refine wpQuiet_step (fun K hK => ?_); go_simp; refine hK _ ?_; clear hK K)
  refine wpQuiet_step (fun K hK => ?_)
  go_simp
  apply Exists.intro
  refine ⟨fun xq => ?_, hK _ ?_⟩
  · exact calls_ext (raised_any ca _ _ sa sb _ (IsD.self _) ia hsa hsb (Int.le_of_lt hc))
  clear hK K
  iterate 2 (refine wpQuiet_step (fun K hK => ?_); go_simp; refine hK _ ?_; clear hK K)
  refine wpQuiet_step (fun K hK => ?_)
  go_simp
  apply Exists.intro
  refine ⟨fun xq => ?_, hK _ ?_⟩
  · exact calls_ext (raised_any cb _ _ sb sb _ (IsD.self _) ib hsb hsb (Int.le_refl _))
  clear hK K
  refine wpQuiet_step (fun K hK => ?_)
  go_simp
  apply Exists.intro
  refine ⟨fun xq => ?_, hK _ ?_⟩
  · exact calls_ext (nplus_any _ _ _ _ _ HA.out HB.out)
  clear hK K
  refine wpQuiet_nil ?_
  intro xq
  simp only [List.drop_succ_cons, List.drop_zero]
  go_wp2
  refine bodyPost_ret (v := .tuple #[.agg _, .int .i64 _]) (by simp [results, Tryd.results43, go_sem]) rfl ⟨rfl, ?_⟩
  repeat (first | exact Below.refl _ _ | refine Below.drew ?_ | refine below_drewN ?_ _ | refine bel_alloc ?_ _ | refine bel_ext ?_ _ | (refine Below.setCell ?_ ?_ _; rotate_left; (simp <;> omega)))
set_option maxHeartbeats 1000000 in
set_option maxRecDepth 100000 in
theorem total_gt (ca cb : Int) (sa sb : Nat) (w : World) (ia : InR ca) (ib : InR cb) (hsa : (sa : Int) ≤ 18) (hsb : (sb : Int) ≤ 18) (hc : (sb : Int) ≤ (sa : Int)) :
    Calls Tryd.prog 43 #[.agg #[.int .i64 (dhi ca), .int .u64 (dlo ca), .int .i64 sa], .agg #[.int .i64 (dhi cb), .int .u64 (dlo cb), .int .i64 sb]] w
      fun e w' => e = .returned (.tuple #[.agg #[.bool (tot ca sa cb sb).1, .int .u64 (wd ((tot ca sa cb sb).2) 0), .int .u64 (wd ((tot ca sa cb sb).2) 1), .int .u64 (wd ((tot ca sa cb sb).2) 2), .int .u64 (wd ((tot ca sa cb sb).2) 3), .int .u64 (wd ((tot ca sa cb sb).2) 4)], .int .i64 ((max sa sb : Nat) : Int)]) ∧ Below w.heap.size w w' := by
  have HA : Hid (up10 ca.natAbs sa sa < B ^ 5) := B45 (ten_lt (natAbs_lt ia) (show sa - sa ≤ 18 by omega))
  have HB : Hid (up10 cb.natAbs sb sa < B ^ 5) := B45 (ten_lt (natAbs_lt ib) (show sa - sb ≤ 18 by omega))
  unfold tot
  have HT : max sa sb = sa := by omega
  rw [HT]
  clear HT
  go_enter Tryd.func43, Tryd.ntmps43
  go_wp2
  refine wp_region_any (by kernel_rfl) ?_
  refine wpAny_take (i := 7) rfl (by kernel_rfl) (by kernel_rfl) (by kernel_rfl) (fun _ _ _ h => h) (Or.inl ⟨rfl, fun _ => rfl⟩) ?_
  refine wpAny_exti 8 [7] [0, 1, 2, 3, 4, 5, 6] (by kernel_rfl) (by kernel_rfl) rfl (ext_drawn _) ?_
  iterate 2 (refine wpQuiet_step (fun K hK => ?_); go_simp; refine hK _ ?_; clear hK K)
  refine wpQuiet_step (fun K hK => ?_)
  go_simp
  apply Exists.intro
  refine ⟨fun xq => ?_, hK _ ?_⟩
  · exact calls_ext (raised_any ca _ _ sa sa _ (IsD.self _) ia hsa hsa (Int.le_refl _))
  clear hK K
  iterate 2 (refine wpQuiet_step (fun K hK => ?_); go_simp; refine hK _ ?_; clear hK K)
  refine wpQuiet_step (fun K hK => ?_)
  go_simp
  apply Exists.intro
  refine ⟨fun xq => ?_, hK _ ?_⟩
  · exact calls_ext (raised_any cb _ _ sb sa _ (IsD.self _) ib hsb hsa hc)
  clear hK K
  refine wpQuiet_step (fun K hK => ?_)
  go_simp
  apply Exists.intro
  refine ⟨fun xq => ?_, hK _ ?_⟩
  · exact calls_ext (nplus_any _ _ _ _ _ HA.out HB.out)
  clear hK K
  refine wpQuiet_nil ?_
  intro xq
  simp only [List.drop_succ_cons, List.drop_zero]
  go_wp2
  refine bodyPost_ret (v := .tuple #[.agg _, .int .i64 _]) (by simp [results, Tryd.results43, go_sem]) rfl ⟨rfl, ?_⟩
  repeat (first | exact Below.refl _ _ | refine Below.drew ?_ | refine below_drewN ?_ _ | refine bel_alloc ?_ _ | refine bel_ext ?_ _ | (refine Below.setCell ?_ ?_ _; rotate_left; (simp <;> omega)))
theorem total_any (ca ha la cb hb lb : Int) (sa sb : Nat) (w : World) (da : IsD ca ha la) (db : IsD cb hb lb) (ia : InR ca) (ib : InR cb) (hsa : (sa : Int) ≤ 18) (hsb : (sb : Int) ≤ 18) :
    Calls Tryd.prog 43 #[.agg #[.int .i64 ha, .int .u64 la, .int .i64 sa], .agg #[.int .i64 hb, .int .u64 lb, .int .i64 sb]] w
      fun e w' => e = .returned (.tuple #[.agg #[.bool (tot ca sa cb sb).1, .int .u64 (wd ((tot ca sa cb sb).2) 0), .int .u64 (wd ((tot ca sa cb sb).2) 1), .int .u64 (wd ((tot ca sa cb sb).2) 2), .int .u64 (wd ((tot ca sa cb sb).2) 3), .int .u64 (wd ((tot ca sa cb sb).2) 4)], .int .i64 ((max sa sb : Nat) : Int)]) ∧ Below w.heap.size w w' := by
  obtain ⟨rfl, rfl⟩ := da
  obtain ⟨rfl, rfl⟩ := db
  rcases Int.lt_or_le (sa : Int) (sb : Int) with c | c
  · exact total_le ca cb sa sb w ia ib hsa hsb c
  · exact total_gt ca cb sa sb w ia ib hsa hsb c
end Go.Proofs.YtlgcbbnnldlooaaDoor
