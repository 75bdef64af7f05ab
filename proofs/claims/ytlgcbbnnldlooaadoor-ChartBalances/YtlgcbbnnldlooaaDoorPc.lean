/- The contracts of Sub and Cmp (package dec). -/
import Derived.Test.YtlgcbbnnldlooaaDoorM7
import Derived.Test.YtlgcbbnnldlooaaDoorEz
namespace Go.Proofs.YtlgcbbnnldlooaaDoor
open Go.RowKit
set_option linter.unusedVariables false
attribute [local go_sem] ext_cell ext_frozen ext_drew ext_of_drew ext_of_drewN ext_setCell ext_lt ext_lt1 ext_lt2 ext_lt3 lt_n2 lt_n3 lt_n4 lt_n5 lt_n6

theorem setCell_at {w : World} {b i : Nat} {c : Array Value} {t : TypeId} (h : w.heap[b]? = some (.cells c t)) (v : Value) : (w.setCell ⟨b, i, none⟩ v).heap[b]? = some (.cells (c.setIfInBounds i v) t) := by
  simp [World.setCell, Array.getElem?_modify, h]
theorem set6_at {w : World} {b : Nat} (h : w.heap[b]? = some (.cells #[.bool false, .int .u64 0, .int .u64 0, .int .u64 0, .int .u64 0, .int .u64 0] 87)) (neg : Bool) (n : Nat) :
    (set6 w b neg n).heap[b]? = some (.cells #[.bool neg, .int .u64 (wd n 0), .int .u64 (wd n 1), .int .u64 (wd n 2), .int .u64 (wd n 3), .int .u64 (wd n 4)] 87) :=
  setCell_at (setCell_at (setCell_at (setCell_at (setCell_at (setCell_at h _) _) _) _) _) _
set_option maxHeartbeats 1000000 in
set_option maxRecDepth 100000 in
theorem cmp_ok (ca ha la cb hb lb : Int) (sa sb : Nat) (w : World) (da : IsD ca ha la) (db : IsD cb hb lb) (ia : InR ca) (ib : InR cb) (hsa : (sa : Int) ≤ 18) (hsb : (sb : Int) ≤ 18) :
    Calls Tryd.prog 48 #[.agg #[.int .i64 ha, .int .u64 la, .int .i64 sa], .agg #[.int .i64 hb, .int .u64 lb, .int .i64 sb]] w
      fun e w' => e = .returned (.tuple #[.int .i64 (sgn (sv (tot ca sa (-cb) sb).1 (tot ca sa (-cb) sb).2)), .int .i64 0]) ∧ Below w.heap.size w w' := by
  obtain ⟨rfl, rfl⟩ := da
  obtain ⟨rfl, rfl⟩ := db
  have n5 : (tot ca sa (-cb) sb).2 < B ^ 5 := tot_lt _ _ _ _ ia (InR.neg ib) hsa hsb
  have N5 := (show Hid _ from n5)
  clear n5
  go_enter Tryd.func48, Tryd.ntmps48
  go_wp2_with (go_at_call 42; refine (both_ok ca _ _ cb _ _ sa sb _ (IsD.self _) (IsD.self _) ia ib hsa hsb).mono ?_; rintro e w1 ⟨rfl, hb1⟩; obtain ⟨x, rfl⟩ := ext_of_below hb1; clear hb1)
  refine wp_region_def (done := #[true, true, true, true, true, true, true, false, false, false]) (all := #[true, true, true, true, true, true, true, true, true, true]) [0, 1, 2, 3, 4, 5, 6] [9] 7 8 _ _ (.cells #[.bool false, .int .u64 0, .int .u64 0, .int .u64 0, .int .u64 0, .int .u64 0] 87) (.cells #[.bool (tot ca sa (-cb) sb).1, .int .u64 (wd (tot ca sa (-cb) sb).2 0), .int .u64 (wd (tot ca sa (-cb) sb).2 1), .int .u64 (wd (tot ca sa (-cb) sb).2 2), .int .u64 (wd (tot ca sa (-cb) sb).2 3), .int .u64 (wd (tot ca sa (-cb) sb).2 4)] 87) (by kernel_rfl) (by kernel_rfl) (by kernel_rfl) (by kernel_rfl) rfl rfl (fun _ _ => ⟨rfl, rfl⟩) (by kernel_rfl) (by kernel_rfl) (by kernel_rfl) ?_
  iterate 2 (refine wpG_step (fun K hK => ?_); go_simp; refine hK _ ?_; clear hK K)
  refine wpG_step (fun K hK => ?_)
  go_simp
  apply Exists.intro
  refine ⟨fun xq => ?_, hK _ ?_⟩
  · exact opposite_any cb _ _ _ _ (IsD.self _) ib
  clear hK K
  refine wpG_step (fun K hK => ?_)
  go_simp
  apply Exists.intro
  refine ⟨fun xq => ?_, hK _ ?_⟩
  · exact total_any ca _ _ (-cb) _ _ sa sb _ (IsD.self _) (IsD.self _) ia (InR.neg ib) hsa hsb
  clear hK K
  iterate 3 (refine wpG_step (fun K hK => ?_); go_simp; refine hK _ ?_; clear hK K)
  refine wpG_nil ?_
  intro b hb
  refine ⟨⟨rfl, rfl, fun w2 hl hO => ⟨set6 w2 b (tot ca sa (-cb) sb).1 (tot ca sa (-cb) sb).2, ?_, set6_below hl hb _ _, set6_at hO _ _⟩⟩, ?_⟩
  · have q := fun i => block_cell hO i
    have g := fun i => block_frozen hO i
    go_simp
    rfl
  refine wpG_step (fun K hK => ?_)
  go_simp
  refine hK _ ?_
  clear hK K
  refine wpG_nil ?_
  intro w3 hl hO
  have q := fun i => block_cell hO i
  have hlt := block_lt hO
  have bel0 : Below w.heap.size w w3 := Below.trans (b := _) (by repeat (first | exact Below.refl _ _ | refine Below.drew ?_ | refine below_drewN ?_ _ | refine bel_alloc ?_ _ | refine bel_ext ?_ _ | (refine Below.setCell ?_ ?_ _; rotate_left; (simp <;> omega)))) (Below.mono hl (by rw [ext_size]; simp <;> omega))
  clear hO hl hb
  
  go_wp2_with (go_at_call 64; refine (sign_any _ _ _ N5.out).mono ?_; rintro e w1 ⟨rfl, hb1⟩; obtain ⟨v, rfl⟩ := ext_of_below hb1; clear hb1)
  refine bodyPost_ret (v := .tuple #[.int .i64 (sgn (sv (tot ca sa (-cb) sb).1 (tot ca sa (-cb) sb).2)), .int .i64 0]) (by simp [results, Tryd.results48, go_sem]) rfl ⟨rfl, ?_⟩
  exact bel_ext bel0 _
set_option maxHeartbeats 400000 in
set_option maxRecDepth 100000 in
theorem cmp_bad (ha la sa hb lb sb : Int) (w : World) (hc : ∀ w : World, Calls Tryd.prog 42 #[.agg #[.int .i64 ha, .int .u64 la, .int .i64 sa], .agg #[.int .i64 hb, .int .u64 lb, .int .i64 sb]] w fun e w' => e = .returned (.int .i64 3) ∧ Below w.heap.size w w') :
    Calls Tryd.prog 48 #[.agg #[.int .i64 ha, .int .u64 la, .int .i64 sa], .agg #[.int .i64 hb, .int .u64 lb, .int .i64 sb]] w
      fun e w' => e = .returned (.tuple #[.int .i64 0, .int .i64 3]) ∧ Below w.heap.size w w' := by
  have H := (show Hid _ from hc)
  clear hc
  go_enter Tryd.func48, Tryd.ntmps48
  go_wp2_with (go_at_call 42; refine (H.out _).mono ?_; rintro e w1 ⟨rfl, hb1⟩; obtain ⟨x, rfl⟩ := ext_of_below hb1; clear hb1)
  refine bodyPost_ret (v := .tuple #[.int .i64 0, .int .i64 3]) (by simp [results, Tryd.results48, go_sem]) rfl ⟨rfl, ?_⟩
  repeat (first | exact Below.refl _ _ | refine Below.drew ?_ | refine below_drewN ?_ _ | refine bel_alloc ?_ _ | refine bel_ext ?_ _ | (refine Below.setCell ?_ ?_ _; rotate_left; (simp <;> omega)))
end Go.Proofs.YtlgcbbnnldlooaaDoor
