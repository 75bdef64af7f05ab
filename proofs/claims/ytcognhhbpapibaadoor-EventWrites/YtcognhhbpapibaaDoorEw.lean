/- event: Read of bytes that are no event's. -/
import Derived.Test.YtcognhhbpapibaaDoorEv
namespace Go.Proofs.YtcognhhbpapibaaDoor
open Go.RowKit
set_option linter.unusedVariables false

/-- an event in form that may be written -/
structure E8.good (x : E8) : Prop where
  ok : x.ok
  form : x.form
  wf : ∀ t ∈ x.ts, I64 t.1 ∧ I64 t.2
set_option maxHeartbeats 1000000 in
set_option maxRecDepth 100000 in
theorem read_no (v : Value) (bs : List Nat) (w : World) (T : Tc w) (hv : Bs w v bs) (hl : bs.length ≤ 4096) (hno : ∀ x : E8, x.good → x.bytes ≠ bs) :
    Calls Tryd.prog 17 #[v] w fun r w' => r = .returned (.tuple #[.agg (E8.cells ⟨0, 0, List.replicate 8 0, []⟩ (.slice none 0 0)).toArray, .int .i64 3]) ∧ Below w.heap.size w w' := by
  obtain ⟨L, hL⟩ : ∃ L, L = bs.length := ⟨_, rfl⟩
  obtain ⟨a, c, rfl, hlc, hc9⟩ : ∃ a c, v = .slice a L c ∧ L ≤ c ∧ c ≤ 9223372036854775807 := by obtain ⟨_, a, c, e, h1, h2, _⟩ := hv; exact ⟨a, c, by rw [hL]; exact e, by rw [hL]; exact h1, h2⟩
  rw [← hL] at hl
  have hw0 := T.lt
  have HV := (show Hid _ from hv)
  have HT := (show Hid _ from T)
  have HNO := (show Hid _ from hno)
  clear hL hv T hno
  go_enter Tryd.func17, Tryd.ntmps17
  go_wp2_with (refine stA rfl 62 _ _ rfl (w.heap.size + 1) (by rfl) [.slice none 0 0, .bool false] [.slice a L c, .bool false] (by rfl) 62 (by have := va_new (w.alloc (.cells (E8.cells ⟨0, 0, List.replicate 8 0, []⟩ (.slice none 0 0)).toArray 26)) [.slice none 0 0, .bool false] 62; rw [World.size_alloc] at this; exact this) (info62.trans rfl) rfl (fun u hu => by simp at hu; rcases hu with rfl | rfl <;> rfl) ?_; intro w1 V1 U1)
  have D1 := ((Below.refl w.heap.size w).alloc (Nat.le_refl _) (.cells (E8.cells ⟨0, 0, List.replicate 8 0, []⟩ (.slice none 0 0)).toArray 26)).alloc (by simp) (.cells [.slice none 0 0, .bool false].toArray 62)
  have B1 := (show Hid _ from U1.bel D1 (by omega))
  have S0 := (va_new w (E8.cells ⟨0, 0, List.replicate 8 0, []⟩ (.slice none 0 0)) 26).alloc (.cells [.slice none 0 0, .bool false].toArray 62)
  have S1 := (show Hid _ from S0.upd U1 (by omega))
  have HV1 := (show Hid _ from V1)
  clear D1 S0 U1 V1
  refine (event_any (w.heap.size + 1) bs w _ (HT.out.step B1.out (by omega)) ⟨_, false, bs, HV1.out, HV.out, fun _ => rfl⟩ B1.out (by omega) hw0).mono ?_
  rintro e w2 ⟨⟨x, ta, tn, tc, rfl, xok, hfar, t2', v2, b2, rs, r2, x2, hb⟩, e2⟩
  have hend : Hid (b2 = true ∨ rs ≠ []) := by
    rcases Bool.eq_false_or_eq_true b2 with h | h
    · exact Or.inl h
    · refine Or.inr (fun hr => ?_)
      obtain ⟨g1, g2⟩ := hb h
      rw [hr, List.append_nil] at g2
      exact HNO.out x ⟨xok, g1, t2'.wf⟩ g2
  obtain ⟨M, hM⟩ : ∃ M, M = rs.length := ⟨_, rfl⟩
  obtain ⟨va, vc, rfl, hv1, hv2⟩ : ∃ a c, v2 = .slice a M c ∧ M ≤ c ∧ c ≤ 9223372036854775807 := by obtain ⟨_, a, c, e, h1, h2, _⟩ := x2; exact ⟨a, c, by rw [hM]; exact e, by rw [hM]; exact h1, h2⟩
  have hend2 : Hid (b2 = true ∨ 0 < M) := by
    rcases hend.out with h | h
    · exact Or.inl h
    · exact Or.inr (by rw [hM]; exact List.length_pos_iff.2 h)
  have S2 := (show Hid _ from S1.out.ex e2 (by omega))
  have B2 := (show Hid _ from e2.below B1.out (show w.heap.size ≤ w.heap.size + 1 by omega) B1.out.size)
  have l11 := E8.len11 xok
  have R2 := (show Hid _ from r2)
  have l2 := r2.lt
  have l1 := (show Hid _ from HV1.out.lt)
  clear hfar t2' r2 x2 e2 S1 B1 HV1 HV HT hb hend hM xok HNO
  rcases hend2.out with rfl | hM
  · go_wp2_with (first
      | (refine stA rfl 26 _ _ rfl w2.heap.size (by rfl) (E8.cells ⟨0, 0, List.replicate 8 0, []⟩ (.slice none 0 0)) (x.cells (.slice ta tn tc)) (by rfl) 26 (va_new w2 (E8.cells ⟨0, 0, List.replicate 8 0, []⟩ (.slice none 0 0)) 26) (info26.trans (by rw [l11])) (by rw [l11]; rfl) (fun u hu => ev_one hu) ?_; intro w3 V3 U3; have R3 := (R2.out.alloc (.cells (E8.cells ⟨0, 0, List.replicate 8 0, []⟩ (.slice none 0 0)).toArray 26)).upd U3 (by omega); have q0 := VA.cell R3 0 (v := .slice va M vc) rfl; have q1 := VA.cell R3 1 (v := .bool true) rfl; have S3 := (S2.out.alloc (.cells (E8.cells ⟨0, 0, List.replicate 8 0, []⟩ (.slice none 0 0)).toArray 26)).upd U3 (by omega))
      | (refine stA rfl 26 _ _ rfl w.heap.size (by rfl) _ (E8.cells ⟨0, 0, List.replicate 8 0, []⟩ (.slice none 0 0)) (by rfl) _ S3 (info26.trans rfl) rfl (fun u hu => ev_one hu) ?_; intro w4 R4 U4))
    have D3 := U3.bel ((Below.refl w2.heap.size w2).alloc (Nat.le_refl _) (.cells (E8.cells ⟨0, 0, List.replicate 8 0, []⟩ (.slice none 0 0)).toArray 26)) (Nat.le_refl _)
    have B4 := U4.bel (B2.out.trans (D3.mono B2.out.size)) (Nat.le_refl _)
    refine bodyPost_ret (v := .tuple #[.agg (E8.cells ⟨0, 0, List.replicate 8 0, []⟩ (.slice none 0 0)).toArray, .int .i64 3]) ?_ rfl ⟨rfl, B4⟩
    have hld := run_loadVar_row (P := Tryd.prog) w4 w.heap.size 26 26 _ (0, 0) _ R4.blk Tryd.underlying26 rfl (info26.trans rfl)
    simp [results, Tryd.results17, asAddr, hld]
  · cases b2
    · have d1 : (0 : Int) < (M : Int) := by omega
      go_wp2_with (first
        | (refine stA rfl 26 _ _ rfl w2.heap.size (by rfl) (E8.cells ⟨0, 0, List.replicate 8 0, []⟩ (.slice none 0 0)) (x.cells (.slice ta tn tc)) (by rfl) 26 (va_new w2 (E8.cells ⟨0, 0, List.replicate 8 0, []⟩ (.slice none 0 0)) 26) (info26.trans (by rw [l11])) (by rw [l11]; rfl) (fun u hu => ev_one hu) ?_; intro w3 V3 U3; have R3 := (R2.out.alloc (.cells (E8.cells ⟨0, 0, List.replicate 8 0, []⟩ (.slice none 0 0)).toArray 26)).upd U3 (by omega); have q0 := VA.cell R3 0 (v := .slice va M vc) rfl; have q1 := VA.cell R3 1 (v := .bool false) rfl; have S3 := (S2.out.alloc (.cells (E8.cells ⟨0, 0, List.replicate 8 0, []⟩ (.slice none 0 0)).toArray 26)).upd U3 (by omega))
        | (refine stA rfl 26 _ _ rfl w.heap.size (by rfl) _ (E8.cells ⟨0, 0, List.replicate 8 0, []⟩ (.slice none 0 0)) (by rfl) _ S3 (info26.trans rfl) rfl (fun u hu => ev_one hu) ?_; intro w4 R4 U4))
      have D3 := U3.bel ((Below.refl w2.heap.size w2).alloc (Nat.le_refl _) (.cells (E8.cells ⟨0, 0, List.replicate 8 0, []⟩ (.slice none 0 0)).toArray 26)) (Nat.le_refl _)
      have B4 := U4.bel (B2.out.trans (D3.mono B2.out.size)) (Nat.le_refl _)
      refine bodyPost_ret (v := .tuple #[.agg (E8.cells ⟨0, 0, List.replicate 8 0, []⟩ (.slice none 0 0)).toArray, .int .i64 3]) ?_ rfl ⟨rfl, B4⟩
      have hld := run_loadVar_row (P := Tryd.prog) w4 w.heap.size 26 26 _ (0, 0) _ R4.blk Tryd.underlying26 rfl (info26.trans rfl)
      simp [results, Tryd.results17, asAddr, hld]
    · go_wp2_with (first
        | (refine stA rfl 26 _ _ rfl w2.heap.size (by rfl) (E8.cells ⟨0, 0, List.replicate 8 0, []⟩ (.slice none 0 0)) (x.cells (.slice ta tn tc)) (by rfl) 26 (va_new w2 (E8.cells ⟨0, 0, List.replicate 8 0, []⟩ (.slice none 0 0)) 26) (info26.trans (by rw [l11])) (by rw [l11]; rfl) (fun u hu => ev_one hu) ?_; intro w3 V3 U3; have R3 := (R2.out.alloc (.cells (E8.cells ⟨0, 0, List.replicate 8 0, []⟩ (.slice none 0 0)).toArray 26)).upd U3 (by omega); have q0 := VA.cell R3 0 (v := .slice va M vc) rfl; have q1 := VA.cell R3 1 (v := .bool true) rfl; have S3 := (S2.out.alloc (.cells (E8.cells ⟨0, 0, List.replicate 8 0, []⟩ (.slice none 0 0)).toArray 26)).upd U3 (by omega))
        | (refine stA rfl 26 _ _ rfl w.heap.size (by rfl) _ (E8.cells ⟨0, 0, List.replicate 8 0, []⟩ (.slice none 0 0)) (by rfl) _ S3 (info26.trans rfl) rfl (fun u hu => ev_one hu) ?_; intro w4 R4 U4))
      have D3 := U3.bel ((Below.refl w2.heap.size w2).alloc (Nat.le_refl _) (.cells (E8.cells ⟨0, 0, List.replicate 8 0, []⟩ (.slice none 0 0)).toArray 26)) (Nat.le_refl _)
      have B4 := U4.bel (B2.out.trans (D3.mono B2.out.size)) (Nat.le_refl _)
      refine bodyPost_ret (v := .tuple #[.agg (E8.cells ⟨0, 0, List.replicate 8 0, []⟩ (.slice none 0 0)).toArray, .int .i64 3]) ?_ rfl ⟨rfl, B4⟩
      have hld := run_loadVar_row (P := Tryd.prog) w4 w.heap.size 26 26 _ (0, 0) _ R4.blk Tryd.underlying26 rfl (info26.trans rfl)
      simp [results, Tryd.results17, asAddr, hld]
end Go.Proofs.YtcognhhbpapibaaDoor
