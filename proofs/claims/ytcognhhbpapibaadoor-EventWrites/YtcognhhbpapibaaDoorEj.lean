/- event: Read of an event's bytes. -/
import Derived.Test.YtcognhhbpapibaaDoorEi
namespace Go.Proofs.YtcognhhbpapibaaDoor
open Go.RowKit
set_option linter.unusedVariables false

theorem bytes_len {x : E8} (hx : x.ok) (hf : x.form) (wf : ∀ t ∈ x.ts, I64 t.1 ∧ I64 t.2) : 1 ≤ x.bytes.length ∧ x.bytes.length ≤ 300 := by
  have h1 := nb_len x.ns (fun i => E8.nbd hx i) (ct.getD x.op 0)
  have h2 := ct_le x.op
  have h3 := enc_len (n := x.key) (by have := hx.key; omega)
  have h4 : x.ts.length ≤ 8 := by have := hf.tiers; unfold most at this; split at this <;> omega
  have h5 := enc_len (n := x.ts.length) (by omega)
  have h6 := tb_len x.ts (fun i => by
    by_cases hi : i < x.ts.length
    · exact wf _ (by simp [hi])
    · simp [List.getD, List.getElem?_eq_none (Nat.le_of_not_lt hi), I64]) x.ts.length
  unfold E8.bytes E8.head
  split <;> simp only [List.length_append, List.length_singleton, List.length_nil] <;> omega
theorem info62 : (Tryd.prog.info? 62).map (·.size) = some 2 := by kernel_rfl
set_option maxHeartbeats 1000000 in
set_option maxRecDepth 100000 in
theorem read_yes (v : Value) (x : E8) (w : World) (hx : x.ok) (hf : x.form) (wf : ∀ t ∈ x.ts, I64 t.1 ∧ I64 t.2) (T : Tc w) (hv : Bs w v x.bytes) :
    Calls Tryd.prog 17 #[v] w fun r w' => (∃ tv, r = .returned (.tuple #[.agg (x.cells tv).toArray, .int .i64 0]) ∧ Tr w' tv x.ts) ∧ Below w.heap.size w w' := by
  obtain ⟨bl1, bl2⟩ := bytes_len hx hf wf
  obtain ⟨L, hL⟩ : ∃ L, L = x.bytes.length := ⟨_, rfl⟩
  obtain ⟨a, c, rfl, hlc, hc9⟩ : ∃ a c, v = .slice a L c ∧ L ≤ c ∧ c ≤ 9223372036854775807 := by obtain ⟨_, a, c, e, h1, h2, _⟩ := hv; exact ⟨a, c, by rw [hL]; exact e, by rw [hL]; exact h1, h2⟩
  rw [← hL] at bl1 bl2
  have hw0 := T.lt
  have HV := (show Hid _ from hv)
  have HT := (show Hid _ from T)
  have HX := (show Hid _ from hx)
  have HF := (show Hid _ from hf)
  have HW := (show Hid _ from wf)
  have l11 := E8.len11 hx
  clear hL hv T hx hf wf
  go_enter Tryd.func17, Tryd.ntmps17
  go_wp2_with (refine stA rfl 62 _ _ rfl (w.heap.size + 1) (by rfl) [.slice none 0 0, .bool false] [.slice a L c, .bool false] (by rfl) 62 (by have := va_new (w.alloc (.cells (E8.cells ⟨0, 0, List.replicate 8 0, []⟩ (.slice none 0 0)).toArray 26)) [.slice none 0 0, .bool false] 62; rw [World.size_alloc] at this; exact this) (info62.trans rfl) rfl (fun u hu => by simp at hu; rcases hu with rfl | rfl <;> rfl) ?_; intro w1 V1 U1)
  have D1 := ((Below.refl w.heap.size w).alloc (Nat.le_refl _) (.cells (E8.cells ⟨0, 0, List.replicate 8 0, []⟩ (.slice none 0 0)).toArray 26)).alloc (by simp) (.cells [.slice none 0 0, .bool false].toArray 62)
  have B1 := (show Hid _ from U1.bel D1 (by omega))
  have S0 := (va_new w (E8.cells ⟨0, 0, List.replicate 8 0, []⟩ (.slice none 0 0)) 26).alloc (.cells [.slice none 0 0, .bool false].toArray 62)
  have S1 := (show Hid _ from S0.upd U1 (by omega))
  have HV1 := (show Hid _ from V1)
  clear D1 S0 U1 V1
  refine (event_yes (w.heap.size + 1) _ x w _ HX.out HF.out HW.out (HT.out.step B1.out (by omega)) HV1.out B1.out (by omega) hw0 HV.out).mono ?_
  rintro e w2 ⟨⟨tv, v2, rfl, hfar, t2', r2, x2⟩, e2⟩
  obtain ⟨ta, tn, tc, rfl⟩ : ∃ a n c, tv = .slice a n c := by obtain ⟨_, a, c, e, _⟩ := t2'; exact ⟨a, _, c, e⟩
  obtain ⟨va, vc, rfl⟩ : ∃ a c, v2 = .slice a 0 c := by obtain ⟨_, a, c, e, _⟩ := x2; exact ⟨a, c, e⟩
  have S2 := (show Hid _ from S1.out.ex e2 (by omega))
  have B2 := (show Hid _ from e2.below B1.out (show w.heap.size ≤ w.heap.size + 1 by omega) B1.out.size)
  have R2 := (show Hid _ from r2)
  have T2 := (show Hid _ from t2')
  have l2 := r2.lt
  have HFAR := (show Hid _ from hfar)
  have l1 := (show Hid _ from HV1.out.lt)
  clear hfar t2' r2 x2 e2 S1 B1 HV1 HV HT
  go_wp2_with (first
    | (refine stA rfl 26 _ _ rfl w2.heap.size (by rfl) (E8.cells ⟨0, 0, List.replicate 8 0, []⟩ (.slice none 0 0)) (x.cells (.slice ta tn tc)) (by rfl) 26 (va_new w2 (E8.cells ⟨0, 0, List.replicate 8 0, []⟩ (.slice none 0 0)) 26) (info26.trans (by rw [l11])) (by rw [l11]; rfl) (fun u hu => ev_one hu) ?_; intro w3 V3 U3; have R3 := (R2.out.alloc (.cells (E8.cells ⟨0, 0, List.replicate 8 0, []⟩ (.slice none 0 0)).toArray 26)).upd U3 (by omega); have q0 := VA.cell R3 0 (v := .slice va 0 vc) rfl; have q1 := VA.cell R3 1 (v := .bool false) rfl; have S3 := (S2.out.alloc (.cells (E8.cells ⟨0, 0, List.replicate 8 0, []⟩ (.slice none 0 0)).toArray 26)).upd U3 (by omega))
    | (refine ldA rfl 26 _ rfl w2.heap.size (by rfl) _ _ V3 _ Tryd.underlying26 rfl (info26.trans (by rw [l11])) ?_)
    | (refine stA rfl 26 _ _ rfl w.heap.size (by rfl) _ (x.cells (.slice ta tn tc)) (by rfl) _ S3 (info26.trans (by rw [l11])) (by rw [l11]; rfl) (fun u hu => ev_one hu) ?_; intro w4 R4 U4))
  have D3 := U3.bel ((Below.refl w2.heap.size w2).alloc (Nat.le_refl _) (.cells (E8.cells ⟨0, 0, List.replicate 8 0, []⟩ (.slice none 0 0)).toArray 26)) (Nat.le_refl _)
  have T3 := T2.out.step D3
  have T4 := T3.upd U4 (fun b off n c e => by have := HFAR.out b off n c e; have := l1.out; omega)
  have B3 := B2.out.trans (D3.mono B2.out.size)
  have B4 := U4.bel B3 (Nat.le_refl _)
  refine bodyPost_ret (v := .tuple #[.agg (x.cells (.slice ta tn tc)).toArray, .int .i64 0]) ?_ rfl ⟨⟨_, rfl, T4⟩, B4⟩
  have hld := run_loadVar_row (P := Tryd.prog) w4 w.heap.size 26 26 _ (0, 0) _ R4.blk Tryd.underlying26 rfl (info26.trans (by rw [List.size_toArray, l11]))
  simp [results, Tryd.results17, asAddr, hld]
end Go.Proofs.YtcognhhbpapibaaDoor
