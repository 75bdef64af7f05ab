/- texts of the model: Mqa -/
import Derived.Test.YtjkiplndbcmmbaaGreatDoorW27
import Derived.Test.YtjkiplndbcmmbaaGreatDoorW17
set_option linter.unusedVariables false
set_option linter.unusedSimpArgs false
set_option maxHeartbeats 16000000
set_option maxRecDepth 100000
namespace Go.Proofs.YtjkiplndbcmmbaaGreatDoor
open Tryz
open Go.RowKit Go.Maps
theorem fc {w w' : World} {o : Option Nat} (h : w.grownBy w' o) : But (fun j => o = some j) w w' := ⟨h.os, h.tape, h.output, h.size, fun i hi hx => h.block i hi (fun e => by first | exact hx e | exact hx e.symm)⟩
theorem ph {p B bmA : Nat} {svA : Value} {S : Nat → Prop} {vs : List PV} (x : PV) (tv : Value) (w : World) (hC : Cat w p B S vs) (hV : VA w p [.map (some bmA), svA] 154) (hx : x.wf) (h : Tr w tv x.ts) (hno : ∀ n c, tv = .slice none n c → c = 0) (hc : chk x = 0) (hq : fol vs x = 0) (h64 : vs.length < 64) :
  Calls prog 83 #[.pointer (some ⟨p, 0, none⟩), .agg (x.cells tv).toArray] w fun e w' => e = .returned (.int .i64 0) ∧ Cat w' p B (fun k => S k ∨ w.heap.size ≤ k) (vs ++ [x]) ∧ Below B w w' ∧ Keeps36 w w' ∧ (∃ sv', VA w' p [.map (some bmA), sv'] 154) ∧ But (fun j => j = p ∨ j = bmA ∨ svA.ownBlock = some j) w w' := by
 have HV := hI_ (aa w (x.cells tv) 162)
 have HD := hI_ ((Below.refl w.heap.size w).alloc (Nat.le_refl _) (.cells (x.cells tv).toArray 162))
 have HT := hI_ (h.step HD.out)
 have HC := hI_ (hC.step HD.out)
 have HN := hI_ hno
 have HVA := hI_ hV
 clear hV
 have HCK := hI_ hc
 have HFQ := hI_ hq
 have HBp := hI_ ((And.intro hC.le hC.lt))
 have HTH : Hid (∀ y ∈ vs, ¬ (y.id = x.id ∧ y.day = x.day)) := by
  intro y hy e
  have : there vs x.id x.day = true := by
   unfold there
   rw [List.any_eq_true]
   exact ⟨y, hy, by simpa using e⟩
  unfold fol at hq
  rw [this] at hq
  cases hq
 have HL8 := hI_ (gv hc)
 clear h hC hno
 go_enter func83, ntmps83
 go_wp2_with (refine ldA rfl 162 _ rfl w.heap.size (by rfl) _ _ HV.out _ underlying162 rfl infoP ?_)
 refine (cN x tv _ HT.out).mono ?_
 rintro e w1 ⟨rfl, b1⟩
 rw [hc]
 have V1 := hI_ (HV.out.step b1)
 have C1 := hI_ (HC.out.step b1)
 have D1 := hI_ (HD.out.trans (b1.mono HD.out.size))
 have T1 := hI_ (HT.out.step b1)
 clear b1 HV HC HD hc HT
 go_wp2_with (refine ldA rfl 162 _ rfl w.heap.size (by rfl) _ _ V1.out _ underlying162 rfl infoP ?_)
 refine (fb x tv _ C1.out hx).mono ?_
 rintro e w2 ⟨rfl, b2⟩
 rw [hq]
 have D2 := hI_ (D1.out.trans (b2.mono D1.out.size))
 have C2 := hI_ (C1.out.step b2)
 have V2 := hI_ (V1.out.step b2)
 have T2 := hI_ (T1.out.step b2)
 clear b2 V1 C1 D1 T1 hq
 obtain ⟨bm0, sa, cap, a1, g2, g3⟩ := C2.out.order
 have c1 := a1.cell 1 (v := .slice sa vs.length cap) rfl
 have q0 := V2.out.cell 0 (v := .int .i64 x.id) rfl
 have q3 := V2.out.cell 3 (v := .int .i64 x.day) rfl
 obtain ⟨n, hn⟩ : ∃ n, n = vs.length := ⟨_, rfl⟩
 have HNL := hI_ hn
 rw [← hn] at c1 h64
 have d1 : (n : Int) < 64 := by omega
 clear a1 hn
 go_upto_region 12 with fail
 have BA := (Below.refl w2.heap.size w2).alloc (Nat.le_refl _) (.cells #[.int .i64 x.id, .int .i64 x.day] 208)
 have VK := aa w2 [.int .i64 x.id, .int .i64 x.day] 208
 have V3 := V2.out.step BA
 have C3 := C2.out.step BA
 have T3 := hI_ (T2.out.step BA)
 have D3 := hI_ (D2.out.trans (BA.mono D2.out.size))
 have lk := V2.out.lt
 clear c1 q0 q3 V2 C2 T2 D2 BA
 generalize w2.heap.size = pk at *
 generalize w2.alloc (.cells #[.int .i64 x.id, .int .i64 x.day] 208) = w3 at *
 obtain ⟨h1, h2, h3, bm, sv, m, f, a1, a2, a3, a4, a5, a6, a7, a8⟩ := C3
 obtain ⟨e1, e2⟩ : bm = bmA ∧ sv = svA := by
  have := a1.blk.symm.trans (HVA.out.step D3.out).blk
  simp only [Option.some.injEq, Obj.cells.injEq, Array.mk.injEq, List.cons.injEq, Value.map.injEq] at this
  exact ⟨this.1.1, this.1.2.1⟩
 have HEQ : Hid (bm = bmA ∧ sv = svA) := ⟨e1, e2⟩
 clear e1 e2
 have HMM := hI_ ((And.intro h1 (And.intro h2 (And.intro h3 (And.intro a2 (And.intro a3 (And.intro a5 (And.intro a7 a8))))))))
 have HK6 := hI_ a6
 have HF4 : Hid (MapF w3 208 bm m f) := a4
 have HA1 := hI_ a1
 have HVK := hI_ VK
 have HV3 := hI_ V3
 clear h1 h2 h3 a2 a3 a5 a7 a8 a6 a4
 refine wp_region_noPanic ?_
 refine wp_region_held_drew (S := fun w' => VA w' p [.map (some bm), sv] 154 ∧ VA w' pk [.int .i64 x.id, .int .i64 x.day] 208 ∧ VA w' w.heap.size (x.cells tv) 162) (by kernel_rfl) ⟨a1.drew, VK.drew, V3.drew⟩ (fun hh_ => ?_)
 clear a1 VK V3 hh_
 refine wpAnyH_take (i := 0) (v := .pointer (some ⟨p, 0, none⟩)) (by exact rfl) (by kernel_rfl) (by kernel_rfl) (by kernel_rfl) (fun _ _ _ h => h) (Or.inl ⟨by rfl, ?_⟩) ⟨HA1.out.drew, HVK.out.drew, HV3.out.drew⟩ ?_
 ·intro wq hS
  go_simp
 refine wpAnyH_take (i := 1) (v := .pointer (some ⟨p, 0, none⟩)) (by exact rfl) (by kernel_rfl) (by kernel_rfl) (by kernel_rfl) (fun _ _ _ h => h) (Or.inl ⟨by rfl, ?_⟩) ⟨HA1.out.drew, HVK.out.drew, HV3.out.drew⟩ ?_
 ·intro wq hS
  go_simp
 refine wpAnyH_take (i := 2) (v := .pointer (some ⟨p, 0, none⟩)) (by exact rfl) (by kernel_rfl) (by kernel_rfl) (by kernel_rfl) (fun _ _ _ h => h) (Or.inl ⟨by rfl, ?_⟩) ⟨HA1.out.drew, HVK.out.drew, HV3.out.drew⟩ ?_
 ·intro wq hS
  go_simp
 refine wpAnyH_take (i := 3) (v := .map (some bm)) (by exact rfl) (by kernel_rfl) (by kernel_rfl) (by kernel_rfl) (fun _ _ _ h => h) (Or.inl ⟨by rfl, ?_⟩) ⟨HA1.out.drew, HVK.out.drew, HV3.out.drew⟩ ?_
 ·intro wq hS
  have c := hS.1.cell 0 (v := .map (some bm)) rfl
  go_simp
 refine wpAnyH_take (i := 4) (v := .agg #[.int .i64 x.id, .int .i64 x.day]) (by exact rfl) (by kernel_rfl) (by kernel_rfl) (by kernel_rfl) (fun _ _ _ h => h) (Or.inl ⟨by rfl, ?_⟩) ⟨HA1.out.drew, HVK.out.drew, HV3.out.drew⟩ ?_
 ·intro wq hS
  have c := hS.2.1.cell 0 (v := .int .i64 x.id) rfl
  have d := hS.2.1.cell 1 (v := .int .i64 x.day) rfl
  go_simp
 refine wpAnyH_take (i := 5) (v := .agg (x.cells tv).toArray) (by exact rfl) (by kernel_rfl) (by kernel_rfl) (by kernel_rfl) (fun _ _ _ h => h) (yieldsIf_load_mid (by rfl) _ _ rfl _ _ rfl _ _ (fun wq hS => (fun j u hj => by rw [Nat.zero_add]; exact hS.2.2.cell j hj)) underlying162 rfl infoP) ⟨HA1.out.drew, HVK.out.drew, HV3.out.drew⟩ ?_
 refine rdy 6 (fun K hK => ?_)
 go_simp
 refine (ed x tv _ (T3.out.step (Below.refl w3.heap.size w3).drew) HN.out (by have := HL8.out; omega)).mono ?_
 rintro e w4 ⟨⟨v4, rfl, o4⟩, b4⟩
 have b4 : Below w3.heap.size w3 w4 := ((Below.refl w3.heap.size w3).drew).trans b4
 have O4 := hI_ o4
 have HB4 := hI_ b4
 clear o4 b4
 go_wp2_with fail
 refine hK.out _ _ ⟨HA1.out.step HB4.out, HVK.out.step HB4.out, HV3.out.step HB4.out⟩ (fun hh_ => ?_)
 clear hK K hh_
 refine rdy 7 (fun K hK => ?_)
 refine xX (by rfl) _ _ _ 151 (by rfl) 208 162 keyedP underlying151 bm m f (by rfl) (HF4.out.step HB4.out) (by have := HMM.out.2.2.2.2.2.1; have := HMM.out.2.2.1; unfold maxLen; omega) (.agg #[.int .i64 x.id, .int .i64 x.day]) (.agg (x.cells v4).toArray) (kl x.id x.day) (by rfl) (by rfl) (dB hx.id hx.day) ?_
 intro w5 m5 t5
 have A5 := (HA1.out.step HB4.out).turned (HF4.out.step HB4.out) t5
 have K5 := (HVK.out.step HB4.out).turned (HF4.out.step HB4.out) t5
 have X5 := (HV3.out.step HB4.out).turned (HF4.out.step HB4.out) t5
 refine hK.out _ _ ⟨A5, K5, X5⟩ (fun hh_ => ?_)
 clear hK K hh_
 refine dN ?_
 have OK5 := (HK6.out.step HB4.out).turned (HF4.out.step HB4.out) t5
 have OT5 := hI_ (O4.out.turned (HF4.out.step HB4.out) t5)
 have HM5 : Hid (MapF w5 208 bm (m + 1) (upF f (kl x.id x.day) (.agg (x.cells v4).toArray))) := m5
 have HT5 : Hid (World.mapTurned w4 w5 bm) := t5
 clear m5 t5 X5
 go_upto_region 13 with fail
 obtain ⟨sa', sn', sk', rfl⟩ := OK5.form
 have BA := (Below.refl w5.heap.size w5).alloc (Nat.le_refl _) (.cells #[.int .i64 x.id, .int .i64 x.day] 208)
 have c1 := A5.cell 1 (v := .slice sa' sn' sk') rfl
 have c2 := (A5.step BA).cell 1 (v := .slice sa' sn' sk') rfl
 have q0 := K5.cell 0 (v := .int .i64 x.id) rfl
 have q1 := K5.cell 1 (v := .int .i64 x.day) rfl
 have OA := hI_ (OK5.step BA)
 have VA6 := hI_ (A5.step BA)
 have WF1 : Hid (∀ t ∈ [(x.id, x.day)], I64 t.1 ∧ I64 t.2) := by
  intro t ht
  simp only [List.mem_cons, List.not_mem_nil, or_false] at ht
  subst ht
  exact ⟨hx.id, hx.day⟩
 have CE1 : Hid (∀ k, k < [(x.id, x.day)].length → (w5.alloc (.cells #[.int .i64 x.id, .int .i64 x.day] 208)).cell? ⟨w5.heap.size, 0 + 2 * k, none⟩ = some (.int .i64 ([(x.id, x.day)].getD k (0, 0)).1) ∧ (w5.alloc (.cells #[.int .i64 x.id, .int .i64 x.day] 208)).cell? ⟨w5.heap.size, 0 + 2 * k + 1, none⟩ = some (.int .i64 ([(x.id, x.day)].getD k (0, 0)).2)) := by
  intro k hk
  have VT := aa w5 [.int .i64 x.id, .int .i64 x.day] 208
  obtain rfl : k = 0 := by simpa using hk
  exact ⟨VT.cell 0 rfl, VT.cell 1 rfl⟩
 have lp5 : p < w5.heap.size := A5.lt
 have SZ1 : Hid (B ≤ (w5.alloc (.cells #[.int .i64 x.id, .int .i64 x.day] 208)).heap.size) := by
  show B ≤ _
  have := HBp.out.1
  rw [World.size_alloc]
  omega
 have LN1 : Hid ((keysOf vs).length + [(x.id, x.day)].length ≤ 8796093022208) := by
  show (keysOf vs).length + 1 ≤ _
  have := HNL.out
  simp [keysOf]
  omega
 clear BA A5 K5 OK5
 go_region_law (refine uC (by rfl) _ _ rfl B (keysOf vs) [(x.id, x.day)] (.slice sa' sn' sk') w5.heap.size 0 1 (by rfl) (by rfl) (OwnK.mk OA.out.wf OA.out.own) WF1.out CE1.out SZ1.out LN1.out ?_; intro v6 w6 o6 b6 g6; obtain ⟨va, vn, vc, rfl⟩ := o6.form; have V6 := VA6.out.drew.grownK g6 (OwnK.mk OA.out.wf OA.out.own) (by decide); have cz := V6.cell 1 (v := .slice sa' sn' sk') rfl; have fz := V6.free 1)
 all_goals (
  go_wp2_with fail
  go_ret
  obtain ⟨h1, h2, h3, a2, a3, a5, a7, a8⟩ := HMM.out
  have l3 := D3.out.size
  have hp := HBp.out
  have W4 : Keeps36 w3 w4 := cY HB4.out
  have W6 : Keeps36 (w5.alloc (.cells #[.int .i64 x.id, .int .i64 x.day] 208)).drew w6 := gX g6 (OwnK.mk OA.out.wf OA.out.own)
  have W5 : Keeps36 w5 (w5.alloc (.cells #[.int .i64 x.id, .int .i64 x.day] 208)).drew := cY (((Below.refl w5.heap.size w5).alloc (Nat.le_refl _) _).drew)
  have b56 : Below B w5 w6 := (((Below.refl B w5).alloc (by omega) (.cells #[.int .i64 x.id, .int .i64 x.day] 208)).drew).trans b6
  have b35 : Below B w3 w5 := (HB4.out.mono (by omega)).trans (gH HT5.out a3)
  have b03 : Below B w w3 := D3.out.mono (by omega)
  exact ⟨rfl, iN hx HCK.out h1 h2 (by have := HNL.out; omega) a2 a3 a5 a7 a8 HTH.out HF4.out HB4.out (OwnT.mk O4.out.wf O4.out.own) l3 (by omega) HM5.out HT5.out (OwnK.mk OA.out.wf OA.out.own) g6 o6 V6, ((b03.trans b35).trans b56).setCell (p := ⟨p, 1, none⟩) a2 _,
   ((((cY D3.out).trans W4).trans (gZ HT5.out)).trans (W5.trans W6)).trans (go V6 (by decide) _), ⟨_, by rw [← HEQ.out.1]; exact V6.set 1 _⟩, by
    rw [← HEQ.out.1, ← HEQ.out.2]
    exact (((((ac D3.out _).trans (ac HB4.out (fun _ => False)) (fun _ _ y => False.elim y)).trans (aI HT5.out) (fun _ _ y => Or.inr (Or.inl y))).trans (ac (((Below.refl w5.heap.size w5).alloc (Nat.le_refl _) (.cells #[.int .i64 x.id, .int .i64 x.day] 208)).drew) (fun _ => False)) (fun _ _ y => False.elim y)).trans (fc g6) (fun _ _ y => Or.inr (Or.inr y))).trans (au w6 p 1 _).but (fun _ _ y => Or.inl y)⟩)
end Go.Proofs.YtjkiplndbcmmbaaGreatDoor