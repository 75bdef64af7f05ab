/- prod: Add leaves all blocks but its own kinds as they were. -/
import Derived.Test.YtgbphbeafomabaaHh
namespace Go.Proofs.Ytgbphbeafomabaa
open Go.RowKit Go.Shelf Go.Maps
set_option linter.unusedVariables false

/-- blocks that are neither a catalogue nor keys nor a map stay as they were -/
def KeepO (w w' : World) : Prop := ∀ (T : TypeId), T ≠ 67 → T ≠ 65 → ∀ (k : Nat) (cs : Array Value) (fr : Nat × Nat), w.heap[k]? = some (Obj.cells cs T fr) → w'.heap[k]? = some (Obj.cells cs T fr)
theorem KeepO.trans {a b c : World} (h : KeepO a b) (k : KeepO b c) : KeepO a c := fun T h1 h2 i cs fr hi => k T h1 h2 i cs fr (h T h1 h2 i cs fr hi)
theorem keepO_below {w w' : World} (h : Below w.heap.size w w') : KeepO w w' := fun T h1 h2 k cs fr hk => (h.block k (Array.getElem?_eq_some_iff.1 hk).1).trans hk
theorem keepO_turned {w w' : World} {b : Nat} (h : w.mapTurned w' b) : KeepO w w' := fun T h1 h2 k cs fr hk => by
  refine (turned_block h k ?_).trans hk
  rintro rfl
  obtain ⟨es, clock, _, _, hb, _⟩ := h
  rw [hb] at hk
  cases hk
theorem keepO_grownK {w w' : World} {B : Nat} {u : Value} {ks : List (Int × Int)} (g : w.grownBy w' u.ownBlock) (o : OwnK w B u ks) : KeepO w w' := fun T h1 h2 k cs fr hk => by
  refine (g.block k (Array.getElem?_eq_some_iff.1 hk).1 ?_).trans hk
  intro e'
  rcases o.own.2 with ⟨rfl, _⟩ | ⟨q', cap', cur', rfl, _, hq, _⟩
  · cases e'
  · simp [Value.ownBlock] at e'
    subst e'
    rw [hk] at hq
    injection hq with hq
    injection hq with _ hq
    exact h1 hq
theorem keepO_set {w : World} {p i : Nat} {cs : List Value} (V : VA w p cs 65) (u : Value) : KeepO w (w.setCell ⟨p, i, none⟩ u) := fun T h1 h2 k ds fr hk => by
  refine ((upd_set w p i u).block k ?_).trans hk
  rintro rfl
  rw [V.blk] at hk
  injection hk with hk
  injection hk with _ hk
  exact h2 hk.symm
theorem VA.keepO {w w' : World} {p : Nat} {cs : List Value} {T : TypeId} (h : VA w p cs T) (k : KeepO w w') (h1 : T ≠ 67) (h2 : T ≠ 65) : VA w' p cs T := ⟨k T h1 h2 p _ _ h.blk⟩
theorem OwnT.keepO {w w' : World} {B : Nat} {v : Value} {ts : List (Int × Int)} (h : OwnT w B v ts) (k : KeepO w w') : OwnT w' B v ts := by
  refine ⟨h.wf, h.own.1, ?_⟩
  rcases h.own.2 with h2 | ⟨g, cap, cur, e, hb, hg, r⟩
  · exact Or.inl h2
  · exact Or.inr ⟨g, cap, cur, e, hb, k _ (by decide) (by decide) g _ _ hg, r⟩
theorem Ty.keepO {w w' : World} {b : Nat} (h : Ty w b) (k : KeepO w w') : Ty w' b ∧ w'.heap[b]? = w.heap[b]? := by
  obtain ⟨cs, T, fr, e, r⟩ := h
  have hT : T ≠ 67 ∧ T ≠ 65 := by
    rcases r with rfl | rfl
    · exact ⟨by decide, by decide⟩
    · exact ⟨by decide, by decide⟩
  have e2 := k T hT.1 hT.2 b cs fr e
  exact ⟨⟨cs, T, fr, e2, r⟩, e2.trans e.symm⟩
theorem Tr.same {w w' : World} {v : Value} {ts : List (Int × Int)} (h : Tr w v ts) (hz : w.heap.size ≤ w'.heap.size) (hq : SB (fun b => w'.heap[b]? = w.heap[b]?) v) : Tr w' v ts := by
  obtain ⟨hw, a, c, e, h1, h2, h3⟩ := h
  refine ⟨hw, a, c, e, h1, h2, fun h0 => ?_⟩
  obtain ⟨b, off, ea, hb, hx⟩ := h3 h0
  have hne := hq b off _ c (by rw [e, ea]) h0
  have hc : ∀ i, w'.cell? ⟨b, i, none⟩ = w.cell? ⟨b, i, none⟩ := fun i => by simp only [World.cell?, hne]
  exact ⟨b, off, ea, Nat.lt_of_lt_of_le hb hz, fun j hj => ⟨(hc _).trans (hx j hj).1, (hc _).trans (hx j hj).2⟩⟩
theorem Dl.same {w w' : World} {S : Nat → Prop} {v : Value} {xs : List PV} (h : Dl w S v xs) (hz : w.heap.size ≤ w'.heap.size) (k : ∀ b, S b → w'.heap[b]? = w.heap[b]?) : Dl w' S v xs := by
  obtain ⟨a, c, e, h1, h2, hn, h3⟩ := h
  refine ⟨a, c, e, h1, h2, hn, fun h0 => ?_⟩
  obtain ⟨b, off, ea, hb, hS, hx⟩ := h3 h0
  refine ⟨b, off, ea, Nat.lt_of_lt_of_le hb hz, hS, fun i hi => ?_⟩
  obtain ⟨tv, hc, hp, hs⟩ := hx i hi
  refine ⟨tv, fun j u hj => ?_, hp.same hz (hs.mono (fun b hb => k b hb)), hs⟩
  rw [← hc j u hj]
  simp only [World.cell?, k b hS]
theorem Upd.refl (q : Nat) (w : World) : Upd q w w := ⟨rfl, rfl, rfl, rfl, fun _ _ => rfl⟩
/-- a block of tiers -/
def T36 (w : World) (q : Nat) : Prop := ∃ cs fr, w.heap[q]? = some (Obj.cells cs 36 fr)
theorem OwnT.upd' {w w' : World} {B q : Nat} {v : Value} {ts : List (Int × Int)} (h : OwnT w B v ts) (k : Upd q w w') (hq : v.ownBlock ≠ some q) : OwnT w' B v ts := by
  refine ⟨h.wf, h.own.1, ?_⟩
  rcases h.own.2 with h2 | ⟨g, cap, cur, e, hb, hg, r⟩
  · exact Or.inl h2
  · refine Or.inr ⟨g, cap, cur, e, hb, (k.block g (fun e2 => hq ?_)).trans hg, r⟩
    rw [e, ← e2]
    rfl
theorem MapF.notCells {w : World} {b n : Nat} {k T : TypeId} {f : Lit → Option Value} {cs : Array Value} {fr : Nat × Nat} (m : MapF w k b n f) (e : w.heap[b]? = some (Obj.cells cs T fr)) : False := by
  obtain ⟨D, ⟨es, clock, hb, _⟩, _⟩ := m
  rw [hb] at e
  cases e
theorem Cat.upd {w w' : World} {p B q : Nat} {S : Nat → Prop} {vs : List PV} (h : Cat w p B S vs) (k : Upd q w w') (hq : ¬ S q) (ht : T36 w q) : Cat w' p B S vs := by
  obtain ⟨h1, h2, h3, bm, sv, n, f, a1, a2, a3, a4, a5, a6, a7, a8⟩ := h
  obtain ⟨cs, fr, e⟩ := ht
  have hp : p ≠ q := by
    rintro rfl
    rw [a1.blk] at e
    cases e
  have hb : bm ≠ q := by
    rintro rfl
    exact a4.notCells e
  refine ⟨h1, h2, h3, bm, sv, n, f, a1.upd k hp, a2, a3, a4.blk (k.block bm hb), a5, ?_, fun x hx => ?_, a8⟩
  · refine ⟨a6.wf, a6.own.1, ?_⟩
    rcases a6.own.2 with h2 | ⟨g, cap, cur, e2, hb, hg, r⟩
    · exact Or.inl h2
    · refine Or.inr ⟨g, cap, cur, e2, hb, (k.block g ?_).trans hg, r⟩
      rintro rfl
      rw [hg] at e
      cases e
  · obtain ⟨tv, e1, e2, e3⟩ := a7 x hx
    exact ⟨tv, e1, e2.upd' k (fun e => hq (e3 q e)), e3⟩
theorem Cat.bound {w : World} {p B : Nat} {S : Nat → Prop} {vs : List PV} (h : Cat w p B S vs) : Cat w p B (fun k => S k ∧ k < w.heap.size) vs := by
  obtain ⟨h1, h2, h3, bm, sv, n, f, a1, a2, a3, a4, a5, a6, a7, a8⟩ := h
  refine ⟨h1, h2, h3, bm, sv, n, f, a1, a2, a3, a4, a5, a6, fun x hx => ?_, a8⟩
  obtain ⟨tv, e1, e2, e3⟩ := a7 x hx
  exact ⟨tv, e1, e2, fun k hk => ⟨e3 k hk, e2.lt k hk⟩⟩
set_option maxRecDepth 100000 in
set_option maxHeartbeats 4000000 in
theorem add_yes2 {p B : Nat} {S : Nat → Prop} {vs : List PV} (x : PV) (tv : Value) (w : World) (hC : Cat w p B S vs) (hx : x.wf) (h : Tr w tv x.ts) (hno : ∀ n c, tv = .slice none n c → c = 0) (hc : chk x = 0) (hq : fol vs x = 0) (h64 : vs.length < 64) :
    Calls Try.prog 17 #[.pointer (some ⟨p, 0, none⟩), .agg (x.cells tv).toArray] w fun e w' => e = .returned (.int .i64 0) ∧ Cat w' p B (fun k => S k ∨ w.heap.size ≤ k) (vs ++ [x]) ∧ Below B w w' ∧ KeepO w w' := by
  have HV := (show Hid _ from va_new w (x.cells tv) 25)
  have HD := (show Hid _ from (Below.refl w.heap.size w).alloc (Nat.le_refl _) (.cells (x.cells tv).toArray 25))
  have HT := (show Hid _ from h.step HD.out)
  have HC := (show Hid _ from hC.step HD.out)
  have HN := (show Hid _ from hno)
  have HCK := (show Hid _ from hc)
  have HFQ := (show Hid _ from hq)
  have HBp := (show Hid _ from (And.intro hC.le hC.lt))
  have HTH : Hid (∀ y ∈ vs, ¬ (y.id = x.id ∧ y.day = x.day)) := by
    intro y hy e
    have : there vs x.id x.day = true := by
      unfold there
      rw [List.any_eq_true]
      exact ⟨y, hy, by simpa using e⟩
    unfold fol at hq
    rw [this] at hq
    cases hq
  have HL8 := (show Hid _ from chk_len hc)
  clear h hC hno
  go_enter Try.func17, Try.ntmps17
  go_wp2_with (refine ldA rfl 25 _ rfl w.heap.size (by rfl) _ _ HV.out _ Try.underlying25 rfl infoP ?_)
  refine (check_ok x tv _ HT.out).mono ?_
  rintro e w1 ⟨rfl, b1⟩
  rw [hc]
  have V1 := (show Hid _ from HV.out.step b1)
  have C1 := (show Hid _ from HC.out.step b1)
  have D1 := (show Hid _ from HD.out.trans (b1.mono HD.out.size))
  have T1 := (show Hid _ from HT.out.step b1)
  clear b1 HV HC HD hc HT
  go_wp2_with (refine ldA rfl 25 _ rfl w.heap.size (by rfl) _ _ V1.out _ Try.underlying25 rfl infoP ?_)
  refine (follows_ok x tv _ C1.out hx).mono ?_
  rintro e w2 ⟨rfl, b2⟩
  rw [hq]
  have D2 := (show Hid _ from D1.out.trans (b2.mono D1.out.size))
  have C2 := (show Hid _ from C1.out.step b2)
  have V2 := (show Hid _ from V1.out.step b2)
  have T2 := (show Hid _ from T1.out.step b2)
  clear b2 V1 C1 D1 T1 hq
  obtain ⟨bm0, sa, cap, a1, g2, g3⟩ := C2.out.order
  have c1 := a1.cell 1 (v := .slice sa vs.length cap) rfl
  have q0 := V2.out.cell 0 (v := .int .i64 x.id) rfl
  have q3 := V2.out.cell 3 (v := .int .i64 x.day) rfl
  obtain ⟨n, hn⟩ : ∃ n, n = vs.length := ⟨_, rfl⟩
  have HNL := (show Hid _ from hn)
  rw [← hn] at c1 h64
  have d1 : (n : Int) < 64 := by omega
  clear a1 hn
  go_upto_region 12 with fail
  have BA := (Below.refl w2.heap.size w2).alloc (Nat.le_refl _) (.cells #[.int .i64 x.id, .int .i64 x.day] 67)
  have VK := va_new w2 [.int .i64 x.id, .int .i64 x.day] 67
  have V3 := V2.out.step BA
  have C3 := C2.out.step BA
  have T3 := (show Hid _ from T2.out.step BA)
  have D3 := (show Hid _ from D2.out.trans (BA.mono D2.out.size))
  have lk := V2.out.lt
  clear c1 q0 q3 V2 C2 T2 D2 BA
  generalize w2.heap.size = pk at *
  generalize w2.alloc (.cells #[.int .i64 x.id, .int .i64 x.day] 67) = w3 at *
  obtain ⟨h1, h2, h3, bm, sv, m, f, a1, a2, a3, a4, a5, a6, a7, a8⟩ := C3
  have HMM := (show Hid _ from (And.intro h1 (And.intro h2 (And.intro h3 (And.intro a2 (And.intro a3 (And.intro a5 (And.intro a7 a8))))))))
  have HK6 := (show Hid _ from a6)
  have HF4 : Hid (MapF w3 67 bm m f) := a4
  have HA1 := (show Hid _ from a1)
  have HVK := (show Hid _ from VK)
  have HV3 := (show Hid _ from V3)
  clear h1 h2 h3 a2 a3 a5 a7 a8 a6 a4
  refine wp_region_noPanic ?_
  refine wp_region_held_drew (S := fun w' => VA w' p [.map (some bm), sv] 65 ∧ VA w' pk [.int .i64 x.id, .int .i64 x.day] 67 ∧ VA w' w.heap.size (x.cells tv) 25) (by kernel_rfl) ⟨a1.drew, VK.drew, V3.drew⟩ (fun hHeld => ?_)
  clear a1 VK V3 hHeld
  refine wpAnyH_take (i := 0) (v := .pointer (some ⟨p, 0, none⟩)) (by exact rfl) (by kernel_rfl) (by kernel_rfl) (by kernel_rfl) (fun _ _ _ h => h) (Or.inl ⟨by rfl, ?_⟩) ⟨HA1.out.drew, HVK.out.drew, HV3.out.drew⟩ ?_
  · intro wq hS
    go_simp
  refine wpAnyH_take (i := 1) (v := .pointer (some ⟨p, 0, none⟩)) (by exact rfl) (by kernel_rfl) (by kernel_rfl) (by kernel_rfl) (fun _ _ _ h => h) (Or.inl ⟨by rfl, ?_⟩) ⟨HA1.out.drew, HVK.out.drew, HV3.out.drew⟩ ?_
  · intro wq hS
    go_simp
  refine wpAnyH_take (i := 2) (v := .pointer (some ⟨p, 0, none⟩)) (by exact rfl) (by kernel_rfl) (by kernel_rfl) (by kernel_rfl) (fun _ _ _ h => h) (Or.inl ⟨by rfl, ?_⟩) ⟨HA1.out.drew, HVK.out.drew, HV3.out.drew⟩ ?_
  · intro wq hS
    go_simp
  refine wpAnyH_take (i := 3) (v := .map (some bm)) (by exact rfl) (by kernel_rfl) (by kernel_rfl) (by kernel_rfl) (fun _ _ _ h => h) (Or.inl ⟨by rfl, ?_⟩) ⟨HA1.out.drew, HVK.out.drew, HV3.out.drew⟩ ?_
  · intro wq hS
    have c := hS.1.cell 0 (v := .map (some bm)) rfl
    go_simp
  refine wpAnyH_take (i := 4) (v := .agg #[.int .i64 x.id, .int .i64 x.day]) (by exact rfl) (by kernel_rfl) (by kernel_rfl) (by kernel_rfl) (fun _ _ _ h => h) (Or.inl ⟨by rfl, ?_⟩) ⟨HA1.out.drew, HVK.out.drew, HV3.out.drew⟩ ?_
  · intro wq hS
    have c := hS.2.1.cell 0 (v := .int .i64 x.id) rfl
    have d := hS.2.1.cell 1 (v := .int .i64 x.day) rfl
    go_simp
  refine wpAnyH_take (i := 5) (v := .agg (x.cells tv).toArray) (by exact rfl) (by kernel_rfl) (by kernel_rfl) (by kernel_rfl) (fun _ _ _ h => h) (yieldsIf_load_mid (by rfl) _ _ rfl _ _ rfl _ _ (fun wq hS => (fun j u hj => by rw [Nat.zero_add]; exact hS.2.2.cell j hj)) Try.underlying25 rfl infoP) ⟨HA1.out.drew, HVK.out.drew, HV3.out.drew⟩ ?_
  refine wpAnyH_ready (rs := [6]) (by kernel_rfl) (by simp) ?_
  refine AllReadyH.cons (by exact rfl) (fun K hK => ?_) AllReadyH.nil
  go_simp
  refine (copied_ok x tv _ (T3.out.step (Below.refl w3.heap.size w3).drew) HN.out (by have := HL8.out; omega)).mono ?_
  rintro e w4 ⟨⟨v4, rfl, o4⟩, b4⟩
  have b4 : Below w3.heap.size w3 w4 := ((Below.refl w3.heap.size w3).drew).trans b4
  have O4 := (show Hid _ from o4)
  have HB4 := (show Hid _ from b4)
  clear o4 b4
  go_wp2_with fail
  refine hK.out _ _ ⟨HA1.out.step HB4.out, HVK.out.step HB4.out, HV3.out.step HB4.out⟩ (fun hHeld => ?_)
  clear hK K hHeld
  refine wpAnyH_ready (rs := [7]) (by kernel_rfl) (by simp) ?_
  refine AllReadyH.cons (by exact rfl) (fun K hK => ?_) AllReadyH.nil
  refine stMo (by rfl) _ _ _ 62 (by rfl) 67 25 keyedP Try.underlying62 bm m f (by rfl) (HF4.out.step HB4.out) (by have := HMM.out.2.2.2.2.2.1; have := HMM.out.2.2.1; unfold maxLen; omega) (.agg #[.int .i64 x.id, .int .i64 x.day]) (.agg (x.cells v4).toArray) (kl x.id x.day) (by rfl) (by rfl) (kl_key hx.id hx.day) ?_
  intro w5 m5 t5
  have A5 := (HA1.out.step HB4.out).turned (HF4.out.step HB4.out) t5
  have K5 := (HVK.out.step HB4.out).turned (HF4.out.step HB4.out) t5
  have X5 := (HV3.out.step HB4.out).turned (HF4.out.step HB4.out) t5
  refine hK.out _ _ ⟨A5, K5, X5⟩ (fun hHeld => ?_)
  clear hK K hHeld
  refine wpAnyH_done (by kernel_rfl) ?_ _
  refine NoPanic.normal ?_
  have OK5 := (HK6.out.step HB4.out).turned (HF4.out.step HB4.out) t5
  have OT5 := (show Hid _ from O4.out.turned (HF4.out.step HB4.out) t5)
  have HM5 : Hid (MapF w5 67 bm (m + 1) (upF f (kl x.id x.day) (.agg (x.cells v4).toArray))) := m5
  have HT5 : Hid (World.mapTurned w4 w5 bm) := t5
  clear m5 t5 X5
  go_upto_region 13 with fail
  obtain ⟨sa', sn', sk', rfl⟩ := OK5.form
  have BA := (Below.refl w5.heap.size w5).alloc (Nat.le_refl _) (.cells #[.int .i64 x.id, .int .i64 x.day] 67)
  have c1 := A5.cell 1 (v := .slice sa' sn' sk') rfl
  have c2 := (A5.step BA).cell 1 (v := .slice sa' sn' sk') rfl
  have q0 := K5.cell 0 (v := .int .i64 x.id) rfl
  have q1 := K5.cell 1 (v := .int .i64 x.day) rfl
  have OA := (show Hid _ from OK5.step BA)
  have VA6 := (show Hid _ from A5.step BA)
  have WF1 : Hid (∀ t ∈ [(x.id, x.day)], I64 t.1 ∧ I64 t.2) := by
    intro t ht
    simp only [List.mem_cons, List.not_mem_nil, or_false] at ht
    subst ht
    exact ⟨hx.id, hx.day⟩
  have CE1 : Hid (∀ k, k < [(x.id, x.day)].length → (w5.alloc (.cells #[.int .i64 x.id, .int .i64 x.day] 67)).cell? ⟨w5.heap.size, 0 + 2 * k, none⟩ = some (.int .i64 ([(x.id, x.day)].getD k (0, 0)).1) ∧ (w5.alloc (.cells #[.int .i64 x.id, .int .i64 x.day] 67)).cell? ⟨w5.heap.size, 0 + 2 * k + 1, none⟩ = some (.int .i64 ([(x.id, x.day)].getD k (0, 0)).2)) := by
    intro k hk
    have VT := va_new w5 [.int .i64 x.id, .int .i64 x.day] 67
    obtain rfl : k = 0 := by simpa using hk
    exact ⟨VT.cell 0 rfl, VT.cell 1 rfl⟩
  have lp5 : p < w5.heap.size := A5.lt
  have SZ1 : Hid (B ≤ (w5.alloc (.cells #[.int .i64 x.id, .int .i64 x.day] 67)).heap.size) := by
    show B ≤ _
    have := HBp.out.1
    rw [World.size_alloc]
    omega
  have LN1 : Hid ((keysOf vs).length + [(x.id, x.day)].length ≤ 8796093022208) := by
    show (keysOf vs).length + 1 ≤ _
    have := HNL.out
    simp [keysOf]
    omega
  clear BA A5 K5 OK5
  go_region_law (refine appKk (by rfl) _ _ rfl B (keysOf vs) [(x.id, x.day)] (.slice sa' sn' sk') w5.heap.size 0 1 (by rfl) (by rfl) (OwnK.mk OA.out.wf OA.out.own) WF1.out CE1.out SZ1.out LN1.out ?_; intro v6 w6 o6 b6 g6; obtain ⟨va, vn, vc, rfl⟩ := o6.form; have V6 := VA6.out.drew.grownK g6 (OwnK.mk OA.out.wf OA.out.own) (by decide); have cz := V6.cell 1 (v := .slice sa' sn' sk') rfl; have fz := V6.free 1)
  all_goals (
    go_wp2_with fail
    go_ret
    obtain ⟨h1, h2, h3, a2, a3, a5, a7, a8⟩ := HMM.out
    have l3 := D3.out.size
    have hp := HBp.out
    have W4 : KeepO w3 w4 := keepO_below HB4.out
    have W6 : KeepO (w5.alloc (.cells #[.int .i64 x.id, .int .i64 x.day] 67)).drew w6 := keepO_grownK g6 (OwnK.mk OA.out.wf OA.out.own)
    have W5 : KeepO w5 (w5.alloc (.cells #[.int .i64 x.id, .int .i64 x.day] 67)).drew := keepO_below (((Below.refl w5.heap.size w5).alloc (Nat.le_refl _) _).drew)
    have b56 : Below B w5 w6 := (((Below.refl B w5).alloc (by omega) (.cells #[.int .i64 x.id, .int .i64 x.day] 67)).drew).trans b6
    have b35 : Below B w3 w5 := (HB4.out.mono (by omega)).trans (bel_turned HT5.out a3)
    have b03 : Below B w w3 := D3.out.mono (by omega)
    exact ⟨rfl, cat_added hx HCK.out h1 h2 (by have := HNL.out; omega) a2 a3 a5 a7 a8 HTH.out HF4.out HB4.out (OwnT.mk O4.out.wf O4.out.own) l3 (by omega) HM5.out HT5.out (OwnK.mk OA.out.wf OA.out.own) g6 o6 V6, ((b03.trans b35).trans b56).setCell (p := ⟨p, 1, none⟩) a2 _,
      ((((keepO_below D3.out).trans W4).trans (keepO_turned HT5.out)).trans (W5.trans W6)).trans (keepO_set V6 _)⟩)

/-- Add, whatever comes of it -/
theorem add_any2 {p B : Nat} {S : Nat → Prop} {vs : List PV} (x : PV) (tv : Value) (w : World) (hC : Cat w p B S vs) (hx : x.wf) (h : Tr w tv x.ts) (hno : ∀ n c, tv = .slice none n c → c = 0) :
    Calls Try.prog 17 #[.pointer (some ⟨p, 0, none⟩), .agg (x.cells tv).toArray] w fun e w' => e = .returned (.int .i64 (addE vs x)) ∧ ((addE vs x = 0 ∧ Cat w' p B (fun k => S k ∨ w.heap.size ≤ k) (vs ++ [x])) ∨ (addE vs x ≠ 0 ∧ Cat w' p B S vs)) ∧ Below B w w' ∧ KeepO w w' := by
  by_cases h0 : addE vs x = 0
  · have h1 : chk x = 0 := by
      by_cases e : chk x = 0
      · exact e
      · unfold addE at h0
        rw [if_pos e] at h0
        exact h0
    have h2 : fol vs x = 0 := by
      by_cases e : fol vs x = 0
      · exact e
      · unfold addE at h0
        rw [if_neg (fun h => h h1), if_pos e] at h0
        exact h0
    have h3 : vs.length < 64 := by
      unfold addE at h0
      rw [if_neg (fun h => h h1), if_neg (fun h => h h2)] at h0
      by_cases e : 64 ≤ vs.length
      · rw [if_pos e] at h0; cases h0
      · omega
    refine (add_yes2 x tv w hC hx h hno h1 h2 h3).mono ?_
    rintro e w' ⟨rfl, a, b, c⟩
    exact ⟨by rw [h0], Or.inl ⟨h0, a⟩, b, c⟩
  · refine (add_no x tv w hC hx h h0).mono ?_
    rintro e w' ⟨rfl, b⟩
    exact ⟨rfl, Or.inr ⟨h0, hC.step b⟩, b.mono (by have := hC.le; have := hC.lt; omega), keepO_below b⟩
end Go.Proofs.Ytgbphbeafomabaa
