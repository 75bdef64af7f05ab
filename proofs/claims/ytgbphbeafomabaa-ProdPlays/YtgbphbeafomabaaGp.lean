/- prod: Add where it adds. -/
import Derived.Test.YtgbphbeafomabaaGn
namespace Go.Proofs.Ytgbphbeafomabaa
open Go.RowKit Go.Shelf Go.Maps
set_option linter.unusedVariables false

/-- m[key] = v as a region that draws its order meets it -/
theorem stMo {w : World} {y : Nat → Option Bool} {o : Oper} {a : Act} {Q : Exit → Act → World → Prop} {K' : Act → World → Prop} {k0 : Prop} (hgd : Region.wanted o y = true) (m x v : Operand) (t : TypeId) (hop : o.op = Op.mapUpdate t m x v)
    (k e : TypeId) (K : Keyed Try.prog k) (ht : Try.prog.underlying t = some (.map k e)) (b n : Nat) (f : Lit → Option Value) (hm : a.eval m = .map (some b)) (h : MapF w k b n f) (hn : n < maxLen)
    (key val : Value) (kl : Lit) (hx : a.eval x = key) (hv : a.eval v = val) (hkey : keyOf Try.prog k key = some kl)
    (hK : ∀ w', MapF w' k b (n + 1) (upF f kl val) → w.mapTurned w' b → K' (a.put o.dst undef) w') : if Region.wanted o y then o.wp Try.prog a w K' Q else k0 := by
  rw [if_pos hgd]
  obtain ⟨w', hrun, r1, r2⟩ := h.store K ht hn hkey val
  unfold Oper.wp
  simp [execOp, hop, hm, hx, hv, hrun, Result.andThen]
  exact hK w' r1 r2
/-- blocks of tiers stay as they were -/
def Keeps36 (w w' : World) : Prop := ∀ (k : Nat) (cs : Array Value) (fr : Nat × Nat), w.heap[k]? = some (Obj.cells cs 36 fr) → w'.heap[k]? = some (Obj.cells cs 36 fr)
theorem Keeps36.trans {a b c : World} (h : Keeps36 a b) (k : Keeps36 b c) : Keeps36 a c := fun i cs fr hi => k i cs fr (h i cs fr hi)
theorem keeps36_below {w w' : World} (h : Below w.heap.size w w') : Keeps36 w w' := fun k cs fr hk => (h.block k (Array.getElem?_eq_some_iff.1 hk).1).trans hk
theorem keeps36_turned {w w' : World} {b : Nat} (h : w.mapTurned w' b) : Keeps36 w w' := fun k cs fr hk => by
  refine (turned_block h k ?_).trans hk
  rintro rfl
  obtain ⟨es, clock, _, _, hb, _⟩ := h
  rw [hb] at hk
  cases hk
theorem keeps36_grownK {w w' : World} {B : Nat} {u : Value} {ks : List (Int × Int)} (g : w.grownBy w' u.ownBlock) (o : OwnK w B u ks) : Keeps36 w w' := fun k cs fr hk => by
  refine (g.block k (Array.getElem?_eq_some_iff.1 hk).1 ?_).trans hk
  intro e'
  rcases o.own.2 with ⟨rfl, _⟩ | ⟨q', cap', cur', rfl, _, hq, _⟩
  · cases e'
  · simp [Value.ownBlock] at e'
    subst e'
    rw [hk] at hq
    cases hq
theorem keeps36_set {w : World} {p i : Nat} {cs : List Value} {T : TypeId} (V : VA w p cs T) (hT : T ≠ 36) (u : Value) : Keeps36 w (w.setCell ⟨p, i, none⟩ u) := fun k ds fr hk => by
  refine ((upd_set w p i u).block k ?_).trans hk
  rintro rfl
  rw [V.blk] at hk
  cases hk
  exact hT rfl
theorem OwnT.setV {w : World} {B p i : Nat} {v : Value} {ts : List (Int × Int)} {cs : List Value} {T : TypeId} (h : OwnT w B v ts) (V : VA w p cs T) (hT : T ≠ 36) (u : Value) : OwnT (w.setCell ⟨p, i, none⟩ u) B v ts := by
  refine ⟨h.wf, h.own.1, ?_⟩
  rcases h.own.2 with h2 | ⟨q, cap, cur, e, hb, hg, r⟩
  · exact Or.inl h2
  · exact Or.inr ⟨q, cap, cur, e, hb, keeps36_set V hT u q _ _ hg, r⟩
theorem OwnK.setV {w : World} {B p i : Nat} {v : Value} {ts : List (Int × Int)} {cs : List Value} {T : TypeId} (h : OwnK w B v ts) (V : VA w p cs T) (hT : T ≠ 67) (u : Value) : OwnK (w.setCell ⟨p, i, none⟩ u) B v ts := by
  refine ⟨h.wf, h.own.1, ?_⟩
  rcases h.own.2 with h2 | ⟨q, cap, cur, e, hb, hg, r⟩
  · exact Or.inl h2
  · refine Or.inr ⟨q, cap, cur, e, hb, ((upd_set w p i u).block q ?_).trans hg, r⟩
    rintro rfl
    rw [V.blk] at hg
    cases hg
    exact hT rfl
theorem Cat.le {w : World} {p B : Nat} {S : Nat → Prop} {vs : List PV} (h : Cat w p B S vs) : B ≤ p := by
  obtain ⟨h1, h2, h3, bm, sv, n, f, a1, a2, _⟩ := h
  exact a2
theorem bel_turned {w w' : World} {b B : Nat} (h : w.mapTurned w' b) (hb : B ≤ b) : Below B w w' := by
  have g := h.grown
  obtain ⟨es, clock, es', clock', hb', rfl⟩ := h
  exact ⟨rfl, rfl, rfl, by simp [ChangeMaps.setBlock], fun k hk => g.block k (by have := (Array.getElem?_eq_some_iff.1 hb').1; omega) (by intro e; cases e; omega)⟩
theorem cat_added {w3 w4 w5 w6 : World} {p B bm m N : Nat} {S : Nat → Prop} {vs : List PV} {x : PV} {f : Lit → Option Value} {sv v4 v6 : Value} {o : Obj} (hx : x.wf) (hc : chk x = 0) (h1 : ∀ x ∈ vs, x.wf) (h2 : ∀ x ∈ vs, chk x = 0) (h3 : vs.length < 64) (a2 : B ≤ p) (a3 : B ≤ bm) (a5 : m ≤ vs.length)
    (a7 : ∀ x ∈ vs, ∃ tv, f (kl x.id x.day) = some (.agg (x.cells tv).toArray) ∧ OwnT w3 B tv x.ts ∧ ∀ k, tv.ownBlock = some k → S k) (a8 : ∀ id day, I64 id → I64 day → (∀ x ∈ vs, ¬ (x.id = id ∧ x.day = day)) → f (kl id day) = none)
    (hth : ∀ y ∈ vs, ¬ (y.id = x.id ∧ y.day = x.day)) (F4 : MapF w3 67 bm m f) (b4 : Below w3.heap.size w3 w4) (o4 : OwnT w4 w3.heap.size v4 x.ts) (hN : N ≤ w3.heap.size) (hB : B ≤ w3.heap.size)
    (m5 : MapF w5 67 bm (m + 1) (upF f (kl x.id x.day) (.agg (x.cells v4).toArray))) (t5 : w4.mapTurned w5 bm) (OA : OwnK (w5.alloc o).drew B sv (keysOf vs)) (g6 : (w5.alloc o).drew.grownBy w6 sv.ownBlock) (o6 : OwnK w6 B v6 (keysOf vs ++ [(x.id, x.day)])) (V6 : VA w6 p [.map (some bm), sv] 65) :
    Cat (w6.setCell ⟨p, 1, none⟩ v6) p B (fun k => S k ∨ N ≤ k) (vs ++ [x]) := by
  have BA := (Below.refl w5.heap.size w5).alloc (Nat.le_refl _) o
  have chain : ∀ {b : Nat} {v : Value} {ts : List (Int × Int)}, OwnT w4 b v ts → OwnT (w6.setCell ⟨p, 1, none⟩ v6) b v ts := by
    intro b v ts h
    have h5 := (h.turned (F4.step b4) t5).step BA
    have h5' : OwnT (w5.alloc o).drew b v ts := ⟨h5.wf, h5.own⟩
    exact (h5'.grownK g6 OA).setV V6 (by decide) v6
  have m6 : MapF (w5.alloc o).drew 67 bm (m + 1) (upF f (kl x.id x.day) (.agg (x.cells v4).toArray)) := m5.step BA.drew
  have m7 := m6.grownK g6 OA
  refine ⟨?_, ?_, by simp; omega, bm, v6, m + 1, _, V6.set 1 v6, a2, a3, m7.setCell (V6.notMap m7) _, by simp; omega, ?_, ?_, ?_⟩
  · intro y hy
    rcases List.mem_append.1 hy with hy | hy
    · exact h1 y hy
    · simp only [List.mem_cons, List.not_mem_nil, or_false] at hy; subst hy; exact hx
  · intro y hy
    rcases List.mem_append.1 hy with hy | hy
    · exact h2 y hy
    · simp only [List.mem_cons, List.not_mem_nil, or_false] at hy; subst hy; exact hc
  · have e : keysOf (vs ++ [x]) = keysOf vs ++ [(x.id, x.day)] := by simp [keysOf]
    rw [e]
    exact o6.setV V6 (by decide) v6
  · intro y hy
    rcases List.mem_append.1 hy with hy | hy
    · obtain ⟨tv, e1, e2, e3⟩ := a7 y hy
      refine ⟨tv, ?_, chain (e2.step b4), fun k hk => Or.inl (e3 k hk)⟩
      rw [upF_other _ _ (kl_ne (h1 y hy).id (h1 y hy).day hx.id hx.day (hth y hy))]
      exact e1
    · simp only [List.mem_cons, List.not_mem_nil, or_false] at hy
      subst hy
      refine ⟨v4, upF_same _ (keyedP.key (kl_key hx.id hx.day)) _, (chain o4).lower hB, fun k hk => Or.inr ?_⟩
      have := o4.block k hk
      omega
  · intro id day i1 i2 hn
    have hne : kl id day ≠ kl x.id x.day := kl_ne i1 i2 hx.id hx.day (fun e => hn x (by simp) ⟨e.1.symm, e.2.symm⟩)
    rw [upF_other _ _ hne]
    exact a8 id day i1 i2 (fun y hy => hn y (List.mem_append_left _ hy))
set_option maxRecDepth 100000 in
set_option maxHeartbeats 4000000 in
theorem add_yes {p B : Nat} {S : Nat → Prop} {vs : List PV} (x : PV) (tv : Value) (w : World) (hC : Cat w p B S vs) (hx : x.wf) (h : Tr w tv x.ts) (hno : ∀ n c, tv = .slice none n c → c = 0) (hc : chk x = 0) (hq : fol vs x = 0) (h64 : vs.length < 64) :
    Calls Try.prog 17 #[.pointer (some ⟨p, 0, none⟩), .agg (x.cells tv).toArray] w fun e w' => e = .returned (.int .i64 0) ∧ Cat w' p B (fun k => S k ∨ w.heap.size ≤ k) (vs ++ [x]) ∧ Below B w w' ∧ Keeps36 w w' := by
  have HV := (show Hid _ from va_new w (x.cells tv) 25)
  have HD := (show Hid _ from (Below.refl w.heap.size w).alloc (Nat.le_refl _) (.cells (x.cells tv).toArray 25))
  have HT := (show Hid _ from h.step HD.out)
  have HC := (show Hid _ from hC.step HD.out)
  have HN := (show Hid _ from hno)
  have HCK := (show Hid _ from hc)
  have HFQ := (show Hid _ from hq)
  have HBp := (show Hid _ from (And.intro hC.le hC.lt))
  have HTH : Hid (∀ y ∈ vs, ¬ (y.id = x.id ∧ y.day = x.day)) := by
    intro y hy e
    have : there vs x.id x.day = true := by
      unfold there
      rw [List.any_eq_true]
      exact ⟨y, hy, by simpa using e⟩
    unfold fol at hq
    rw [this] at hq
    cases hq
  have HL8 := (show Hid _ from chk_len hc)
  clear h hC hno
  go_enter Try.func17, Try.ntmps17
  go_wp2_with (refine ldA rfl 25 _ rfl w.heap.size (by rfl) _ _ HV.out _ Try.underlying25 rfl infoP ?_)
  refine (check_ok x tv _ HT.out).mono ?_
  rintro e w1 ⟨rfl, b1⟩
  rw [hc]
  have V1 := (show Hid _ from HV.out.step b1)
  have C1 := (show Hid _ from HC.out.step b1)
  have D1 := (show Hid _ from HD.out.trans (b1.mono HD.out.size))
  have T1 := (show Hid _ from HT.out.step b1)
  clear b1 HV HC HD hc HT
  go_wp2_with (refine ldA rfl 25 _ rfl w.heap.size (by rfl) _ _ V1.out _ Try.underlying25 rfl infoP ?_)
  refine (follows_ok x tv _ C1.out hx).mono ?_
  rintro e w2 ⟨rfl, b2⟩
  rw [hq]
  have D2 := (show Hid _ from D1.out.trans (b2.mono D1.out.size))
  have C2 := (show Hid _ from C1.out.step b2)
  have V2 := (show Hid _ from V1.out.step b2)
  have T2 := (show Hid _ from T1.out.step b2)
  clear b2 V1 C1 D1 T1 hq
  obtain ⟨bm0, sa, cap, a1, g2, g3⟩ := C2.out.order
  have c1 := a1.cell 1 (v := .slice sa vs.length cap) rfl
  have q0 := V2.out.cell 0 (v := .int .i64 x.id) rfl
  have q3 := V2.out.cell 3 (v := .int .i64 x.day) rfl
  obtain ⟨n, hn⟩ : ∃ n, n = vs.length := ⟨_, rfl⟩
  have HNL := (show Hid _ from hn)
  rw [← hn] at c1 h64
  have d1 : (n : Int) < 64 := by omega
  clear a1 hn
  go_upto_region 12 with fail
  have BA := (Below.refl w2.heap.size w2).alloc (Nat.le_refl _) (.cells #[.int .i64 x.id, .int .i64 x.day] 67)
  have VK := va_new w2 [.int .i64 x.id, .int .i64 x.day] 67
  have V3 := V2.out.step BA
  have C3 := C2.out.step BA
  have T3 := (show Hid _ from T2.out.step BA)
  have D3 := (show Hid _ from D2.out.trans (BA.mono D2.out.size))
  have lk := V2.out.lt
  clear c1 q0 q3 V2 C2 T2 D2 BA
  generalize w2.heap.size = pk at *
  generalize w2.alloc (.cells #[.int .i64 x.id, .int .i64 x.day] 67) = w3 at *
  obtain ⟨h1, h2, h3, bm, sv, m, f, a1, a2, a3, a4, a5, a6, a7, a8⟩ := C3
  have HMM := (show Hid _ from (And.intro h1 (And.intro h2 (And.intro h3 (And.intro a2 (And.intro a3 (And.intro a5 (And.intro a7 a8))))))))
  have HK6 := (show Hid _ from a6)
  have HF4 : Hid (MapF w3 67 bm m f) := a4
  have HA1 := (show Hid _ from a1)
  have HVK := (show Hid _ from VK)
  have HV3 := (show Hid _ from V3)
  clear h1 h2 h3 a2 a3 a5 a7 a8 a6 a4
  refine wp_region_noPanic ?_
  refine wp_region_held_drew (S := fun w' => VA w' p [.map (some bm), sv] 65 ∧ VA w' pk [.int .i64 x.id, .int .i64 x.day] 67 ∧ VA w' w.heap.size (x.cells tv) 25) (by kernel_rfl) ⟨a1.drew, VK.drew, V3.drew⟩ (fun hHeld => ?_)
  clear a1 VK V3 hHeld
  refine wpAnyH_take (i := 0) (v := .pointer (some ⟨p, 0, none⟩)) (by exact rfl) (by kernel_rfl) (by kernel_rfl) (by kernel_rfl) (fun _ _ _ h => h) (Or.inl ⟨by rfl, ?_⟩) ⟨HA1.out.drew, HVK.out.drew, HV3.out.drew⟩ ?_
  · intro wq hS
    go_simp
  refine wpAnyH_take (i := 1) (v := .pointer (some ⟨p, 0, none⟩)) (by exact rfl) (by kernel_rfl) (by kernel_rfl) (by kernel_rfl) (fun _ _ _ h => h) (Or.inl ⟨by rfl, ?_⟩) ⟨HA1.out.drew, HVK.out.drew, HV3.out.drew⟩ ?_
  · intro wq hS
    go_simp
  refine wpAnyH_take (i := 2) (v := .pointer (some ⟨p, 0, none⟩)) (by exact rfl) (by kernel_rfl) (by kernel_rfl) (by kernel_rfl) (fun _ _ _ h => h) (Or.inl ⟨by rfl, ?_⟩) ⟨HA1.out.drew, HVK.out.drew, HV3.out.drew⟩ ?_
  · intro wq hS
    go_simp
  refine wpAnyH_take (i := 3) (v := .map (some bm)) (by exact rfl) (by kernel_rfl) (by kernel_rfl) (by kernel_rfl) (fun _ _ _ h => h) (Or.inl ⟨by rfl, ?_⟩) ⟨HA1.out.drew, HVK.out.drew, HV3.out.drew⟩ ?_
  · intro wq hS
    have c := hS.1.cell 0 (v := .map (some bm)) rfl
    go_simp
  refine wpAnyH_take (i := 4) (v := .agg #[.int .i64 x.id, .int .i64 x.day]) (by exact rfl) (by kernel_rfl) (by kernel_rfl) (by kernel_rfl) (fun _ _ _ h => h) (Or.inl ⟨by rfl, ?_⟩) ⟨HA1.out.drew, HVK.out.drew, HV3.out.drew⟩ ?_
  · intro wq hS
    have c := hS.2.1.cell 0 (v := .int .i64 x.id) rfl
    have d := hS.2.1.cell 1 (v := .int .i64 x.day) rfl
    go_simp
  refine wpAnyH_take (i := 5) (v := .agg (x.cells tv).toArray) (by exact rfl) (by kernel_rfl) (by kernel_rfl) (by kernel_rfl) (fun _ _ _ h => h) (yieldsIf_load_mid (by rfl) _ _ rfl _ _ rfl _ _ (fun wq hS => (fun j u hj => by rw [Nat.zero_add]; exact hS.2.2.cell j hj)) Try.underlying25 rfl infoP) ⟨HA1.out.drew, HVK.out.drew, HV3.out.drew⟩ ?_
  refine wpAnyH_ready (rs := [6]) (by kernel_rfl) (by simp) ?_
  refine AllReadyH.cons (by exact rfl) (fun K hK => ?_) AllReadyH.nil
  go_simp
  refine (copied_ok x tv _ (T3.out.step (Below.refl w3.heap.size w3).drew) HN.out (by have := HL8.out; omega)).mono ?_
  rintro e w4 ⟨⟨v4, rfl, o4⟩, b4⟩
  have b4 : Below w3.heap.size w3 w4 := ((Below.refl w3.heap.size w3).drew).trans b4
  have O4 := (show Hid _ from o4)
  have HB4 := (show Hid _ from b4)
  clear o4 b4
  go_wp2_with fail
  refine hK.out _ _ ⟨HA1.out.step HB4.out, HVK.out.step HB4.out, HV3.out.step HB4.out⟩ (fun hHeld => ?_)
  clear hK K hHeld
  refine wpAnyH_ready (rs := [7]) (by kernel_rfl) (by simp) ?_
  refine AllReadyH.cons (by exact rfl) (fun K hK => ?_) AllReadyH.nil
  refine stMo (by rfl) _ _ _ 62 (by rfl) 67 25 keyedP Try.underlying62 bm m f (by rfl) (HF4.out.step HB4.out) (by have := HMM.out.2.2.2.2.2.1; have := HMM.out.2.2.1; unfold maxLen; omega) (.agg #[.int .i64 x.id, .int .i64 x.day]) (.agg (x.cells v4).toArray) (kl x.id x.day) (by rfl) (by rfl) (kl_key hx.id hx.day) ?_
  intro w5 m5 t5
  have A5 := (HA1.out.step HB4.out).turned (HF4.out.step HB4.out) t5
  have K5 := (HVK.out.step HB4.out).turned (HF4.out.step HB4.out) t5
  have X5 := (HV3.out.step HB4.out).turned (HF4.out.step HB4.out) t5
  refine hK.out _ _ ⟨A5, K5, X5⟩ (fun hHeld => ?_)
  clear hK K hHeld
  refine wpAnyH_done (by kernel_rfl) ?_ _
  refine NoPanic.normal ?_
  have OK5 := (HK6.out.step HB4.out).turned (HF4.out.step HB4.out) t5
  have OT5 := (show Hid _ from O4.out.turned (HF4.out.step HB4.out) t5)
  have HM5 : Hid (MapF w5 67 bm (m + 1) (upF f (kl x.id x.day) (.agg (x.cells v4).toArray))) := m5
  have HT5 : Hid (World.mapTurned w4 w5 bm) := t5
  clear m5 t5 X5
  go_upto_region 13 with fail
  obtain ⟨sa', sn', sk', rfl⟩ := OK5.form
  have BA := (Below.refl w5.heap.size w5).alloc (Nat.le_refl _) (.cells #[.int .i64 x.id, .int .i64 x.day] 67)
  have c1 := A5.cell 1 (v := .slice sa' sn' sk') rfl
  have c2 := (A5.step BA).cell 1 (v := .slice sa' sn' sk') rfl
  have q0 := K5.cell 0 (v := .int .i64 x.id) rfl
  have q1 := K5.cell 1 (v := .int .i64 x.day) rfl
  have OA := (show Hid _ from OK5.step BA)
  have VA6 := (show Hid _ from A5.step BA)
  have WF1 : Hid (∀ t ∈ [(x.id, x.day)], I64 t.1 ∧ I64 t.2) := by
    intro t ht
    simp only [List.mem_cons, List.not_mem_nil, or_false] at ht
    subst ht
    exact ⟨hx.id, hx.day⟩
  have CE1 : Hid (∀ k, k < [(x.id, x.day)].length → (w5.alloc (.cells #[.int .i64 x.id, .int .i64 x.day] 67)).cell? ⟨w5.heap.size, 0 + 2 * k, none⟩ = some (.int .i64 ([(x.id, x.day)].getD k (0, 0)).1) ∧ (w5.alloc (.cells #[.int .i64 x.id, .int .i64 x.day] 67)).cell? ⟨w5.heap.size, 0 + 2 * k + 1, none⟩ = some (.int .i64 ([(x.id, x.day)].getD k (0, 0)).2)) := by
    intro k hk
    have VT := va_new w5 [.int .i64 x.id, .int .i64 x.day] 67
    obtain rfl : k = 0 := by simpa using hk
    exact ⟨VT.cell 0 rfl, VT.cell 1 rfl⟩
  have lp5 : p < w5.heap.size := A5.lt
  have SZ1 : Hid (B ≤ (w5.alloc (.cells #[.int .i64 x.id, .int .i64 x.day] 67)).heap.size) := by
    show B ≤ _
    have := HBp.out.1
    rw [World.size_alloc]
    omega
  have LN1 : Hid ((keysOf vs).length + [(x.id, x.day)].length ≤ 8796093022208) := by
    show (keysOf vs).length + 1 ≤ _
    have := HNL.out
    simp [keysOf]
    omega
  clear BA A5 K5 OK5
  go_region_law (refine appKk (by rfl) _ _ rfl B (keysOf vs) [(x.id, x.day)] (.slice sa' sn' sk') w5.heap.size 0 1 (by rfl) (by rfl) (OwnK.mk OA.out.wf OA.out.own) WF1.out CE1.out SZ1.out LN1.out ?_; intro v6 w6 o6 b6 g6; obtain ⟨va, vn, vc, rfl⟩ := o6.form; have V6 := VA6.out.drew.grownK g6 (OwnK.mk OA.out.wf OA.out.own) (by decide); have cz := V6.cell 1 (v := .slice sa' sn' sk') rfl; have fz := V6.free 1)
  all_goals (
    go_wp2_with fail
    go_ret
    obtain ⟨h1, h2, h3, a2, a3, a5, a7, a8⟩ := HMM.out
    have l3 := D3.out.size
    have hp := HBp.out
    have W4 : Keeps36 w3 w4 := keeps36_below HB4.out
    have W6 : Keeps36 (w5.alloc (.cells #[.int .i64 x.id, .int .i64 x.day] 67)).drew w6 := keeps36_grownK g6 (OwnK.mk OA.out.wf OA.out.own)
    have W5 : Keeps36 w5 (w5.alloc (.cells #[.int .i64 x.id, .int .i64 x.day] 67)).drew := keeps36_below (((Below.refl w5.heap.size w5).alloc (Nat.le_refl _) _).drew)
    have b56 : Below B w5 w6 := (((Below.refl B w5).alloc (by omega) (.cells #[.int .i64 x.id, .int .i64 x.day] 67)).drew).trans b6
    have b35 : Below B w3 w5 := (HB4.out.mono (by omega)).trans (bel_turned HT5.out a3)
    have b03 : Below B w w3 := D3.out.mono (by omega)
    exact ⟨rfl, cat_added hx HCK.out h1 h2 (by have := HNL.out; omega) a2 a3 a5 a7 a8 HTH.out HF4.out HB4.out (OwnT.mk O4.out.wf O4.out.own) l3 (by omega) HM5.out HT5.out (OwnK.mk OA.out.wf OA.out.own) g6 o6 V6, ((b03.trans b35).trans b56).setCell (p := ⟨p, 1, none⟩) a2 _,
      ((((keeps36_below D3.out).trans W4).trans (keeps36_turned HT5.out)).trans (W5.trans W6)).trans (keeps36_set V6 (by decide) _)⟩)
end Go.Proofs.Ytgbphbeafomabaa
