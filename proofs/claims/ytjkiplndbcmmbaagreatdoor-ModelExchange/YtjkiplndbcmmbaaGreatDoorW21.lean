/- texts of the model: Gg Gh Gi -/
import Derived.Test.YtjkiplndbcmmbaaGreatDoorW20
import Derived.Test.YtjkiplndbcmmbaaGreatDoorW02
import Derived.DeepKeys4
set_option linter.unusedVariables false
set_option linter.unusedSimpArgs false
set_option maxHeartbeats 16000000
set_option maxRecDepth 100000
namespace Go.Proofs.YtjkiplndbcmmbaaGreatDoor
open Tryz
open Go.RowKit
attribute [local go_sem] ap ai ar af ae ag aD av ax ay aN aO aP aQ aR
def zeroV : PV := ⟨0, 0, 0, 0, 0, 0, 0, 0, []⟩
theorem gL (tv : Value) (ts : List (Int × Int)) (w : World) (h : Tr w tv ts) (hno : ∀ n c, tv = .slice none n c → c = 0) (hl : ts.length ≤ 8796093022208) :
  Calls prog 39 #[tv] w fun e w' => (∃ v, e = .returned v ∧ OwnT w' w.heap.size v ts) ∧ Below w.heap.size w w' := by
 have HT := hI_ h
 have HN := hI_ hno
 have HL := hI_ hl
 obtain ⟨n, hn⟩ : ∃ n, n = ts.length := ⟨_, rfl⟩
 obtain ⟨ta, tc, rfl⟩ : ∃ a c, tv = .slice a n c := by obtain ⟨_, a, c, e, _⟩ := h; exact ⟨a, c, by rw [hn]; exact e⟩
 cases ta with
 | none =>
  obtain rfl : ts = [] := by
   cases ts with
   | nil => rfl
   | cons a t =>
    exfalso
    obtain ⟨_, a', c, e, _, _, h3⟩ := h
    obtain ⟨b, off, e', _⟩ := h3 (by simp)
    cases e
    cases e'
  subst hn
  obtain rfl : tc = 0 := hno _ _ rfl
  clear h hno hl
  have he : ∀ w : World, (binOp .eql 29 (.slice none 0 0) (.slice none 0 0)).run prog w = .ok (.bool true) w := fun _ => rfl
  go_enter func39, ntmps39
  go_wp2_with fail
  go_ret
  exact ⟨⟨_, rfl, bV _ _⟩, Below.refl _ _⟩
 | some ad =>
  have D1 := (Below.refl w.heap.size w).alloc (Nat.le_refl _) (.cells #[] 102)
  have HD := hI_ D1
  have H1 := hI_ (h.step D1)
  have HO := hI_ (oM w)
  clear D1 h hno hl hn
  have he : ∀ w : World, (binOp .eql 29 (.slice (some ad) n tc) (.slice none 0 0)).run prog w = .ok (.bool false) w := fun _ => rfl
  go_enter func39, ntmps39
  go_wp2_with (at_builtin; refine wW rfl _ _ rfl w.heap.size [] ts _ _ (by rfl) (by rfl) HO.out H1.out HN.out HD.out.size (by have := HL.out; simp; omega) ?_; intro v2 w2 o2 b2 g2; rw [List.nil_append] at o2)
  go_ret
  exact ⟨⟨_, rfl, o2⟩, HD.out.trans b2⟩
theorem OwnT.form {w : World} {B : Nat} {v : Value} {ts : List (Int × Int)} (h : OwnT w B v ts) : ∃ a n c, v = .slice a n c := by
 rcases h.own.2 with ⟨rfl, _⟩ | ⟨g, cap, cur, rfl, _⟩
 ·exact ⟨_, _, _, rfl⟩
 ·exact ⟨_, _, _, rfl⟩
theorem OwnT.nilcap {w : World} {B : Nat} {v : Value} {ts : List (Int × Int)} (h : OwnT w B v ts) : ∀ n c, v = .slice none n c → c = 0 := by
 rcases h.own.2 with ⟨rfl, _⟩ | ⟨g, cap, cur, rfl, _⟩
 ·intro n c e; cases e; rfl
 ·intro n c e; cases e
theorem OwnT.upd {w w' : World} {B p : Nat} {v : Value} {ts : List (Int × Int)} (h : OwnT w B v ts) (k : Upd p w w') (hp : p < B) : OwnT w' B v ts := by
 refine ⟨h.wf, h.own.1, ?_⟩
 rcases h.own.2 with h2 | ⟨g, cap, cur, e, hb, hg, r⟩
 ·exact Or.inl h2
 ·exact Or.inr ⟨g, cap, cur, e, hb, (k.block g (by omega)).trans hg, r⟩
theorem ed (x : PV) (tv : Value) (w : World) (h : Tr w tv x.ts) (hno : ∀ n c, tv = .slice none n c → c = 0) (hl : x.ts.length ≤ 8796093022208) :
  Calls prog 137 #[.agg (x.cells tv).toArray] w fun e w' => (∃ v, e = .returned (.agg (x.cells v).toArray) ∧ OwnT w' w.heap.size v x.ts) ∧ Below w.heap.size w w' := by
 obtain ⟨ta, tn, tc, rfl⟩ : ∃ a n c, tv = .slice a n c := by obtain ⟨_, a, c, e, _⟩ := h; exact ⟨a, _, c, e⟩
 have V := (aa w (x.cells (.slice ta tn tc)) 162).alloc (.cells #[.int .i64 0, .int .i64 0, .int .i64 0, .int .i64 0, .int .i64 0, .int .i64 0, .int .i64 0, .int .i64 0, .slice none 0 0] 162)
 have U := aa (w.alloc (.cells (x.cells (.slice ta tn tc)).toArray 162)) [.int .i64 0, .int .i64 0, .int .i64 0, .int .i64 0, .int .i64 0, .int .i64 0, .int .i64 0, .int .i64 0, .slice none 0 0] 162
 have D := ((Below.refl w.heap.size w).alloc (Nat.le_refl _) (.cells (x.cells (.slice ta tn tc)).toArray 162)).alloc (by simp) (.cells #[.int .i64 0, .int .i64 0, .int .i64 0, .int .i64 0, .int .i64 0, .int .i64 0, .int .i64 0, .int .i64 0, .slice none 0 0] 162)
 rw [World.size_alloc] at U
 have p8 := V.cell 8 (v := .slice ta tn tc) rfl
 have HU := hI_ U
 have HV := hI_ V
 have HD := hI_ D
 have HT := hI_ (h.step D)
 have HN := hI_ hno
 have HL := hI_ hl
 clear U V D h hno hl
 go_enter func137, ntmps137
 go_wp2_with fail
 generalize (w.alloc (.cells (x.cells (.slice ta tn tc)).toArray 162)).alloc (.cells #[.int .i64 0, .int .i64 0, .int .i64 0, .int .i64 0, .int .i64 0, .int .i64 0, .int .i64 0, .int .i64 0, .slice none 0 0] 162) = w1 at *
 refine (gL _ x.ts _ HT.out HN.out HL.out).mono ?_
 rintro e w2 ⟨⟨v, rfl, o2⟩, b2⟩
 obtain ⟨a2, n2, c2, rfl⟩ := o2.form
 have V2 := HV.out.step b2
 have U2 := hI_ (HU.out.step b2)
 have c8 := V2.cell 8 (v := .slice ta tn tc) rfl
 have f8 := V2.free 8
 have V3 := hI_ (V2.set 8 (.slice a2 n2 c2))
 have U3 := hI_ (U2.out.set_other (q := w.heap.size) (by omega) 8 (.slice a2 n2 c2))
 have O2 := hI_ o2
 have D2 := hI_ (HD.out.trans (b2.mono HD.out.size))
 have l1 : w.heap.size + 1 < w1.heap.size := HU.out.lt
 have l2 := b2.size
 clear V2 U2 HV HU HT b2 o2 p8
 go_wp2_with (first
  | (refine ldA rfl 162 _ rfl w.heap.size (by rfl) (x.cells (.slice a2 n2 c2)) _ V3.out _ underlying162 rfl infoP ?_)
  | (refine stA rfl 162 _ _ rfl (w.heap.size + 1) (by rfl) _ (x.cells (.slice a2 n2 c2)) (by rfl) 162 U3.out infoP rfl (bD _ ⟨_, _, _, rfl⟩) ?_; intro w4 V4 U4))
 refine bodyPost_ret (v := .agg (x.cells (.slice a2 n2 c2)).toArray) ?_ rfl ⟨⟨_, rfl, ?_⟩, U4.bel (D2.out.setCell (p := ⟨w.heap.size, 8, none⟩) (Nat.le_refl _) _) (by omega)⟩
 ·have hld := run_loadVar_row (P := prog) w4 (w.heap.size + 1) 162 162 _ (0, 0) _ V4.blk underlying162 rfl infoP
  simp [results, results137, asAddr, hld, Act.put]
 ·exact ((O2.out.upd (au _ _ _ _) (by omega)).upd U4 (by omega)).lower (by omega)
structure Of (w : World) (B : Nat) (x : PV) (v : Value) : Prop where
 own : ∃ g cap, v = .slice (some ⟨g, 0, none⟩) x.ts.length cap ∧ x.ts.length + 1 ≤ cap ∧ cap ≤ 9223372036854775807 ∧ B ≤ g ∧ OwnT w B (.slice (some ⟨g, 0, none⟩) (x.ts.length + 1) cap) (x.ts ++ [(77, 0)])
theorem Of.tr {w : World} {B : Nat} {x : PV} {v : Value} (h : Of w B x v) : Tr w v x.ts := by
 obtain ⟨g, cap, rfl, h1, h2, h3, o⟩ := h.own
 exact o.tr.front
theorem Of.step {w w' : World} {B : Nat} {x : PV} {v : Value} (h : Of w B x v) (k : Below w.heap.size w w') : Of w' B x v := by
 obtain ⟨g, cap, e, h1, h2, h3, o⟩ := h.own
 exact ⟨g, cap, e, h1, h2, h3, o.step k⟩
theorem Of.nilcap {w : World} {B : Nat} {x : PV} {v : Value} (h : Of w B x v) : ∀ n c, v = .slice none n c → c = 0 := by
 obtain ⟨g, cap, rfl, _⟩ := h.own
 intro n c e
 cases e
end Go.Proofs.YtjkiplndbcmmbaaGreatDoor
namespace Go.Proofs.YtjkiplndbcmmbaaGreatDoor
open Tryz
open Go.RowKit Go.Maps
theorem qq : laidOutB prog = true := by kernel_rfl
theorem rY : prog.types.size = 301 := by kernel_rfl
theorem keyedP : Keyed prog 208 := Keyed.of_law (deep_law_laid qq (m := 2) (by omega) (by rw [rY]; decide) (by kernel_rfl) (by kernel_rfl))
def kv (id day : Int) : Value := .agg #[.int .i64 id, .int .i64 day]
theorem yt : ∃ n, prog.types.size + 1 = n + 2 := by
 have : 1 ≤ prog.types.size := by rw [rY]; omega
 exact ⟨prog.types.size - 1, by omega⟩
def kl (id day : Int) : Lit := .string (keyBytes [.int .i64 id, .int .i64 day])
theorem dB {id day : Int} (h1 : I64 id) (h2 : I64 day) : keyOf prog 208 (kv id day) = some (kl id day) := by
 have w1 : (Lit.int .i64 id).wf = true := WalkArith.wf_i64 h1
 have w2 : (Lit.int .i64 day).wf = true := WalkArith.wf_i64 h2
 have hk : prog.keyType 208 = true := by kernel_rfl
 have hf : (kv id day).formed prog 208 = true := by
  have hc : prog.cellsOf 208 = 2 := by kernel_rfl
  simp [Value.formed, kv, underlying208, hc]
 obtain ⟨n, hn⟩ := yt
 have hl : prog.keyLits (prog.types.size + 1) 208 [.int .i64 id, .int .i64 day] = some [.int .i64 id, .int .i64 day] := by
  rw [hn]
  have c1 : prog.cellsOf 208 = 2 := by kernel_rfl
  have c2 : prog.cellsOf 2 = 1 := by kernel_rfl
  have c3 : prog.cellsOf 3 = 1 := by kernel_rfl
  simp [Program.keyLits, underlying208, underlying2, underlying3, c1, c2, c3, w1, w2]
 have hu := underlying208
 unfold keyOf kl
 rw [hu]
 simp only [hk, hf, Bool.and_self, if_true]
 simp only [kv, Value.cells] at hl ⊢
 rw [hl]
 rfl
theorem xK : (prog.info? 208).map (fun i => (i.zero, i.size, i.bytes)) = some (some (.agg #[.int .i64 0, .int .i64 0]), 2, 16) := by kernel_rfl
theorem ku : ∃ i, prog.info? 208 = some i ∧ i.zero = some (.agg #[.int .i64 0, .int .i64 0]) ∧ i.size = 2 ∧ i.bytes = 16 := by
 obtain ⟨i, hi, hz⟩ := Option.map_eq_some_iff.1 xK
 simp only [Prod.mk.injEq] at hz
 exact ⟨i, hi, hz.1, hz.2.1, hz.2.2⟩
structure OwnK (w : World) (B : Nat) (v : Value) (ts : List (Int × Int)) : Prop where
 wf : ∀ t ∈ ts, I64 t.1 ∧ I64 t.2
 own : w.ownsRow B 208 2 v ts.length (tcs ts)
theorem qO (w : World) (B : Nat) : OwnK w B (.slice none 0 0) [] := ⟨fun t h => (by cases h), World.ownsRow_nil _ _ _ _⟩
theorem OwnK.block {w : World} {B : Nat} {v : Value} {cs : List (Int × Int)} (h : OwnK w B v cs) : ∀ k, v.ownBlock = some k → B ≤ k := by
 obtain ⟨hl, h2⟩ := h.own
 rcases h2 with ⟨rfl, h0⟩ | ⟨g, cap, cur, rfl, hb, _⟩
 ·intro k hk; simp [Value.ownBlock] at hk
 ·intro k hk; simp [Value.ownBlock] at hk; omega
theorem OwnK.step {w w' : World} {B : Nat} {v : Value} {cs : List (Int × Int)} (h : OwnK w B v cs) (k : Below w.heap.size w w') : OwnK w' B v cs := by
 refine ⟨h.wf, h.own.1, ?_⟩
 rcases h.own.2 with h2 | ⟨g, cap, cur, e, hb, hg, r⟩
 ·exact Or.inl h2
 ·have hlt : g < w.heap.size := by
   rcases Nat.lt_or_ge g w.heap.size with hlt | hge
   ·exact hlt
   ·rw [Array.getElem?_eq_none hge] at hg; cases hg
  exact Or.inr ⟨g, cap, cur, e, hb, (k.block g hlt).trans hg, r⟩
theorem OwnK.tr {w : World} {B : Nat} {v : Value} {ts : List (Int × Int)} (h : OwnK w B v ts) : Tr w v ts := by
 refine ⟨h.wf, ?_⟩
 have ho := h.own
 rcases h.own.2 with ⟨rfl, h0⟩ | ⟨g, cap, cur, rfl, hb, hg, hcap, hcm, hcs, htk⟩
 ·exact ⟨none, 0, by rw [h0], by omega, by omega, fun h => by omega⟩
 ·refine ⟨some ⟨g, 0, none⟩, cap, rfl, hcap, by unfold maxLen at hcm; omega, fun h0 => ⟨g, 0, rfl, ?_, fun k hk => ?_⟩⟩
  ·rcases Nat.lt_or_ge g w.heap.size with hlt | hge
   ·exact hlt
   ·rw [Array.getElem?_eq_none hge] at hg; cases hg
  ·have hlt1 : 2 * k + 1 < (tcs ts).length := by rw [eK]; omega
   have e1 := ho.cellAt (2 * k) (by omega)
   have e2 := ho.cellAt (2 * k + 1) (by omega)
   rw [Nat.zero_add]
   exact ⟨by rw [e1, (eJ ts k hk).1], by rw [e2, (eJ ts k hk).2]⟩
theorem uC {w : World} {y : Nat → Option Bool} {o : Oper} {a : Act} {Q : Exit → Act → World → Prop} {K : Act → World → Prop} {k0 : Prop} (hgd : Region.wanted o y = true) (s x : Operand)
  (ho : o.op = .call { callee := .builtin .append, args := #[s, x], argTypes := #[152, 152] })
  (B : Nat) (cs bs : List (Int × Int)) (v : Value) (b off c : Nat) (hs : a.eval s = v) (hx : a.eval x = .slice (some ⟨b, off, none⟩) bs.length c)
  (hown : OwnK w B v cs) (hwf : ∀ t ∈ bs, I64 t.1 ∧ I64 t.2) (hcell : ∀ k, k < bs.length → w.cell? ⟨b, off + 2 * k, none⟩ = some (.int .i64 (bs.getD k (0, 0)).1) ∧ w.cell? ⟨b, off + 2 * k + 1, none⟩ = some (.int .i64 (bs.getD k (0, 0)).2)) (hB : B ≤ w.heap.size) (hl : cs.length + bs.length ≤ 8796093022208)
  (h : ∀ v' w', OwnK w' B v' (cs ++ bs) → Below B w w' → w.grownBy w' v.ownBlock → K (a.put o.dst v') w') :
  if Region.wanted o y then o.wp prog a w K Q else k0 := by
 obtain ⟨i0, hi, hz0, hz1, hz2⟩ := ku
 rw [if_pos hgd]
 refine wp_append_own _ s x 152 ho B 208 i0 (.agg #[.int .i64 0, .int .i64 0]) 2 16 underlying152 hi hz0 hz1 hz2 rfl (by decide) v cs.length (tcs cs) hs hown.own ⟨b, off, none⟩ bs.length c (tcs bs) hx (by rw [eK]; omega) ?_ (fun u hu => nw hu) (by unfold maxLen; omega) (by omega) hB (fun v' w' g1 g2 _ => h v' w' ⟨fun t ht => ?_, ?_⟩ ((Below.refl _ _).grown g2 hB hown.block) g2)
 ·intro j u hj
  have hj' : j < (tcs bs).length := (List.getElem?_eq_some_iff.1 hj).1
  rw [eK] at hj'
  rw [Go.WideShapes.add_plain]
  have e : j = 2 * (j / 2) ∨ j = 2 * (j / 2) + 1 := by omega
  have hk := hcell (j / 2) (by omega)
  have hg := eJ bs (j / 2) (by omega)
  rcases e with e | e
  ·rw [e] at hj ⊢
   rw [hk.1, ← hg.1, hj]
  ·rw [e] at hj ⊢
   rw [← Nat.add_assoc, hk.2, ← hg.2, hj]
 ·rcases List.mem_append.1 ht with ht | ht
  ·exact hown.wf t ht
  ·exact hwf t ht
 ·rw [List.length_append, nu]
  exact g1
theorem VA.grownK {w w' : World} {p B : Nat} {cs : List Value} {T : TypeId} {v : Value} {bs : List (Int × Int)} (h : VA w p cs T) (g : w.grownBy w' v.ownBlock) (o : OwnK w B v bs) (hT : T ≠ 208) : VA w' p cs T := by
 refine ⟨(g.block p h.lt (fun e => ?_)).trans h.blk⟩
 rcases o.own.2 with ⟨rfl, _⟩ | ⟨q, cap, cur, rfl, _, hq, _⟩
 ·cases e
 ·cases e
  have := h.blk.symm.trans hq
  simp at this
  exact hT this.2
theorem OwnK.form {w : World} {B : Nat} {v : Value} {ts : List (Int × Int)} (h : OwnK w B v ts) : ∃ a n c, v = .slice a n c := by
 rcases h.own.2 with ⟨rfl, _⟩ | ⟨g, cap, cur, rfl, _⟩
 ·exact ⟨_, _, _, rfl⟩
 ·exact ⟨_, _, _, rfl⟩
theorem OwnT.grownK {w w' : World} {B B' : Nat} {v u : Value} {ts ks : List (Int × Int)} (h : OwnT w B v ts) (g : w.grownBy w' u.ownBlock) (o : OwnK w B' u ks) : OwnT w' B v ts := by
 refine ⟨h.wf, h.own.1, ?_⟩
 rcases h.own.2 with h2 | ⟨q, cap, cur, e, hb, hg, r⟩
 ·exact Or.inl h2
 ·refine Or.inr ⟨q, cap, cur, e, hb, (g.block q ?_ ?_).trans hg, r⟩
  ·rcases Nat.lt_or_ge q w.heap.size with hlt | hge
   ·exact hlt
   ·rw [Array.getElem?_eq_none hge] at hg; cases hg
  ·intro e'
   rcases o.own.2 with ⟨rfl, _⟩ | ⟨q', cap', cur', rfl, _, hq, _⟩
   ·cases e'
   ·simp [Value.ownBlock] at e'
    subst e'
    rw [hg] at hq
    cases hq
theorem MapF.grownK {w w' : World} {k : TypeId} {b n B' : Nat} {f : Lit → Option Value} {u : Value} {ks : List (Int × Int)} (h : MapF w k b n f) (g : w.grownBy w' u.ownBlock) (o : OwnK w B' u ks) : MapF w' k b n f := by
 refine h.blk (g.block b h.lt ?_)
 intro e'
 obtain ⟨D, ⟨es, clock, hb, _⟩, _⟩ := h
 rcases o.own.2 with ⟨rfl, _⟩ | ⟨q', cap', cur', rfl, _, hq, _⟩
 ·cases e'
 ·simp [Value.ownBlock] at e'
  subst e'
  rw [hb] at hq
  cases hq
theorem OwnT.turned {w w' : World} {B b n : Nat} {k : TypeId} {f : Lit → Option Value} {v : Value} {ts : List (Int × Int)} (h : OwnT w B v ts) (m : MapF w k b n f) (t : w.mapTurned w' b) : OwnT w' B v ts := by
 refine ⟨h.wf, h.own.1, ?_⟩
 rcases h.own.2 with h2 | ⟨q, cap, cur, e, hb, hg, r⟩
 ·exact Or.inl h2
 ·refine Or.inr ⟨q, cap, cur, e, hb, (bF t q ?_).trans hg, r⟩
  rintro rfl
  obtain ⟨D, ⟨es, clock, hb, _⟩, _⟩ := m
  rw [hb] at hg
  cases hg
theorem OwnK.turned {w w' : World} {B b n : Nat} {k : TypeId} {f : Lit → Option Value} {v : Value} {ts : List (Int × Int)} (h : OwnK w B v ts) (m : MapF w k b n f) (t : w.mapTurned w' b) : OwnK w' B v ts := by
 refine ⟨h.wf, h.own.1, ?_⟩
 rcases h.own.2 with h2 | ⟨q, cap, cur, e, hb, hg, r⟩
 ·exact Or.inl h2
 ·refine Or.inr ⟨q, cap, cur, e, hb, (bF t q ?_).trans hg, r⟩
  rintro rfl
  obtain ⟨D, ⟨es, clock, hb, _⟩, _⟩ := m
  rw [hb] at hg
  cases hg
theorem VA.turned {w w' : World} {p b n : Nat} {k : TypeId} {f : Lit → Option Value} {cs : List Value} {T : TypeId} (h : VA w p cs T) (m : MapF w k b n f) (t : w.mapTurned w' b) : VA w' p cs T := by
 refine ⟨(bF t p ?_).trans h.blk⟩
 rintro rfl
 obtain ⟨D, ⟨es, clock, hb, _⟩, _⟩ := m
 have := h.blk
 rw [hb] at this
 cases this
theorem VA.notMap {w : World} {p b n : Nat} {k : TypeId} {f : Lit → Option Value} {cs : List Value} {T : TypeId} (h : VA w p cs T) (m : MapF w k b n f) : b ≠ p := by
 rintro rfl
 obtain ⟨D, ⟨es, clock, hb, _⟩, _⟩ := m
 have := h.blk
 rw [hb] at this
 cases this
theorem uG {id day id' day' : Int} (h1 : I64 id) (h2 : I64 day) (h1' : I64 id') (h2' : I64 day') (h : ¬ (id = id' ∧ day = day')) : kl id day ≠ kl id' day' := by
 intro e
 have := keyedP.inj (dB h1 h2) (e ▸ dB h1' h2')
 unfold kv at this
 injection this with this
 simp only [Array.mk.injEq, List.cons.injEq, Value.int.injEq, true_and, and_true] at this
 exact h this
def keysOf (vs : List PV) : List (Int × Int) := vs.map fun x => (x.id, x.day)
structure Cat (w : World) (p B : Nat) (S : Nat → Prop) (vs : List PV) : Prop where
 wf : ∀ x ∈ vs, x.wf
 fine : ∀ x ∈ vs, chk x = 0
 len : vs.length ≤ 64
 mem : ∃ bm sv n f, VA w p [.map (some bm), sv] 154 ∧ B ≤ p ∧ B ≤ bm ∧ MapF w 208 bm n f ∧ n ≤ vs.length ∧ OwnK w B sv (keysOf vs) ∧
  (∀ x ∈ vs, ∃ tv, f (kl x.id x.day) = some (.agg (x.cells tv).toArray) ∧ OwnT w B tv x.ts ∧ ∀ k, tv.ownBlock = some k → S k) ∧
  (∀ id day, I64 id → I64 day → (∀ x ∈ vs, ¬ (x.id = id ∧ x.day = day)) → f (kl id day) = none)
theorem Cat.step {w w' : World} {p B : Nat} {S : Nat → Prop} {vs : List PV} (h : Cat w p B S vs) (k : Below w.heap.size w w') : Cat w' p B S vs := by
 obtain ⟨h1, h2, h3, bm, sv, n, f, a1, a2, a3, a4, a5, a6, a7, a8⟩ := h
 refine ⟨h1, h2, h3, bm, sv, n, f, a1.step k, a2, a3, a4.step k, a5, a6.step k, fun x hx => ?_, a8⟩
 obtain ⟨tv, e1, e2, e3⟩ := a7 x hx
 exact ⟨tv, e1, e2.step k, e3⟩
theorem Cat.lt {w : World} {p B : Nat} {S : Nat → Prop} {vs : List PV} (h : Cat w p B S vs) : p < w.heap.size := by
 obtain ⟨h1, h2, h3, bm, sv, n, f, a1, _⟩ := h
 exact a1.lt
theorem qG (w : World) : Calls prog 50 #[] w fun e w' => (∃ p, e = .returned (.pointer (some ⟨p, 0, none⟩)) ∧ Cat w' p w.heap.size (fun _ => False) []) ∧ Below w.heap.size w w' := by
 have hmm := @run_makeMap prog
 go_enter func50, ntmps50
 go_wp2_with fail
 go_ret
 have V := aa (w.alloc (.map #[] 0)) [.map (some w.heap.size), .slice none 0 0] 154
 rw [World.size_alloc] at V
 have D := ((Below.refl w.heap.size w).alloc (Nat.le_refl _) (.map #[] 0)).alloc (by simp) (.cells #[.map (some w.heap.size), .slice none 0 0] 154)
 refine ⟨⟨_, rfl, (fun x hx => (by cases hx)), (fun x hx => (by cases hx)), by simp, w.heap.size, .slice none 0 0, 0, _, V, by omega, Nat.le_refl _, (ep w _).alloc _, Nat.le_refl _, qO _ _, (fun x hx => (by cases hx)), fun _ _ _ _ _ => rfl⟩, D⟩
end Go.Proofs.YtjkiplndbcmmbaaGreatDoor