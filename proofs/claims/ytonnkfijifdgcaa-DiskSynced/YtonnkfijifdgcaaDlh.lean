/- disk XXXIII: rows of truth values; fate. -/
import Derived.Test.YtonnkfijifdgcaaDlg
import Derived.Test.YtonnkfijifdgcaaRwb
namespace Go.Proofs.Ytonnkfijifdgcaa
open Go.RowKit Go.Maps Go.Sort Go.Shelf pk
set_option linter.unusedVariables false
set_option linter.unusedSimpArgs false

theorem infoB : (Try.prog.info? 4).map (fun i => (i.zero.map (fun z => z.cells.size), i.size, i.bytes)) = some (some 1, 1, 1) := by kernel_rfl
def KB : Kd Bool where
  T := 4
  S := 32
  k := 1
  bt := 1
  enc := fun b => [.bool b]
  info := by
    obtain ⟨i, hi, hz⟩ := Option.map_eq_some_iff.1 infoB
    simp only [Prod.mk.injEq] at hz
    obtain ⟨z, hz0, hz1⟩ := Option.map_eq_some_iff.1 hz.1
    exact ⟨i, z, hi, hz0, hz.2.1, hz.2.2, hz1⟩
  und := Try.underlying32
  pos := by decide
  len := fun _ => rfl
  one := fun x v h => by simp at h; rw [h]; rfl
theorem Bl.sl {w : World} {v : Value} {ks : List Bool} (h : Bl w v ks) : Sl KB w v ks := by
  obtain ⟨a, c, rfl, h1, h2, h3⟩ := h
  refine ⟨a, c, rfl, h1, h2, fun h0 => ?_⟩
  obtain ⟨b, off, rfl, hx⟩ := h3 h0
  refine ⟨b, off, rfl, World.block_lt_of_cell? w _ (hx 0 h0), fun i y hy j u hu => ?_⟩
  have hi : i < ks.length := (List.getElem?_eq_some_iff.1 hy).1
  have hj : j = 0 := by
    have := (List.getElem?_eq_some_iff.1 hu).1
    have e : (KB.enc y).length = 1 := rfl
    omega
  subst hj
  have hu' : u = .bool y := by
    have : (KB.enc y)[0]? = some (.bool y) := rfl
    rw [this] at hu
    cases hu
    rfl
  rw [hu', show i * KB.k = i from Nat.mul_one i, Nat.add_zero, hx i hi]
  simp [List.getD, hy]
theorem Own.bl {w : World} {B : Nat} {v : Value} {ks : List Bool} (h : Own KB w B v ks) : Bl w v ks ∧ Safe w v := by
  obtain ⟨a, c, rfl, h1, h2⟩ := h.form
  refine ⟨⟨a, c, rfl, h1, h2, fun h0 => ?_⟩, fun b off n cc e => ?_⟩
  · have hs := h.sl
    obtain ⟨x0, hx0⟩ : ∃ x0, ks[0]? = some x0 := ⟨_, List.getElem?_eq_getElem h0⟩
    obtain ⟨b, off, rfl, hb, _⟩ := hs.at 0 x0 hx0
    refine ⟨b, off, rfl, fun i hi => ?_⟩
    obtain ⟨b', off', e, _, hc⟩ := hs.at i ks[i] (List.getElem?_eq_getElem hi)
    cases e
    have := hc 0 (.bool ks[i]) rfl
    rw [show i * KB.k = i from Nat.mul_one i, Nat.add_zero] at this
    rw [this]
    simp [List.getD, hi]
  · rcases h.own.2 with ⟨e2, _⟩ | ⟨q, cap, cur, e2, _, hq, _⟩
    · rw [e2] at e; cases e
    · rw [e2] at e
      cases e
      exact ⟨_, _, _, hq, by unfold Dt; decide⟩
theorem Sl.bl {w : World} {v : Value} {ks : List Bool} (h : Sl KB w v ks) : Bl w v ks := by
  obtain ⟨a, c, rfl, h1, h2, h3⟩ := h
  refine ⟨a, c, rfl, h1, h2, fun h0 => ?_⟩
  obtain ⟨b, off, rfl, hb, hc⟩ := h3 h0
  refine ⟨b, off, rfl, fun i hi => ?_⟩
  have := hc i ks[i] (List.getElem?_eq_getElem hi) 0 (.bool ks[i]) rfl
  rw [show i * KB.k = i from Nat.mul_one i, Nat.add_zero] at this
  rw [this]
  simp [List.getD, hi]
/-- append(l, m...) in a drawn region -/
theorem appSd {α : Type} {K : Kd α} {w : World} {y : Nat → Option Bool} {o : Oper} {a : Act} {Q : Exit → Act → World → Prop} {KK : Act → World → Prop} {k0 : Prop} (hgd : Region.wanted o y = true) (d0 : Option Tmp) (hd0 : o.dst = d0) (s x : Operand)
    (ho : o.op = .call { callee := .builtin .append, args := #[s, x], argTypes := #[K.S, K.S] })
    (B : Nat) (xs ys : List α) (v u : Value) (hs : a.eval s = v) (hx : a.eval x = u)
    (hown : Own K w B v xs) (hu : Sl K w u ys) (hno : ∀ n c, u = .slice none n c → c = 0) (hB : B ≤ w.heap.size) (hl : (xs.length + ys.length) * K.bt ≤ 140737488355328) (hl2 : xs.length + ys.length ≤ 140737488355328)
    (h : ∀ v' w', Own K w' B v' (xs ++ ys) → Below B w w' → w.grownBy w' v.ownBlock → KK (a.put d0 v') w') :
    if Region.wanted o y then o.wp Try.prog a w KK Q else k0 := by
  subst hd0
  obtain ⟨ad, c, rfl, h1, h2, h4⟩ := hu
  by_cases h0 : ys = []
  · subst h0
    cases ad with
    | none =>
      obtain rfl : c = 0 := hno _ _ rfl
      obtain ⟨i0, z, hi, hz0, hz1, hz2, hz3⟩ := K.info
      rw [if_pos hgd]
      have hrun := run_append_owned_none (P := Try.prog) (w := w) B K.S o.type K.T i0 K.k K.und hi v xs.length (K.cells xs) hown.own
      have hx' : a.eval x = .slice none 0 0 := hx
      unfold Oper.wp
      simp [execOp, ho, resolve, invoke, builtin, hs, hx', hrun, Result.andThen]
      exact h v w (by simpa using hown) (Below.refl _ _) (World.grownBy.refl _ _)
    | some ad =>
      exact appK hgd s x ho B xs [] v ad c hs hx hown (fun j u hj => by simp [Kd.cells] at hj) hB hl hl2 (fun v' w' p q r => h v' w' p q r)
  · have hp : 0 < ys.length := List.length_pos_iff.2 h0
    obtain ⟨b, off, rfl, hb, hcell⟩ := h4 hp
    refine appK hgd s x ho B xs ys v ⟨b, off, none⟩ c hs hx hown (fun p u hp => ?_) hB hl hl2 (fun v' w' p q r => h v' w' p q r)
    obtain ⟨i, j, y, rfl, hj, hy, hu⟩ := K.cells_inv ys p u hp
    rw [Go.WideShapes.add_plain, ← Nat.add_assoc]
    exact hcell i y hy j u hu
/-- all of a struct is stored, in a drawn region -/
theorem stAw {w : World} {y : Nat → Option Bool} {o : Oper} {a : Act} {Q : Exit → Act → World → Prop} {K : Act → World → Prop} {k0 : Prop} (hgd : Region.wanted o y = true) (t : TypeId) (x z : Operand) (ho : o.op = .store t x z)
    (p : Nat) (hx : a.eval x = .pointer (some ⟨p, 0, none⟩)) (cs ds : List Value) (hy : a.eval z = .agg ds.toArray) (T : TypeId) (h : VA w p cs T) (hi : (Try.prog.info? t).map (·.size) = some ds.length) (hl : cs.length = ds.length) (h1 : ∀ v ∈ ds, v.oneCell' = true)
    (k : ∀ w', VA w' p ds T → Upd p w w' → K (a.put o.dst undef) w') : if Region.wanted o y = true then o.wp Try.prog a w K Q else k0 := by
  rw [if_pos hgd]
  have hrun := run_storeVar_row (P := Try.prog) w p T t cs.toArray ds.toArray h.blk (by simpa using hi) (by simpa using hl) (Array.all_eq_true_iff_forall_mem.2 (fun v hv => h1 v (by simpa using hv)))
  unfold Oper.wp execOp
  simp only [ho, hx, hy, Instr.storeAt, Instr.sureAddr, Sem.run_bind, Sem.run_pure, Result.andThen_ok, hrun]
  exact k _ ⟨setRow_heap w p _ _ _ _ h.blk⟩ (upd_setRow w p _)
theorem stAn {w : World} {y : Nat → Option Bool} {o : Oper} {a : Act} {Q : Exit → Act → World → Prop} {K : Act → World → Prop} {k0 : Prop} (hgd : Region.wanted o y = true) (hd : o.dst = none) (t : TypeId) (x z : Operand) (ho : o.op = .store t x z)
    (p : Nat) (hx : a.eval x = .pointer (some ⟨p, 0, none⟩)) (cs ds : List Value) (hy : a.eval z = .agg ds.toArray) (T : TypeId) (h : VA w p cs T) (hi : (Try.prog.info? t).map (·.size) = some ds.length) (hl : cs.length = ds.length) (h1 : ∀ v ∈ ds, v.oneCell' = true)
    (k : ∀ w', VA w' p ds T → Upd p w w' → K a w') : if Region.wanted o y = true then o.wp Try.prog a w K Q else k0 := by
  refine stAw hgd t x z ho p hx cs ds hy T h hi hl h1 (fun w' v u => ?_)
  rw [hd]
  exact k w' v u
set_option maxRecDepth 100000 in
theorem fate_ok (w : World) (dn : Bool) (kv : Value) (ks : List Bool) (hk : Bl w kv ks) (hkl : ks.length ≤ 140737488355328) (hno : ∀ n c, kv = .slice none n c → c = 0) :
    Calls Try.prog 20 #[.agg #[.bool dn, kv]] w fun e w' => (∃ u, e = .returned (.agg #[.bool dn, u]) ∧ Bl w' u ks ∧ Safe w' u) ∧ Below w.heap.size w w' := by
  obtain ⟨ka, kc, hkv, _⟩ := hk.form
  have B1 := (Below.refl w.heap.size w).alloc (Nat.le_refl _) (.cells #[.bool dn, kv] 34)
  have V1 := va_new w [.bool dn, kv] 34
  have B2 := B1.alloc (by simp) (.cells #[.bool false, .slice none 0 0] 47)
  have V1' := V1.alloc (.cells #[.bool false, .slice none 0 0] 47)
  have V2 := va_new (w.alloc (.cells #[.bool dn, kv] 34)) [.bool false, .slice none 0 0] 47
  have HSL := (show Hid _ from hk.sl.step B2)
  have HNO : Hid (∀ n c, kv = .slice none n c → c = 0) := hno
  simp only [World.size_alloc] at V2
  clear hk V1 B1 hno
  subst hkv
  go_enter Try.func20, Try.ntmps20
  go_wp2_with fail
  generalize hW : (w.alloc (.cells #[.bool dn, .slice ka ks.length kc] 34)).alloc (.cells #[.bool false, .slice none 0 0] 47) = W at *
  have hsz : W.heap.size = w.heap.size + 2 := by rw [← hW]; simp
  clear hW
  refine wp_region_noPanic ?_
  refine wp_region_held_drew (S := fun V => VA V w.heap.size [.bool dn, .slice ka ks.length kc] 34) (by kernel_rfl) V1'.drew ?_
  intro hHeld
  have b0 : Below W.heap.size W W.drew := (Below.refl _ _).drew
  generalize W.drew = W0 at *
  refine takeD 0 3 (.pointer (some ⟨w.heap.size, 0, none⟩)) (by exact rfl) rfl (by kernel_rfl) (by kernel_rfl) (by kernel_rfl) (fun _ _ _ h => h) (Or.inl ⟨by rfl, ?_⟩) (by assumption) ?_
  · intro wq hS
    go_simp
  try simp only [Act.put, List.setIfInBounds_toArray, List.set_cons_zero, List.set_cons_succ]
  refine takeD 1 4 (.bool dn) (by exact rfl) rfl (by kernel_rfl) (by kernel_rfl) (by kernel_rfl) (fun _ _ _ h => h) (Or.inl ⟨by rfl, ?_⟩) (by assumption) ?_
  · intro wq hS
    have c := hS.cell 0 rfl
    go_simp
  try simp only [Act.put, List.setIfInBounds_toArray, List.set_cons_zero, List.set_cons_succ]
  refine takeD 3 6 (.pointer (some ⟨w.heap.size, 1, none⟩)) (by exact rfl) rfl (by kernel_rfl) (by kernel_rfl) (by kernel_rfl) (fun _ _ _ h => h) (Or.inl ⟨by rfl, ?_⟩) (by assumption) ?_
  · intro wq hS
    go_simp
  try simp only [Act.put, List.setIfInBounds_toArray, List.set_cons_zero, List.set_cons_succ]
  refine takeD 4 7 (.slice ka ks.length kc) (by exact rfl) rfl (by kernel_rfl) (by kernel_rfl) (by kernel_rfl) (fun _ _ _ h => h) (Or.inl ⟨by rfl, ?_⟩) (by assumption) ?_
  · intro wq hS
    have c := hS.cell 1 (v := .slice ka ks.length kc) rfl
    go_simp
  try simp only [Act.put, List.setIfInBounds_toArray, List.set_cons_zero, List.set_cons_succ]
  refine wpAnyH_ready (rs := [2]) (by kernel_rfl) (by simp) ?_
  refine AllReadyH.cons (by exact rfl) (fun K hK => ?_) AllReadyH.nil
  go_simp
  have b1 := (Below.refl W0.heap.size W0).alloc (Nat.le_refl _) (.cells #[] 4)
  have HO1 : Hid (Own KB (W0.alloc (.cells #[] 4)) W0.heap.size (.slice (some ⟨W0.heap.size, 0, none⟩) 0 0) []) := own_made KB W0
  have HS1 : Hid (Sl KB (W0.alloc (.cells #[] 4)) (.slice ka ks.length kc) ks) := (HSL.out.step b0).step b1
  refine hK.out _ _ (hHeld.step b1) (fun hHeld1 => ?_)
  clear hK K
  try simp only [Act.put, List.setIfInBounds_toArray, List.set_cons_zero, List.set_cons_succ]
  refine wpAnyH_ready (rs := [5]) (by kernel_rfl) (by simp) ?_
  refine AllReadyH.cons (by exact rfl) (fun K hK => ?_) AllReadyH.nil
  refine appSd (K := KB) (by rfl) (some 8) rfl _ _ rfl W0.heap.size [] ks _ _ (by rfl) (by rfl) HO1.out HS1.out HNO.out (by simp) (by show (0 + ks.length) * 1 ≤ _; omega) (by show 0 + ks.length ≤ _; omega) ?_
  intro v5 w5 o5 b5 g5
  have hw0 : w.heap.size + 2 ≤ W0.heap.size := by have := b0.size; omega
  have b15 : Below W0.heap.size W0 w5 := b1.trans b5
  have V25 : VA w5 (w.heap.size + 1) [.bool false, .slice none 0 0] 47 := (V2.step b0).step b15
  refine hK.out _ _ (hHeld.step b15) (fun hHeld5 => ?_)
  clear hK K
  rw [List.nil_append] at o5
  obtain ⟨a5, c5, hv5, _⟩ := o5.form
  subst hv5
  try simp only [Act.put, List.setIfInBounds_toArray, List.set_cons_zero, List.set_cons_succ]
  refine takeD 6 9 (.agg #[.bool dn, .slice a5 ks.length c5]) (by exact rfl) rfl (by kernel_rfl) (by kernel_rfl) (by kernel_rfl) (fun _ _ _ h => h) (Or.inl ⟨by rfl, ?_⟩) (by assumption) ?_
  · intro wq hS
    go_simp
  try simp only [Act.put, List.setIfInBounds_toArray, List.set_cons_zero, List.set_cons_succ]
  refine wpAnyH_ready (rs := [7]) (by kernel_rfl) (by simp) ?_
  refine AllReadyH.cons (by exact rfl) (fun K hK => ?_) AllReadyH.nil
  refine stAn (by rfl) rfl 47 _ _ rfl (w.heap.size + 1) (by rfl) [.bool false, .slice none 0 0] [.bool dn, .slice a5 ks.length c5] (by rfl) 47 V25 (by kernel_rfl) rfl (fun v hv => by simp at hv; rcases hv with rfl | rfl <;> rfl) ?_
  intro w7 v7 u7
  refine hK.out _ _ ⟨(u7.block _ (by omega)).trans hHeld5.blk⟩ (fun hHeld7 => ?_)
  clear hK K
  refine wpAnyH_done (by kernel_rfl) ?_ _
  refine NoPanic.normal ?_
  have hbl := o5.bl
  have hk7 : Own KB w7 W0.heap.size (.slice a5 ks.length c5) ks := o5.blk (fun g hg => u7.block g (by have := o5.block g hg; omega))
  have HFIN : Hid (Bl w7 (.slice a5 ks.length c5) ks ∧ Safe w7 (.slice a5 ks.length c5)) := hk7.bl
  have HB7 : Hid (Below w.heap.size w w7) := u7.bel (B2.trans ((b0.trans (b15.mono b0.size)).mono (by omega))) (by omega)
  have hld := run_loadVar_row (P := Try.prog) w7 (w.heap.size + 1) 47 47 _ (0, 0) _ v7.blk Try.underlying47 rfl (by kernel_rfl)
  clear hHeld hHeld1 hHeld5 hHeld7 o5 b5 g5 b15 V25 hbl hk7 b1 b0 B2 V1' V2 u7
  go_wp2_with fail
  refine bodyPost_ret (v := .agg #[.bool dn, .slice a5 ks.length c5]) (by simp [results, Try.results20, asAddr, hld]) rfl ?_
  exact ⟨⟨_, rfl, HFIN.out⟩, HB7.out⟩
end Go.Proofs.Ytonnkfijifdgcaa
