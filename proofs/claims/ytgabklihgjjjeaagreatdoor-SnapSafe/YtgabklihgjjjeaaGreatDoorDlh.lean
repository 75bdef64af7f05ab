/- disk XXXIII: rows of truth values; fate. -/
import Derived.Test.YtgabklihgjjjeaaGreatDoorDlg
import Derived.Test.YtgabklihgjjjeaaGreatDoorRwb
namespace Go.Proofs.YtgabklihgjjjeaaGreatDoor
open Go.RowKit Go.Maps Go.Sort Go.Shelf pk
set_option linter.unusedVariables false
set_option linter.unusedSimpArgs false

theorem infoB : (Tryz.prog.info? 4).map (fun i => (i.zero.map (fun z => z.cells.size), i.size, i.bytes)) = some (some 1, 1, 1) := by kernel_rfl
def KB : Kd Bool where
  T := 4
  S := 34
  k := 1
  bt := 1
  enc := fun b => [.bool b]
  info := by
    obtain ⟨i, hi, hz⟩ := Option.map_eq_some_iff.1 infoB
    simp only [Prod.mk.injEq] at hz
    obtain ⟨z, hz0, hz1⟩ := Option.map_eq_some_iff.1 hz.1
    exact ⟨i, z, hi, hz0, hz.2.1, hz.2.2, hz1⟩
  und := Tryz.underlying34
  pos := by decide
  len := fun _ => rfl
  one := fun x v h => by simp at h; rw [h]; rfl
theorem Bl.sl {w : World} {v : Value} {ks : List Bool} (h : Bl w v ks) : Sl KB w v ks := by
  obtain ⟨a, c, rfl, h1, h2, h3⟩ := h
  refine ⟨a, c, rfl, h1, h2, fun h0 => ?_⟩
  obtain ⟨b, off, rfl, hx⟩ := h3 h0
  refine ⟨b, off, rfl, World.block_lt_of_cell? w _ (hx 0 h0), fun i y hy j u hu => ?_⟩
  have hi : i < ks.length := (List.getElem?_eq_some_iff.1 hy).1
  have hj : j = 0 := by
    have := (List.getElem?_eq_some_iff.1 hu).1
    have e : (KB.enc y).length = 1 := rfl
    omega
  subst hj
  have hu' : u = .bool y := by
    have : (KB.enc y)[0]? = some (.bool y) := rfl
    rw [this] at hu
    cases hu
    rfl
  rw [hu', show i * KB.k = i from Nat.mul_one i, Nat.add_zero, hx i hi]
  simp [List.getD, hy]
theorem Own.bl {w : World} {B : Nat} {v : Value} {ks : List Bool} (h : Own KB w B v ks) : Bl w v ks ∧ Safe w v := by
  obtain ⟨a, c, rfl, h1, h2⟩ := h.form
  refine ⟨⟨a, c, rfl, h1, h2, fun h0 => ?_⟩, fun b off n cc e => ?_⟩
  · have hs := h.sl
    obtain ⟨x0, hx0⟩ : ∃ x0, ks[0]? = some x0 := ⟨_, List.getElem?_eq_getElem h0⟩
    obtain ⟨b, off, rfl, hb, _⟩ := hs.at 0 x0 hx0
    refine ⟨b, off, rfl, fun i hi => ?_⟩
    obtain ⟨b', off', e, _, hc⟩ := hs.at i ks[i] (List.getElem?_eq_getElem hi)
    cases e
    have := hc 0 (.bool ks[i]) rfl
    rw [show i * KB.k = i from Nat.mul_one i, Nat.add_zero] at this
    rw [this]
    simp [List.getD, hi]
  · rcases h.own.2 with ⟨e2, _⟩ | ⟨q, cap, cur, e2, _, hq, _⟩
    · rw [e2] at e; cases e
    · rw [e2] at e
      cases e
      exact ⟨_, _, _, hq, by unfold Dt; decide⟩
theorem Sl.bl {w : World} {v : Value} {ks : List Bool} (h : Sl KB w v ks) : Bl w v ks := by
  obtain ⟨a, c, rfl, h1, h2, h3⟩ := h
  refine ⟨a, c, rfl, h1, h2, fun h0 => ?_⟩
  obtain ⟨b, off, rfl, hb, hc⟩ := h3 h0
  refine ⟨b, off, rfl, fun i hi => ?_⟩
  have := hc i ks[i] (List.getElem?_eq_getElem hi) 0 (.bool ks[i]) rfl
  rw [show i * KB.k = i from Nat.mul_one i, Nat.add_zero] at this
  rw [this]
  simp [List.getD, hi]
/-- append(l, m...) in a drawn region -/
theorem appSd {α : Type} {K : Kd α} {w : World} {y : Nat → Option Bool} {o : Oper} {a : Act} {Q : Exit → Act → World → Prop} {KK : Act → World → Prop} {k0 : Prop} (hgd : Region.wanted o y = true) (d0 : Option Tmp) (hd0 : o.dst = d0) (s x : Operand)
    (ho : o.op = .call { callee := .builtin .append, args := #[s, x], argTypes := #[K.S, K.S] })
    (B : Nat) (xs ys : List α) (v u : Value) (hs : a.eval s = v) (hx : a.eval x = u)
    (hown : Own K w B v xs) (hu : Sl K w u ys) (hno : ∀ n c, u = .slice none n c → c = 0) (hB : B ≤ w.heap.size) (hl : (xs.length + ys.length) * K.bt ≤ 140737488355328) (hl2 : xs.length + ys.length ≤ 140737488355328)
    (h : ∀ v' w', Own K w' B v' (xs ++ ys) → Below B w w' → w.grownBy w' v.ownBlock → KK (a.put d0 v') w') :
    if Region.wanted o y then o.wp Tryz.prog a w KK Q else k0 := by
  subst hd0
  obtain ⟨ad, c, rfl, h1, h2, h4⟩ := hu
  by_cases h0 : ys = []
  · subst h0
    cases ad with
    | none =>
      obtain rfl : c = 0 := hno _ _ rfl
      obtain ⟨i0, z, hi, hz0, hz1, hz2, hz3⟩ := K.info
      rw [if_pos hgd]
      have hrun := run_append_owned_none (P := Tryz.prog) (w := w) B K.S o.type K.T i0 K.k K.und hi v xs.length (K.cells xs) hown.own
      have hx' : a.eval x = .slice none 0 0 := hx
      unfold Oper.wp
      simp [execOp, ho, resolve, invoke, builtin, hs, hx', hrun, Result.andThen]
      exact h v w (by simpa using hown) (Below.refl _ _) (World.grownBy.refl _ _)
    | some ad =>
      exact appK hgd s x ho B xs [] v ad c hs hx hown (fun j u hj => by simp [Kd.cells] at hj) hB hl hl2 (fun v' w' p q r => h v' w' p q r)
  · have hp : 0 < ys.length := List.length_pos_iff.2 h0
    obtain ⟨b, off, rfl, hb, hcell⟩ := h4 hp
    refine appK hgd s x ho B xs ys v ⟨b, off, none⟩ c hs hx hown (fun p u hp => ?_) hB hl hl2 (fun v' w' p q r => h v' w' p q r)
    obtain ⟨i, j, y, rfl, hj, hy, hu⟩ := K.cells_inv ys p u hp
    rw [Go.WideShapes.add_plain, ← Nat.add_assoc]
    exact hcell i y hy j u hu
/-- all of a struct is stored, in a drawn region -/
theorem stAw {w : World} {y : Nat → Option Bool} {o : Oper} {a : Act} {Q : Exit → Act → World → Prop} {K : Act → World → Prop} {k0 : Prop} (hgd : Region.wanted o y = true) (t : TypeId) (x z : Operand) (ho : o.op = .store t x z)
    (p : Nat) (hx : a.eval x = .pointer (some ⟨p, 0, none⟩)) (cs ds : List Value) (hy : a.eval z = .agg ds.toArray) (T : TypeId) (h : VA w p cs T) (hi : (Tryz.prog.info? t).map (·.size) = some ds.length) (hl : cs.length = ds.length) (h1 : ∀ v ∈ ds, v.oneCell' = true)
    (k : ∀ w', VA w' p ds T → Upd p w w' → K (a.put o.dst undef) w') : if Region.wanted o y = true then o.wp Tryz.prog a w K Q else k0 := by
  rw [if_pos hgd]
  have hrun := run_storeVar_row (P := Tryz.prog) w p T t cs.toArray ds.toArray h.blk (by simpa using hi) (by simpa using hl) (Array.all_eq_true_iff_forall_mem.2 (fun v hv => h1 v (by simpa using hv)))
  unfold Oper.wp execOp
  simp only [ho, hx, hy, Instr.storeAt, Instr.sureAddr, Sem.run_bind, Sem.run_pure, Result.andThen_ok, hrun]
  exact k _ ⟨setRow_heap w p _ _ _ _ h.blk⟩ (upd_setRow w p _)
theorem stAn {w : World} {y : Nat → Option Bool} {o : Oper} {a : Act} {Q : Exit → Act → World → Prop} {K : Act → World → Prop} {k0 : Prop} (hgd : Region.wanted o y = true) (hd : o.dst = none) (t : TypeId) (x z : Operand) (ho : o.op = .store t x z)
    (p : Nat) (hx : a.eval x = .pointer (some ⟨p, 0, none⟩)) (cs ds : List Value) (hy : a.eval z = .agg ds.toArray) (T : TypeId) (h : VA w p cs T) (hi : (Tryz.prog.info? t).map (·.size) = some ds.length) (hl : cs.length = ds.length) (h1 : ∀ v ∈ ds, v.oneCell' = true)
    (k : ∀ w', VA w' p ds T → Upd p w w' → K a w') : if Region.wanted o y = true then o.wp Tryz.prog a w K Q else k0 := by
  refine stAw hgd t x z ho p hx cs ds hy T h hi hl h1 (fun w' v u => ?_)
  rw [hd]
  exact k w' v u
end Go.Proofs.YtgabklihgjjjeaaGreatDoor
