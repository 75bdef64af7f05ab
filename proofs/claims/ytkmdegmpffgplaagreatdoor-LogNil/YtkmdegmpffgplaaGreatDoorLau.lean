/- disk XXXI: the files in plain words: names, sums, what a crash leaves. -/
import Derived.Test.YtkmdegmpffgplaaGreatDoorLat
import Derived.Test.YtkmdegmpffgplaaGreatDoorLab
namespace Go.Proofs.YtkmdegmpffgplaaGreatDoor
open Go.RowKit Go.Maps Go.Sort Go.Shelf pk
set_option linter.unusedVariables false

def nms (fs : FS) : List (List UInt8) := fs.map (·.1)
theorem lk_isSome (fs : FS) (l : List UInt8) : (lk fs l).isSome = true ↔ l ∈ nms fs := by
  unfold lk nms
  rw [List.find?_isSome]
  constructor
  · rintro ⟨t, h1, h2⟩
    exact List.mem_map.2 ⟨t, h1, by simpa using h2⟩
  · intro h
    obtain ⟨t, h1, h2⟩ := List.mem_map.1 h
    exact ⟨t, h1, by simpa using h2⟩
theorem lk_nm {fs : FS} {l : List UInt8} {t : List UInt8 × List (List Nat) × Nat} (h : lk fs l = some t) : t.1 = l ∧ t ∈ fs := by
  unfold lk at h
  exact ⟨by simpa using List.find?_some h, List.mem_of_find?_eq_some h⟩
theorem lk_none (fs : FS) (l : List UInt8) : lk fs l = none ↔ l ∉ nms fs := by
  rw [← lk_isSome]
  cases lk fs l <;> simp
/-- a change of each file's inside -/
theorem nms_map (fs : FS) (g : List UInt8 × List (List Nat) × Nat → List UInt8 × List (List Nat) × Nat) (h : ∀ t, (g t).1 = t.1) : nms (fs.map g) = nms fs := by
  unfold nms
  rw [List.map_map]
  exact List.map_congr_left (fun t _ => h t)
theorem lk_map (fs : FS) (g : List UInt8 × List (List Nat) × Nat → List UInt8 × List (List Nat) × Nat) (h : ∀ t, (g t).1 = t.1) (l : List UInt8) : lk (fs.map g) l = (lk fs l).map g := by
  unfold lk
  rw [List.find?_map]
  congr 2
  funext t
  show ((g t).1 == l) = (t.1 == l)
  rw [h]
theorem upd1_map (fs : FS) (l : List UInt8) (ss : List (List Nat)) (sy : Nat) : upd1 fs l ss sy = fs.map (fun t => if t.1 = l then (t.1, ss, sy) else t) := by
  unfold upd1
  refine List.map_congr_left (fun t _ => ?_)
  by_cases h : t.1 = l
  · rw [if_pos h, if_pos h, h]
  · rw [if_neg h, if_neg h]
theorem nms_upd1 (fs : FS) (l : List UInt8) (ss : List (List Nat)) (sy : Nat) : nms (upd1 fs l ss sy) = nms fs := by
  rw [upd1_map]
  exact nms_map _ _ (fun t => by split <;> rfl)
theorem lk_upd1 (fs : FS) (l k : List UInt8) (ss : List (List Nat)) (sy : Nat) : lk (upd1 fs l ss sy) k = (lk fs k).map (fun t => if t.1 = l then (t.1, ss, sy) else t) := by
  rw [upd1_map]
  exact lk_map _ _ (fun t => by split <;> rfl) k
theorem nms_apd (fs : FS) (l : List UInt8) (ps : List (List Nat)) : nms (apd fs l ps) = if l ∈ nms fs then nms fs else nms fs ++ [l] := by
  induction fs with
  | nil => simp [apd, nms]
  | cons t fs ih =>
    rw [apd]
    by_cases h : t.1 = l
    · rw [if_pos h]
      simp [nms, h]
    · rw [if_neg h]
      show t.1 :: nms (apd fs l ps) = _
      rw [ih]
      have e : (l ∈ nms (t :: fs)) ↔ l ∈ nms fs := by
        show l ∈ t.1 :: nms fs ↔ _
        rw [List.mem_cons]
        exact ⟨fun h2 => h2.resolve_left (fun e => h e.symm), .inr⟩
      by_cases h2 : l ∈ nms fs
      · rw [if_pos h2, if_pos (e.2 h2)]; rfl
      · rw [if_neg h2, if_neg (fun h3 => h2 (e.1 h3))]; rfl
theorem tot_apd (fs : FS) (l : List UInt8) (ps : List (List Nat)) : totA (apd fs l ps) = totA fs + ps.length := by
  induction fs with
  | nil => simp [apd, totA]
  | cons t fs ih =>
    obtain ⟨n, ss, sy⟩ := t
    rw [apd]
    split
    · simp [totA]; omega
    · simp only [totA, ih]; omega
theorem lk_apd_other (fs : FS) (l k : List UInt8) (ps : List (List Nat)) (h : k ≠ l) : lk (apd fs l ps) k = lk fs k := by
  unfold lk
  induction fs with
  | nil => rw [apd, List.find?_cons, show (l == k) = false from beq_eq_false_iff_ne.2 (fun e => h e.symm)]
  | cons t fs ih =>
    rw [apd]
    by_cases h1 : t.1 = l
    · rw [if_pos h1, List.find?_cons, List.find?_cons, show (t.1 == k) = false by rw [h1]; exact beq_eq_false_iff_ne.2 (fun e => h e.symm)]
    · rw [if_neg h1, List.find?_cons, List.find?_cons, ih]
theorem lk_apd_same (fs : FS) (l : List UInt8) (ps : List (List Nat)) : lk (apd fs l ps) l = some (match lk fs l with | none => (l, ps, 0) | some t => (t.1, t.2.1 ++ ps, t.2.2)) := by
  unfold lk
  induction fs with
  | nil => simp [apd]
  | cons t fs ih =>
    rw [apd]
    by_cases h1 : t.1 = l
    · rw [if_pos h1, List.find?_cons, List.find?_cons, show (t.1 == l) = true by simp [h1]]
    · rw [if_neg h1, List.find?_cons, List.find?_cons, show (t.1 == l) = false from beq_eq_false_iff_ne.2 h1, ih]
theorem tot_map_le (fs : FS) (g : List UInt8 × List (List Nat) × Nat → List UInt8 × List (List Nat) × Nat) (h : ∀ t, (g t).2.1.length ≤ t.2.1.length) : totA (fs.map g) ≤ totA fs := by
  induction fs with
  | nil => exact Nat.le_refl _
  | cons t fs ih =>
    have := h t
    simp only [List.map_cons, totA]
    omega
theorem sync_fs (fs : FS) (a b : List UInt8) (n : Nat) : doOp ⟨1, a, b, n⟩ fs = fs.map (fun t => if t.1 = a then (t.1, t.2.1, t.2.1.length) else t) := rfl
theorem trunc_fs (fs : FS) (a b : List UInt8) (n : Nat) : doOp ⟨2, a, b, n⟩ fs = fs.map (fun t => if t.1 = a then (t.1, t.2.1.take n, min n t.2.1.length) else t) := rfl
/-- what a crash leaves: the names -/
theorem nms_stl_aux (ks : List Bool) (ns : List (List UInt8)) : ∀ st : FS × Nat, nms (ns.foldl (stp ks) st).1 = nms st.1 := by
  induction ns with
  | nil => intro st; rfl
  | cons n ns ih =>
    intro st
    show nms (ns.foldl (stp ks) (stp ks st n)).1 = _
    rw [ih]
    unfold stp
    split
    · exact nms_upd1 _ _ _ _
    · rfl
theorem nms_stl (ks : List Bool) (ns : List (List UInt8)) (fs : FS) : nms (stl ks ns fs).1 = nms fs := nms_stl_aux ks ns (fs, 0)
/-- what a crash leaves of a file: some place of the flags is where its first sector that isn't synced stands -/
theorem lk_stl_aux (ks : List Bool) (ns : List (List UInt8)) (hnd : ns.Nodup) : ∀ (st : FS × Nat) (l : List UInt8) (t : List UInt8 × List (List Nat) × Nat), lk st.1 l = some t →
    lk (ns.foldl (stp ks) st).1 l = some t ∧ l ∉ ns ∨ l ∈ ns ∧ ∃ i, lk (ns.foldl (stp ks) st).1 l = some (l, zf ks i t.2.2 t.2.1.length t.2.1, t.2.1.length) := by
  induction ns with
  | nil => intro st l t h; exact .inl ⟨h, by simp⟩
  | cons n ns ih =>
    intro st l t h
    obtain ⟨h1, h2⟩ := List.nodup_cons.1 hnd
    show lk (ns.foldl (stp ks) (stp ks st n)).1 l = some t ∧ _ ∨ _
    by_cases hl : n = l
    · subst hl
      have hs : stp ks st n = (upd1 st.1 n (zf ks st.2 t.2.2 t.2.1.length t.2.1) t.2.1.length, st.2 + (t.2.1.length - t.2.2)) := by
        unfold stp
        unfold lk at h
        rw [h]
      have hlk : lk (stp ks st n).1 n = some (n, zf ks st.2 t.2.2 t.2.1.length t.2.1, t.2.1.length) := by
        rw [hs]
        show lk (upd1 _ _ _ _) n = _
        rw [lk_upd1, h]
        simp [(lk_nm h).1]
      rcases ih h2 (stp ks st n) n _ hlk with ⟨h3, h4⟩ | ⟨h3, _⟩
      · exact .inr ⟨List.mem_cons_self .., st.2, h3⟩
      · exact absurd h3 h1
    · have hlk : lk (stp ks st n).1 l = some t := by
        unfold stp
        split
        · rw [lk_upd1, h]
          simp only [Option.map_some, Option.some.injEq]
          rw [if_neg (by rw [(lk_nm h).1]; exact fun e => hl e.symm)]
        · exact h
      rcases ih h2 (stp ks st n) l _ hlk with ⟨h3, h4⟩ | ⟨h3, i, h4⟩
      · exact .inl ⟨h3, by simp; exact ⟨fun e => hl e.symm, h4⟩⟩
      · exact .inr ⟨List.mem_cons_of_mem _ h3, i, h4⟩
theorem lk_stl {ks : List Bool} {ns : List (List UInt8)} {fs : FS} (hp : ns.Perm (nms fs)) (hnd : (nms fs).Nodup) {l : List UInt8} {t : List UInt8 × List (List Nat) × Nat} (h : lk fs l = some t) :
    ∃ i, lk (stl ks ns fs).1 l = some (l, zf ks i t.2.2 t.2.1.length t.2.1, t.2.1.length) := by
  have hn : ns.Nodup := hp.nodup_iff.2 hnd
  have hm : l ∈ ns := hp.mem_iff.2 ((lk_isSome fs l).1 (by rw [h]; rfl))
  rcases lk_stl_aux ks ns hn (fs, 0) l t h with ⟨_, h2⟩ | ⟨_, h2⟩
  · exact absurd hm h2
  · exact h2
theorem DA.nodup {w : World} {B p m : Nat} {x : AD} (h : DA w B p m x) : (nms x.fs).Nodup := by
  obtain ⟨es, u, hD, hab, _⟩ := h
  unfold nms
  rw [← hab, ← names_ab]
  exact List.pairwise_map.2 (hD.ap.imp (fun h => h.1))
theorem oper_idle {R n : Nat} {fs : FS} {o : POp} (h1 : isNm o.a = true) (hb : o.k = 3 → isNm o.b = true) (hf : (lk fs o.a).isSome = true) : oper ⟨R, n, 0, true, none, fs⟩ o = (0, ⟨R, n + 1, 0, true, none, doOp o fs⟩) := by
  rw [oper_on h1 hb hf rfl]
  rfl
theorem apnd_idle {R n : Nat} {fs : FS} {l : List UInt8} {bs : List Nat} (h1 : isNm l = true) (hf : fitA R fs l (cnt bs.length) = true) : apnd ⟨R, n, 0, true, none, fs⟩ l bs = (0, ⟨R, n + 1, 0, true, none, apd fs l (parts bs)⟩) := by
  rw [apnd_ok h1 hf rfl]
  rfl
theorem apnd_last {R n : Nat} {fs : FS} {l : List UInt8} {bs : List Nat} (h1 : isNm l = true) (hf : fitA R fs l (cnt bs.length) = true) : apnd ⟨R, n, 1, true, none, fs⟩ l bs = (18, ⟨R, n + 1, 0, false, none, apd fs l (parts bs)⟩) := by
  rw [apnd_ok h1 hf rfl]
  rfl
theorem bl_nil (w : World) : Bl w (.slice none 0 0) [] ∧ Safe w (.slice none 0 0) := ⟨⟨none, 0, rfl, Nat.le_refl _, by omega, fun h => (by cases h)⟩, fun b off n c e => (by cases e)⟩
end Go.Proofs.YtkmdegmpffgplaaGreatDoor
/- Rows of elements, II: append of a slice where the operation is guarded. -/
namespace Go.Proofs.YtkmdegmpffgplaaGreatDoor
open Go.RowKit
set_option linter.unusedVariables false

theorem appSw {α : Type} {K : Kd α} {w : World} {ops : Array Oper} {rest : List Oper} {o : Oper} {a : Act} {Q : Exit → Act → World → Prop} (hgd : Region.wanted o (yielded ops a.tmps) = true) (s x : Operand)
    (ho : o.op = .call { callee := .builtin .append, args := #[s, x], argTypes := #[K.S, K.S] })
    (B : Nat) (xs ys : List α) (v u : Value) (hs : a.eval s = v) (hx : a.eval x = u)
    (hown : Own K w B v xs) (hu : Sl K w u ys) (hno : ∀ n c, u = .slice none n c → c = 0) (hB : B ≤ w.heap.size) (hl : (xs.length + ys.length) * K.bt ≤ 140737488355328) (hl2 : xs.length + ys.length ≤ 140737488355328)
    (h : ∀ v' w', Own K w' B v' (xs ++ ys) → Below B w w' → w.grownBy w' v.ownBlock → wpList Tryz.prog ops Q rest (a.put o.dst v') w') :
    wpList Tryz.prog ops Q (o :: rest) a w := by
  obtain ⟨ad, c, rfl, h1, h2, h4⟩ := hu
  refine wpList_step fun KK hK => ?_
  by_cases h0 : ys = []
  · subst h0
    cases ad with
    | none =>
      obtain rfl : c = 0 := hno _ _ rfl
      obtain ⟨i0, z, hi, hz0, hz1, hz2, hz3⟩ := K.info
      rw [if_pos hgd]
      have hrun := run_append_owned_none (P := Tryz.prog) (w := w) B K.S o.type K.T i0 K.k K.und hi v xs.length (K.cells xs) hown.own
      have hx' : a.eval x = .slice none 0 0 := hx
      unfold Oper.wp
      simp [execOp, ho, resolve, invoke, builtin, hs, hx', hrun, Result.andThen]
      exact hK _ _ (h v w (by simpa using hown) (Below.refl _ _) (World.grownBy.refl _ _))
    | some ad =>
      exact appK hgd s x ho B xs [] v ad c hs hx hown (fun j u hj => by simp [Kd.cells] at hj) hB hl hl2 (fun v' w' p q r => hK _ _ (h v' w' p q r))
  · have hp : 0 < ys.length := List.length_pos_iff.2 h0
    obtain ⟨b, off, rfl, hb, hcell⟩ := h4 hp
    refine appK hgd s x ho B xs ys v ⟨b, off, none⟩ c hs hx hown (fun p u hp => ?_) hB hl hl2 (fun v' w' p q r => hK _ _ (h v' w' p q r))
    obtain ⟨i, j, y, rfl, hj, hy, hu⟩ := K.cells_inv ys p u hp
    rw [Go.WideShapes.add_plain, ← Nat.add_assoc]
    exact hcell i y hy j u hu
end Go.Proofs.YtkmdegmpffgplaaGreatDoor
