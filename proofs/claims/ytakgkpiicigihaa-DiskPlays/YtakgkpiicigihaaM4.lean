/- disk LIV: both disks in plain words: they say the same. -/
import Derived.Test.YtakgkpiicigihaaM3
namespace Go.Proofs.Ytakgkpiicigihaa
open Go.RowKit Go.Maps Go.Sort Go.Shelf pk
set_option linter.unusedVariables false
set_option linter.unusedSimpArgs false

/-- a file, as the document has it -/
def cv (t : List UInt8 × List (List Nat) × Nat) : T3 := (t.1, flat t.2.1, List.replicate t.2.2 true ++ List.replicate (t.2.1.length - t.2.2) false)
theorem cv_nm (t : List UInt8 × List (List Nat) × Nat) : (cv t).1 = t.1 := rfl
theorem cv_len {t : List UInt8 × List (List Nat) × Nat} (h : t.2.2 ≤ t.2.1.length) : (cv t).2.2.length = t.2.1.length := by
  unfold cv
  simp
  omega
theorem cv_all (l : List UInt8) (ss : List (List Nat)) : cv (l, ss, ss.length) = (l, flat ss, List.replicate ss.length true) := by
  unfold cv
  simp
/-- rising by their names -/
abbrev Srt (fs : List T3) : Prop := fs.Pairwise (fun a b => a.1 < b.1)
/-- both disks say the same -/
structure Rel (x : AD) (y : RS) : Prop where
  fnd : ∀ l, lkA y.fs l = (lk x.fs l).map cv
  srt : Srt y.fs
  room : y.room = x.room
  off : y.off = !x.on
  left : y.armed = x.left
  ops : y.ops = x.ops
  und : match x.und with | none => y.last = 0 | some o => y.last = o.k ∧ y.a = o.a ∧ y.b = o.b ∧ y.n = o.n ∧ 1 ≤ o.k ∧ o.k ≤ 4 ∧ (lk x.fs o.a).isSome = true
  z : x.on = false → x.left = 0
  on : x.on = true → x.und = none
theorem lt_irr (a : List UInt8) : ¬ a < a := List.lt_irrefl a
theorem lt_tr {a b c : List UInt8} (h : a < b) (k : b < c) : a < c := List.lt_trans h k
theorem lt_of {a b : List UInt8} (h : ¬ a < b) (hn : a ≠ b) : b < a := by
  rcases List.le_total a b with k | k
  · exact absurd (List.le_antisymm k (List.not_lt.1 h)) hn
  · exact Decidable.byContradiction fun e => hn (List.le_antisymm (List.not_lt.1 e) k)
theorem putA_lk (f : T3) (l : List UInt8) : ∀ (xs : List T3) (dn : Bool), lkA (putA f dn xs) l = if l = f.1 then (if dn then none else some f) else lkA xs l
  | [], false => by
    unfold lkA putA
    by_cases h : l = f.1
    · simp [h]
    · simp [h, show (f.1 == l) = false from beq_eq_false_iff_ne.2 (fun e => h e.symm)]
  | [], true => by
    unfold lkA putA
    simp
  | x :: xs, dn => by
    have ih := putA_lk f l xs (dn || !decide (x.1 < f.1))
    unfold lkA at ih ⊢
    rw [putA, List.find?_append, List.find?_append, ih]
    by_cases h : l = f.1
    · rw [if_pos h, if_pos h]
      by_cases hx : x.1 = f.1
      · have hn : ¬ x.1 < f.1 := by rw [hx]; exact lt_irr _
        cases dn
        · rw [if_pos ⟨rfl, hn⟩]
          simp [h]
        · rw [if_neg (by simp), if_pos hx]
          simp
      · rw [if_neg hx]
        have hxl : (x.1 == l) = false := beq_eq_false_iff_ne.2 (fun e => hx (e.trans h))
        cases dn
        · by_cases hl : x.1 < f.1
          · rw [if_neg (fun e => e.2 hl)]
            simp [hl, hxl]
          · rw [if_pos ⟨rfl, hl⟩]
            simp [h]
        · rw [if_neg (by simp)]
          simp [hxl]
    · rw [if_neg h, if_neg h]
      have hfl : (f.1 == l) = false := beq_eq_false_iff_ne.2 (fun e => h e.symm)
      have e1 : (if dn = false ∧ ¬ x.1 < f.1 then [f] else []).find? (fun t : T3 => t.1 == l) = none := by split <;> simp [hfl]
      rw [e1]
      by_cases hx : x.1 = f.1
      · rw [if_pos hx, List.find?_cons, show (x.1 == l) = false by rw [hx]; exact hfl]
        simp
      · rw [if_neg hx, List.find?_cons, List.find?_cons]
        cases hxl : (x.1 == l) <;> simp
theorem putA_mem (f : T3) : ∀ (xs : List T3) (dn : Bool) (t : T3), t ∈ putA f dn xs → t = f ∨ t ∈ xs
  | [], false, t, h => by simp [putA] at h; exact .inl h
  | [], true, t, h => by simp [putA] at h
  | x :: xs, dn, t, h => by
    rw [putA, List.mem_append, List.mem_append] at h
    rcases h with (h | h) | h
    · split at h
      · simp at h; exact .inl h
      · simp at h
    · split at h
      · simp at h
      · simp at h; exact .inr (by simp [h])
    · rcases putA_mem f xs _ t h with h | h
      · exact .inl h
      · exact .inr (List.mem_cons_of_mem _ h)
theorem putA_t (f : T3) : ∀ (xs : List T3), putA f true xs = xs.filter (fun t => decide (t.1 ≠ f.1))
  | [] => rfl
  | x :: xs => by
    rw [putA, if_neg (by simp), Bool.true_or, putA_t f xs, List.filter_cons]
    by_cases h : x.1 = f.1 <;> simp [h]
theorem putA_srt (f : T3) : ∀ (xs : List T3), Srt xs → Srt (putA f false xs)
  | [], _ => by simp [putA]
  | x :: xs, h => by
    obtain ⟨h1, h2⟩ := List.pairwise_cons.1 h
    rw [putA]
    by_cases hx : x.1 < f.1
    · rw [if_neg (fun e => e.2 hx), if_neg (fun e => lt_irr _ (e ▸ hx)), show (false || !decide (x.1 < f.1)) = false by simp [hx]]
      show List.Pairwise _ (x :: putA f false xs)
      refine List.pairwise_cons.2 ⟨fun t ht => ?_, putA_srt f xs h2⟩
      rcases putA_mem f xs false t ht with rfl | ht
      · exact hx
      · exact h1 t ht
    · rw [if_pos ⟨rfl, hx⟩, show (false || !decide (x.1 < f.1)) = true by simp [hx], putA_t]
      have h3 : Srt (xs.filter (fun t => decide (t.1 ≠ f.1))) := h2.sublist List.filter_sublist
      by_cases hn : x.1 = f.1
      · rw [if_pos hn]
        show List.Pairwise _ (f :: _)
        exact List.pairwise_cons.2 ⟨fun t ht => hn ▸ h1 t (List.mem_filter.1 ht).1, h3⟩
      · rw [if_neg hn]
        show List.Pairwise _ (f :: x :: _)
        have hlt := lt_of hx hn
        refine List.pairwise_cons.2 ⟨fun t ht => ?_, List.pairwise_cons.2 ⟨fun t ht => h1 t (List.mem_filter.1 ht).1, h3⟩⟩
        rcases List.mem_cons.1 ht with rfl | ht
        · exact hlt
        · exact lt_tr hlt (h1 t (List.mem_filter.1 ht).1)
theorem lkA_filter (fs : List T3) (a l : List UInt8) : lkA (fs.filter (fun g => decide (g.1 ≠ a))) l = if l = a then none else lkA fs l := by
  unfold lkA
  induction fs with
  | nil => simp
  | cons t fs ih =>
    rw [List.filter_cons]
    by_cases h : t.1 = a
    · simp only [h, ne_eq, not_true, decide_false, Bool.false_eq_true, if_false, ih, List.find?_cons]
      by_cases hl : l = a
      · simp [hl]
      · simp [hl, show (a == l) = false from beq_eq_false_iff_ne.2 (fun e => hl e.symm)]
    · rw [if_pos (by simpa using h), List.find?_cons, List.find?_cons, ih]
      by_cases hl : l = a
      · rw [show (t.1 == l) = false from beq_eq_false_iff_ne.2 (fun e => h (e.trans hl))]
      · simp [hl]
theorem lk_filterN (fs : FS) (a l : List UInt8) : lk (fs.filter (fun g => decide (g.1 ≠ a))) l = if l = a then none else lk fs l := by
  unfold lk
  induction fs with
  | nil => simp
  | cons t fs ih =>
    rw [List.filter_cons]
    by_cases h : t.1 = a
    · simp only [h, ne_eq, not_true, decide_false, Bool.false_eq_true, if_false, ih, List.find?_cons]
      by_cases hl : l = a
      · simp [hl]
      · simp [hl, show (a == l) = false from beq_eq_false_iff_ne.2 (fun e => hl e.symm)]
    · rw [if_pos (by simpa using h), List.find?_cons, List.find?_cons, ih]
      by_cases hl : l = a
      · rw [show (t.1 == l) = false from beq_eq_false_iff_ne.2 (fun e => h (e.trans hl))]
      · simp [hl]
theorem lkA_nm {fs : List T3} {l : List UInt8} {t : T3} (h : lkA fs l = some t) : t.1 = l ∧ t ∈ fs := by
  unfold lkA at h
  exact ⟨by simpa using List.find?_some h, List.mem_of_find?_eq_some h⟩
theorem lkA_of : ∀ {fs : List T3} {t : T3}, Srt fs → t ∈ fs → lkA fs t.1 = some t
  | x :: xs, t, h, ht => by
    obtain ⟨h1, h2⟩ := List.pairwise_cons.1 h
    unfold lkA
    rw [List.find?_cons]
    rcases List.mem_cons.1 ht with rfl | ht
    · simp
    · have hl := h1 t ht
      rw [show (x.1 == t.1) = false from beq_eq_false_iff_ne.2 (fun e => lt_irr _ (e ▸ hl))]
      exact lkA_of h2 ht
/-- the names of a list -/
theorem lk_of : ∀ {fs : FS} {t : List UInt8 × List (List Nat) × Nat}, (nms fs).Nodup → t ∈ fs → lk fs t.1 = some t
  | x :: xs, t, h, ht => by
    obtain ⟨h1, h2⟩ := List.nodup_cons.1 (show (x.1 :: nms xs).Nodup from h)
    unfold lk
    rw [List.find?_cons]
    rcases List.mem_cons.1 ht with rfl | ht
    · simp
    · rw [show (x.1 == t.1) = false from beq_eq_false_iff_ne.2 (fun e => h1 (e ▸ List.mem_map_of_mem ht))]
      exact lk_of h2 ht
theorem Srt.nodup {fs : List T3} (h : Srt fs) : fs.Nodup := List.Pairwise.imp (fun {a b} (k : a.1 < b.1) (e : a = b) => lt_irr b.1 (by rw [e] at k; exact k)) h
theorem nodup_of_nms {fs : FS} (h : (nms fs).Nodup) : fs.Nodup := List.Pairwise.imp (fun {a b} (k : a.1 ≠ b.1) (e : a = b) => k (by rw [e])) (List.pairwise_map.1 h)
theorem Rel.perm {x : AD} {y : RS} (h : Rel x y) (hn : (nms x.fs).Nodup) : y.fs.Perm (x.fs.map cv) := by
  have hn2 : (x.fs.map cv).Nodup := by
    refine List.pairwise_map.2 (List.Pairwise.imp (fun {a b} (k : a.1 ≠ b.1) (e : cv a = cv b) => k (congrArg (·.1) e)) (List.pairwise_map.1 hn))
  rw [List.perm_ext_iff_of_nodup h.srt.nodup hn2]
  intro t
  constructor
  · intro ht
    have e := h.fnd t.1
    rw [lkA_of h.srt ht] at e
    cases k : lk x.fs t.1 with
    | none => rw [k] at e; cases e
    | some u =>
      rw [k] at e
      simp only [Option.map_some, Option.some.injEq] at e
      rw [e]
      exact List.mem_map_of_mem (lk_nm k).2
  · intro ht
    obtain ⟨u, hu, rfl⟩ := List.mem_map.1 ht
    have e := h.fnd u.1
    rw [lk_of hn hu] at e
    exact (lkA_nm e).2
theorem tot_perm {a b : List T3} (h : a.Perm b) : rtotA a = rtotA b := by
  induction h with
  | nil => rfl
  | cons x _ ih => simp only [rtotA]; omega
  | swap x y l => simp only [rtotA]; omega
  | trans _ _ h1 h2 => omega
theorem tot_cv (fs : FS) (hs : ∀ t ∈ fs, t.2.2 ≤ t.2.1.length) : rtotA (fs.map cv) = totA fs := by
  induction fs with
  | nil => rfl
  | cons t fs ih =>
    obtain ⟨n, ss, sy⟩ := t
    have h1 := cv_len (hs (n, ss, sy) (by simp))
    have h2 := ih (fun u hu => hs u (by simp [hu]))
    simp only [List.map_cons, rtotA, totA]
    rw [h1, h2]
theorem Rel.tot {x : AD} {y : RS} (h : Rel x y) (hn : (nms x.fs).Nodup) (hs : ∀ t ∈ x.fs, t.2.2 ≤ t.2.1.length) : rtotA y.fs = totA x.fs := (tot_perm (h.perm hn)).trans (tot_cv _ hs)
theorem Rel.len {x : AD} {y : RS} (h : Rel x y) (hn : (nms x.fs).Nodup) : y.fs.length = x.fs.length := by
  rw [(h.perm hn).length_eq, List.length_map]
theorem Rel.beg {x : AD} {y : RS} (h : Rel x y) (fs : FS) (gs : List T3) (u : Option POp) (hl : ∀ l, lkA gs l = (lk fs l).map cv) (hs : Srt gs) (la n : Nat) (a b : List UInt8)
    (hu : match u with | none => la = 0 | some o => la = o.k ∧ a = o.a ∧ b = o.b ∧ n = o.n ∧ 1 ≤ o.k ∧ o.k ≤ 4 ∧ (lk fs o.a).isSome = true) (hv : (begA x).on = true → u = none) :
    Rel { begA x with fs := fs, und := u } { begS y with fs := gs, last := la, a := a, b := b, n := n } := by
  have e := h.left
  refine ⟨hl, hs, h.room, ?_, ?_, ?_, hu, ?_, hv⟩
  · show decide (y.armed = 1) = !decide (x.left ≠ 1)
    rw [e]; by_cases k : x.left = 1 <;> simp [k]
  · show y.armed - 1 = x.left - 1
    rw [e]
  · show y.ops + 1 = x.ops + 1
    rw [h.ops]
  · intro k
    show x.left - 1 = 0
    have : ¬ x.left ≠ 1 := by simpa [begA] using k
    omega
theorem Rel.non {x : AD} {y : RS} (h : Rel x y) {l : List UInt8} : lkA y.fs l = none ↔ lk x.fs l = none := by
  rw [h.fnd l]
  cases lk x.fs l <;> simp
theorem lk_ren (fs : FS) (a b l : List UInt8) (v : List (List Nat) × Nat) : lk (fs.filter (fun u => decide (u.1 ≠ a ∧ u.1 ≠ b)) ++ [(b, v.1, v.2)]) l = if l = b then some (b, v.1, v.2) else if l = a then none else lk fs l := by
  have e : fs.filter (fun u => decide (u.1 ≠ a ∧ u.1 ≠ b)) = (fs.filter (fun u => decide (u.1 ≠ a))).filter (fun u => decide (u.1 ≠ b)) := by
    rw [List.filter_filter]
    congr 1
    funext u
    by_cases h1 : u.1 = a <;> by_cases h2 : u.1 = b <;> simp [h1, h2]
  have h1 := lk_filterN (fs.filter (fun u => decide (u.1 ≠ a))) b l
  have h2 := lk_filterN fs a l
  unfold lk at h1 h2 ⊢
  rw [e, List.find?_append, h1, h2]
  by_cases hb : l = b
  · rw [if_pos hb, if_pos hb]
    simp [hb]
  · rw [if_neg hb, if_neg hb]
    have : (b == l) = false := beq_eq_false_iff_ne.2 (fun e => hb e.symm)
    simp [this]
/-- an operation that is done, on both sides -/
theorem car_both {fs : FS} {gs : List T3} (hl : ∀ l, lkA gs l = (lk fs l).map cv) (hs : Srt gs) (hsy : ∀ t ∈ fs, t.2.2 ≤ t.2.1.length) (o : POp) (hk : 1 ≤ o.k ∧ o.k ≤ 4) {t : List UInt8 × List (List Nat) × Nat} (ht : lk fs o.a = some t) :
    (∀ l, lkA (carA o (cv t) gs) l = (lk (doOp o fs) l).map cv) ∧ Srt (carA o (cv t) gs) := by
  have hta := (lk_nm ht).1
  have hts := hsy t (lk_nm ht).2
  have hlen := cv_len hts
  unfold carA doOp
  by_cases k1 : o.k = 1
  · rw [if_pos k1, if_pos k1]
    refine ⟨fun l => ?_, putA_srt _ _ hs⟩
    rw [putA_lk, lk_map _ _ (fun t => by split <;> rfl)]
    by_cases h : l = o.a
    · subst h
      rw [if_pos rfl, ht]
      simp only [Option.map_some, hta, if_true, Bool.false_eq_true, if_false, Option.some.injEq]
      rw [hlen, cv_all]
      rfl
    · rw [if_neg h, hl]
      cases hu : lk fs l with
      | none => rfl
      | some u =>
        have := (lk_nm hu).1
        simp only [Option.map_some]
        rw [if_neg (fun e => h (this.symm.trans e))]
  · rw [if_neg k1, if_neg k1]
    by_cases k2 : o.k = 2
    · rw [if_pos k2, if_pos k2]
      refine ⟨fun l => ?_, putA_srt _ _ hs⟩
      rw [putA_lk, lk_map _ _ (fun t => by split <;> rfl)]
      by_cases h : l = o.a
      · subst h
        rw [if_pos rfl, ht]
        simp only [Option.map_some, hta, if_true, Bool.false_eq_true, if_false, Option.some.injEq]
        rw [hlen]
        have e2 : (t.2.1.take o.n).length = min o.n t.2.1.length := List.length_take
        have := cv_all o.a (t.2.1.take o.n)
        rw [e2] at this
        rw [this, flat_take]
        show (o.a, (flat t.2.1).take _, _) = _
        have e3 : (flat t.2.1).take (32 * min o.n t.2.1.length) = (flat t.2.1).take (32 * o.n) := by
          by_cases k : o.n ≤ t.2.1.length
          · rw [Nat.min_eq_left k]
          · rw [Nat.min_eq_right (by omega), List.take_of_length_le (by rw [flat_len]; omega), List.take_of_length_le (by rw [flat_len]; omega)]
        rw [e3]
      · rw [if_neg h, hl]
        cases hu : lk fs l with
        | none => rfl
        | some u =>
          have := (lk_nm hu).1
          simp only [Option.map_some]
          rw [if_neg (fun e => h (this.symm.trans e))]
    · rw [if_neg k2, if_neg k2]
      by_cases k3 : o.k = 3
      · rw [if_pos k3, if_pos k3, ht]
        refine ⟨fun l => ?_, putA_srt _ _ (List.Pairwise.sublist List.filter_sublist hs)⟩
        show _ = (lk (fs.filter (fun u => decide (u.1 ≠ o.a ∧ u.1 ≠ o.b)) ++ [(o.b, t.2.1, t.2.2)]) l).map cv
        rw [putA_lk, lkA_filter, lk_ren, hl]
        by_cases h : l = o.b
        · rw [if_pos h, if_pos h]
          rfl
        · rw [if_neg h, if_neg h]
          by_cases h2 : l = o.a
          · rw [if_pos h2, if_pos h2]; rfl
          · rw [if_neg h2, if_neg h2]
      · rw [if_neg k3, if_neg k3]
        refine ⟨fun l => ?_, List.Pairwise.sublist List.filter_sublist hs⟩
        rw [lkA_filter, lk_filterN, hl]
        by_cases h2 : l = o.a
        · rw [if_pos h2, if_pos h2]; rfl
        · rw [if_neg h2, if_neg h2]
theorem Rel.op {x : AD} {y : RS} (h : Rel x y) (hsy : ∀ t ∈ x.fs, t.2.2 ≤ t.2.1.length) (o : POp) (hk : 1 ≤ o.k ∧ o.k ≤ 4) : (oper x o).1 = (rop o y).1 ∧ Rel (oper x o).2 (rop o y).2 := by
  unfold oper rop
  by_cases h1 : (isNm o.a && (decide (o.k ≠ 3) || isNm o.b)) = false
  · rw [if_pos h1, if_pos h1]
    exact ⟨rfl, h⟩
  · rw [if_neg h1, if_neg h1]
    have hf := h.fnd o.a
    cases ht : lk x.fs o.a with
    | none =>
      rw [ht] at hf
      rw [hf]
      exact ⟨rfl, h⟩
    | some t =>
      rw [ht] at hf
      rw [hf]
      simp only [Option.map_some, Option.isNone_some, Bool.false_eq_true, if_false]
      have hoff := h.off
      cases hon : x.on with
      | false =>
        rw [hon] at hoff
        rw [hoff]
        exact ⟨rfl, h⟩
      | true =>
        rw [hon] at hoff
        rw [hoff]
        have e := h.left
        have hl : (begS y).off = !(begA x).on := by
          show decide (y.armed = 1) = !decide (x.left ≠ 1)
          rw [e]; by_cases k : x.left = 1 <;> simp [k]
        simp only [Bool.not_true, Bool.false_eq_true, if_false, reduceCtorEq]
        have hun : y.last = 0 := by have := h.und; rw [h.on hon] at this; exact this
        by_cases hb : (begA x).on = true
        · rw [if_pos hb, if_neg (by rw [hl, hb]; simp)]
          obtain ⟨c1, c2⟩ := car_both h.fnd h.srt hsy o hk ht
          refine ⟨rfl, ?_⟩
          have hx : x.und = none := h.on hon
          exact h.beg (doOp o x.fs) (carA o (cv t) y.fs) x.und c1 c2 y.last y.n y.a y.b (by rw [hx]; exact hun) (fun _ => hx)
        · rw [if_neg hb, if_pos (by rw [hl]; simpa using hb)]
          refine ⟨rfl, ?_⟩
          exact h.beg x.fs y.fs (some o) h.fnd h.srt o.k o.n o.a o.b ⟨rfl, rfl, rfl, rfl, hk.1, hk.2, by rw [ht]; rfl⟩ (fun e => absurd e hb)
theorem Rel.app {x : AD} {y : RS} (h : Rel x y) (hn : (nms x.fs).Nodup) (hsy : ∀ t ∈ x.fs, t.2.2 ≤ t.2.1.length) (hc : x.fs.length ≤ 64) (hr : totA x.fs ≤ x.room) (l : List UInt8) (bs : List Nat) : (apnd x l bs).1 = (rapp l bs y).1 ∧ Rel (apnd x l bs).2 (rapp l bs y).2 := by
  unfold apnd rapp
  by_cases h1 : isNm l = false
  · rw [if_pos h1, if_pos h1]
    exact ⟨rfl, h⟩
  · rw [if_neg h1, if_neg h1]
    have ht := h.tot hn hsy
    have hlen := h.len hn
    have hrm := h.room
    have hno := h.non (l := l)
    have hfit : fitA x.room x.fs l (cnt bs.length) = false ↔ (cnt bs.length + rtotA y.fs > y.room ∨ (lkA y.fs l).isNone = true ∧ 64 ≤ y.fs.length) := by
      rw [ht, hlen, hrm]
      have e : (lkA y.fs l).isNone = (x.fs.find? (fun t => t.1 == l)).isNone := by
        rw [h.fnd l]
        show ((lk x.fs l).map cv).isNone = (lk x.fs l).isNone
        cases lk x.fs l <;> rfl
      rw [e]
      unfold fitA
      cases k : (x.fs.find? (fun t => t.1 == l)).isNone
      · simp; omega
      · simp; omega
    by_cases h2 : fitA x.room x.fs l (cnt bs.length) = false
    · rw [if_pos h2, if_pos (hfit.1 h2)]
      exact ⟨rfl, h⟩
    · rw [if_neg h2, if_neg (fun k => h2 (hfit.2 k))]
      have hoff := h.off
      cases hon : x.on with
      | false =>
        rw [hon] at hoff
        rw [hoff]
        exact ⟨rfl, h⟩
      | true =>
        rw [hon] at hoff
        rw [hoff]
        simp only [Bool.not_true, Bool.false_eq_true, if_false, reduceCtorEq]
        have e := h.left
        have hl : (begS y).off = !(begA x).on := by
          show decide (y.armed = 1) = !decide (x.left ≠ 1)
          rw [e]; by_cases k : x.left = 1 <;> simp [k]
        have hun : y.last = 0 := by have := h.und; rw [h.on hon] at this; exact this
        obtain ⟨u, hu⟩ : ∃ u, u = (l, ((lkA y.fs l).getD (l, [], [])).2.1 ++ pdd bs, ((lkA y.fs l).getD (l, [], [])).2.2 ++ List.replicate (cnt bs.length) false) := ⟨_, rfl⟩
        have hcv : some u = (lk (apd x.fs l (parts bs)) l).map cv := by
          rw [lk_apd_same, hu, h.fnd l]
          cases k : lk x.fs l with
          | none =>
            simp only [Option.map_some, Option.map_none, Option.getD_none, List.nil_append, Option.some.injEq]
            unfold cv
            simp [pdd_flat, parts_len]
          | some t =>
            have := (lk_nm k).1
            have h3 := hsy t (lk_nm k).2
            simp only [Option.map_some, Option.getD_some, Option.some.injEq]
            unfold cv
            simp only [this, flat_app, pdd_flat, List.length_append, parts_len, List.append_assoc, Prod.mk.injEq, true_and]
            rw [List.replicate_append_replicate]
            congr 2
            omega
        have hlk : ∀ k, lkA (putA u false y.fs) k = (lk (apd x.fs l (parts bs)) k).map cv := fun k => by
          rw [putA_lk]
          have e1 : u.1 = l := by rw [hu]
          rw [e1]
          by_cases hk : k = l
          · rw [if_pos hk, hk]
            exact hcv
          · rw [if_neg hk, lk_apd_other _ _ _ _ hk, h.fnd k]
        rw [← hu]
        show (if (begA x).on = true then 0 else 18) = (if (begS y).off = true then _ else _ : Nat × RS).1 ∧ Rel _ (if (begS y).off = true then _ else _ : Nat × RS).2
        have hx : x.und = none := h.on hon
        by_cases hb : (begA x).on = true
        · rw [if_pos hb, if_neg (by rw [hl, hb]; simp)]
          refine ⟨rfl, ?_⟩
          exact h.beg (apd x.fs l (parts bs)) (putA u false y.fs) x.und hlk (putA_srt _ _ h.srt) y.last y.n y.a y.b (by rw [hx]; exact hun) (fun _ => hx)
        · rw [if_neg hb, if_pos (by rw [hl]; simpa using hb)]
          refine ⟨rfl, ?_⟩
          exact h.beg (apd x.fs l (parts bs)) (putA u false y.fs) x.und hlk (putA_srt _ _ h.srt) 0 y.n y.a y.b (by rw [hx]) (fun _ => hx)
/-- the sector number j made noughts -/
def zer (bs : List Nat) (j : Nat) : List Nat := bs.take (32 * j) ++ List.replicate 32 0 ++ bs.drop (32 * j + 32)
/-- the first j sectors of a file settled: its bytes, and the number of the next flag -/
def zAt (ks : List Bool) (fl : List Bool) (bs : List Nat) (k : Nat) : Nat → List Nat × Nat
  | 0 => (bs, k)
  | j + 1 => if fl.getD j true then zAt ks fl bs k j else (if ks.getD (zAt ks fl bs k j).2 false then (zAt ks fl bs k j).1 else zer (zAt ks fl bs k j).1 j, (zAt ks fl bs k j).2 + 1)
/-- the first i files settled -/
def rAt (ks : List Bool) (fs : List T3) : Nat → List T3 × Nat
  | 0 => ([], 0)
  | i + 1 => ((rAt ks fs i).1 ++ [((fs.getD i ([], [], [])).1, (zAt ks (fs.getD i ([], [], [])).2.2 (fs.getD i ([], [], [])).2.1 (rAt ks fs i).2 (fs.getD i ([], [], [])).2.2.length).1, List.replicate (fs.getD i ([], [], [])).2.2.length true)],
      (zAt ks (fs.getD i ([], [], [])).2.2 (fs.getD i ([], [], [])).2.1 (rAt ks fs i).2 (fs.getD i ([], [], [])).2.2.length).2)
theorem flat_set (ss : List (List Nat)) : ∀ j, j < ss.length → flat (ss.set j []) = zer (flat ss) j := by
  induction ss with
  | nil => intro j h; simp at h
  | cons s ss ih =>
    intro j h
    cases j with
    | zero =>
      have e : flat (s :: ss) = pad32 s ++ flat ss := rfl
      unfold zer
      rw [e, List.set_cons_zero]
      show pad32 [] ++ flat ss = _
      rw [show 32 * 0 = 0 from rfl, List.take_zero, List.nil_append, Nat.zero_add, List.drop_append_of_le_length (by rw [pad32_len]; exact Nat.le_refl _), List.drop_of_length_le (by rw [pad32_len]; exact Nat.le_refl _), List.nil_append]
      congr 1
    | succ j =>
      have e : flat (s :: ss) = pad32 s ++ flat ss := rfl
      have i1 := ih j (by simpa using h)
      rw [List.set_cons_succ]
      show pad32 s ++ flat (ss.set j []) = _
      rw [i1]
      unfold zer
      have a1 : (pad32 s).take (32 * (j + 1)) = pad32 s := List.take_of_length_le (by rw [pad32_len]; omega)
      have a2 : (pad32 s).drop (32 * (j + 1) + 32) = [] := List.drop_of_length_le (by rw [pad32_len]; omega)
      rw [e, List.take_append, List.drop_append, pad32_len, a1, a2, show 32 * (j + 1) - 32 = 32 * j by omega, show 32 * (j + 1) + 32 - 32 = 32 * j + 32 by omega, List.nil_append, List.append_assoc, List.append_assoc, List.append_assoc]
theorem zf_low {ks : List Bool} {i sy j : Nat} {ss : List (List Nat)} (h : j < sy) : zf ks i sy (j + 1) ss = zf ks i sy j ss := by
  unfold zf
  refine List.ext_getElem? (fun k => ?_)
  rw [List.getElem?_mapIdx, List.getElem?_mapIdx]
  cases ss[k]? with
  | none => rfl
  | some s =>
    simp only [Option.map_some]
    rw [if_neg (by omega), if_neg (by omega)]
theorem zf_zero' (ks : List Bool) (i sy : Nat) (ss : List (List Nat)) : zf ks i sy 0 ss = ss := by
  unfold zf
  refine List.ext_getElem? (fun k => ?_)
  rw [List.getElem?_mapIdx]
  cases ss[k]? with
  | none => rfl
  | some s => simp only [Option.map_some]; rw [if_neg (by omega)]
theorem cv_flag (t : List UInt8 × List (List Nat) × Nat) (h : t.2.2 ≤ t.2.1.length) (j : Nat) (hj : j < t.2.1.length) : (cv t).2.2.getD j true = decide (j < t.2.2) := by
  show (List.replicate t.2.2 true ++ List.replicate (t.2.1.length - t.2.2) false).getD j true = _
  rw [List.getD_eq_getElem?_getD]
  by_cases k : j < t.2.2
  · rw [List.getElem?_append_left (by simpa using k), List.getElem?_replicate, if_pos k]
    simp [k]
  · rw [List.getElem?_append_right (by simp; omega), List.length_replicate, List.getElem?_replicate, if_pos (by omega)]
    simp [k]
theorem zAt_cv (ks : List Bool) (t : List UInt8 × List (List Nat) × Nat) (h : t.2.2 ≤ t.2.1.length) (k : Nat) : ∀ j, j ≤ t.2.1.length → zAt ks (cv t).2.2 (cv t).2.1 k j = (flat (zf ks k t.2.2 j t.2.1), k + (j - t.2.2))
  | 0, _ => by
    rw [zf_zero']
    show (flat t.2.1, k) = _
    congr 1
    omega
  | j + 1, hj => by
    have ih := zAt_cv ks t h k j (by omega)
    rw [zAt, ih, cv_flag t h j (by omega)]
    by_cases hl : j < t.2.2
    · rw [if_pos (by simpa using hl), zf_low hl]
      congr 1
      omega
    · rw [if_neg (by simpa using hl)]
      show ((if ks.getD (k + (j - t.2.2)) false = true then _ else _), _) = _
      cases hk : ks.getD (k + (j - t.2.2)) false
      · rw [if_neg (by simp), zf_zero (by omega) hk, flat_set _ _ (by rw [zf_len]; omega)]
        congr 1
        omega
      · rw [if_pos rfl, zf_keep (by omega) hk]
        congr 1
        omega
theorem rAt_nm (ks : List Bool) (fs : List T3) : ∀ i, i ≤ fs.length → (rAt ks fs i).1.map (·.1) = (fs.map (·.1)).take i
  | 0, _ => rfl
  | i + 1, h => by
    have ih := rAt_nm ks fs i (by omega)
    rw [rAt, List.map_append, ih, List.take_add_one]
    congr 1
    rw [List.getElem?_map, List.getElem?_eq_getElem (by omega), List.getD_eq_getElem?_getD, List.getElem?_eq_getElem (by omega)]
    rfl
theorem rAt_len (ks : List Bool) (fs : List T3) (i : Nat) (h : i ≤ fs.length) : (rAt ks fs i).1.length = i := by
  have := congrArg List.length (rAt_nm ks fs i h)
  simpa [Nat.min_eq_left h] using this
theorem srt_nms {fs : List T3} : Srt fs ↔ (fs.map (·.1)).Pairwise (fun a b => a < b) := List.pairwise_map.symm
theorem lkA_mid (A D : List T3) (x x' : T3) (hx : x'.1 = x.1) (hA : ∀ t ∈ A, t.1 ≠ x.1) (l : List UInt8) : lkA (A ++ x' :: D) l = if l = x.1 then some x' else lkA (A ++ x :: D) l := by
  unfold lkA
  rw [List.find?_append, List.find?_append, List.find?_cons, List.find?_cons, hx]
  by_cases h : l = x.1
  · rw [if_pos h]
    have e : A.find? (fun t => t.1 == l) = none := by
      rw [List.find?_eq_none]
      intro t ht
      simpa [h] using hA t ht
    rw [e]
    simp [h]
  · rw [if_neg h, show (x.1 == l) = false from beq_eq_false_iff_ne.2 (fun e => h e.symm)]
theorem stl_both (ks : List Bool) {fs : FS} {gs : List T3} (hl : ∀ l, lkA gs l = (lk fs l).map cv) (hs : Srt gs) (hsy : ∀ t ∈ fs, t.2.2 ≤ t.2.1.length) : ∀ i, i ≤ gs.length →
    (((gs.map (·.1)).take i).foldl (stp ks) (fs, 0)).2 = (rAt ks gs i).2 ∧ (∀ l, lkA ((rAt ks gs i).1 ++ gs.drop i) l = (lk (((gs.map (·.1)).take i).foldl (stp ks) (fs, 0)).1 l).map cv) ∧ ∀ t ∈ (((gs.map (·.1)).take i).foldl (stp ks) (fs, 0)).1, t.2.2 ≤ t.2.1.length
  | 0, _ => ⟨rfl, hl, hsy⟩
  | i + 1, h => by
    obtain ⟨h1, h2, h3⟩ := stl_both ks hl hs hsy i (by omega)
    have hg : gs[i]? = some gs[i] := List.getElem?_eq_getElem (by omega)
    obtain ⟨g, hgi⟩ : ∃ g, g = gs[i] := ⟨_, rfl⟩
    rw [← hgi] at hg
    have hD : gs.drop i = g :: gs.drop (i + 1) := by rw [hgi]; exact List.drop_eq_getElem_cons (by omega)
    have hgd : gs.getD i ([], [], []) = g := by rw [List.getD_eq_getElem?_getD, hg]; rfl
    have hA : ∀ t ∈ (rAt ks gs i).1, t.1 ≠ g.1 := by
      intro t ht e
      have h4 : t.1 ∈ (gs.map (·.1)).take i := by rw [← rAt_nm ks gs i (by omega)]; exact List.mem_map_of_mem ht
      obtain ⟨j, hj, hje⟩ := List.getElem_of_mem h4
      rw [List.length_take, List.length_map] at hj
      rw [List.getElem_take, List.getElem_map] at hje
      have := (List.pairwise_iff_getElem.1 hs) j i (by omega) (by omega) (by omega)
      rw [← hgi] at this
      exact lt_irr g.1 (by rw [hje, e] at this; exact this)
    have hlg := h2 g.1
    rw [hD] at hlg
    have hmid : lkA ((rAt ks gs i).1 ++ g :: gs.drop (i + 1)) g.1 = some g := by
      have := lkA_mid (rAt ks gs i).1 (gs.drop (i + 1)) g g rfl hA g.1
      rwa [if_pos rfl] at this
    rw [hmid] at hlg
    rw [List.take_add_one, List.getElem?_map, hg, Option.map_some, Option.toList_some, List.foldl_append]
    generalize hst : ((gs.map (·.1)).take i).foldl (stp ks) (fs, 0) = st at h1 h2 h3 hlg
    show (stp ks st g.1).2 = _ ∧ (∀ l, _ = (lk (stp ks st g.1).1 l).map cv) ∧ ∀ t ∈ (stp ks st g.1).1, _
    cases hu : lk st.1 g.1 with
    | none => rw [hu] at hlg; cases hlg
    | some u =>
      rw [hu] at hlg
      simp only [Option.map_some, Option.some.injEq] at hlg
      have hun := (lk_nm hu).1
      have hu2 : st.1.find? (fun t => t.1 == g.1) = some u := hu
      have husy : u.2.2 ≤ u.2.1.length := h3 u (lk_nm hu).2
      have hz := zAt_cv ks u husy st.2 u.2.1.length (Nat.le_refl _)
      rw [rAt, hgd, ← h1]
      have hgl : g.2.2.length = u.2.1.length := by rw [hlg]; exact cv_len husy
      rw [hgl]
      have hz2 : zAt ks g.2.2 g.2.1 st.2 u.2.1.length = (flat (zf ks st.2 u.2.2 u.2.1.length u.2.1), st.2 + (u.2.1.length - u.2.2)) := by rw [hlg]; exact hz
      rw [hz2]
      unfold stp
      rw [hu2]
      refine ⟨rfl, fun l => ?_, fun t ht => ?_⟩
      rotate_left
      · obtain ⟨v, hv, rfl⟩ := List.mem_map.1 (show t ∈ st.1.map _ from ht)
        split
        · show u.2.1.length ≤ (zf _ _ _ _ _).length
          rw [zf_len]
          exact Nat.le_refl _
        · exact h3 v hv
      show lkA ((rAt ks gs i).1 ++ [_] ++ gs.drop (i + 1)) l = (lk (upd1 st.1 g.1 _ _) l).map cv
      rw [List.append_assoc]
      show lkA ((rAt ks gs i).1 ++ (g.1, _, _) :: gs.drop (i + 1)) l = _
      rw [lkA_mid (rAt ks gs i).1 (gs.drop (i + 1)) g (g.1, flat (zf ks st.2 u.2.2 u.2.1.length u.2.1), List.replicate u.2.1.length true) rfl hA l, lk_upd1, ← hD, h2 l]
      by_cases hlg2 : l = g.1
      · rw [if_pos hlg2, hlg2, hu]
        simp only [Option.map_some, hun, if_true, Option.some.injEq]
        have := cv_all g.1 (zf ks st.2 u.2.2 u.2.1.length u.2.1)
        rw [zf_len] at this
        exact this.symm
      · rw [if_neg hlg2]
        cases hl2 : lk st.1 l with
        | none => rfl
        | some v =>
          have := (lk_nm hl2).1
          simp only [Option.map_some]
          rw [if_neg (fun e => hlg2 (this.symm.trans e))]
/-- what was left undone is done, or not -/
def rund (y : RS) (dn : Bool) : List T3 := if dn = true ∧ y.last ≠ 0 then (match lkA y.fs y.a with | none => y.fs | some t => carA ⟨y.last, y.a, y.b, y.n⟩ t y.fs) else y.fs
/-- what Restart leaves -/
def rres (y : RS) (dn : Bool) (ks : List Bool) : RS := { y with off := false, armed := 0, last := 0, fs := (rAt ks (rund y dn) (rund y dn).length).1 }
theorem und_both {x : AD} {y : RS} (h : Rel x y) (hsy : ∀ t ∈ x.fs, t.2.2 ≤ t.2.1.length) (dn : Bool) : (∀ l, lkA (rund y dn) l = (lk (doUnd x dn) l).map cv) ∧ Srt (rund y dn) := by
  unfold rund doUnd
  cases dn with
  | false =>
    rw [if_neg (by simp), if_neg (by simp)]
    exact ⟨h.fnd, h.srt⟩
  | true =>
    have hu := h.und
    cases hx : x.und with
    | none =>
      rw [hx] at hu
      rw [if_neg (fun e => e.2 hu), if_pos rfl]
      exact ⟨h.fnd, h.srt⟩
    | some o =>
      rw [hx] at hu
      obtain ⟨h1, h2, h3, h4, h5, h6, h7⟩ := hu
      rw [if_pos ⟨rfl, by omega⟩, if_pos rfl, h1, h2, h3, h4]
      cases ht : lk x.fs o.a with
      | none => rw [ht] at h7; cases h7
      | some t =>
        have hf := h.fnd o.a
        rw [ht] at hf
        rw [hf]
        exact car_both h.fnd h.srt hsy o ⟨h5, h6⟩ ht
theorem sy_map {fs : FS} (g : List UInt8 × List (List Nat) × Nat → List UInt8 × List (List Nat) × Nat) (h : ∀ t ∈ fs, (g t).2.2 ≤ (g t).2.1.length) : ∀ t ∈ fs.map g, t.2.2 ≤ t.2.1.length := by
  intro t ht
  obtain ⟨u, hu, rfl⟩ := List.mem_map.1 ht
  exact h u hu
theorem doOp_sy {fs : FS} (hsy : ∀ t ∈ fs, t.2.2 ≤ t.2.1.length) (o : POp) : ∀ t ∈ doOp o fs, t.2.2 ≤ t.2.1.length := by
  unfold doOp
  split
  · refine sy_map _ (fun t ht => ?_)
    split
    · exact Nat.le_refl _
    · exact hsy t ht
  · split
    · refine sy_map _ (fun t ht => ?_)
      split
      · show min o.n t.2.1.length ≤ (t.2.1.take o.n).length
        rw [List.length_take]
        exact Nat.le_refl _
      · exact hsy t ht
    · split
      · cases hl : lk fs o.a with
        | none => exact hsy
        | some u =>
          intro t ht
          rcases List.mem_append.1 ht with ht | ht
          · exact hsy t (List.mem_filter.1 ht).1
          · simp at ht
            subst ht
            exact hsy u (lk_nm hl).2
      · intro t ht
        exact hsy t (List.mem_filter.1 ht).1
theorem doUnd_sy {x : AD} (hsy : ∀ t ∈ x.fs, t.2.2 ≤ t.2.1.length) (dn : Bool) : ∀ t ∈ doUnd x dn, t.2.2 ≤ t.2.1.length := by
  unfold doUnd
  split
  · split
    · exact hsy
    · exact doOp_sy hsy _
  · exact hsy
/-- the names in their order -/
theorem names_eq {fs : FS} {gs : List T3} (hl : ∀ l, lkA gs l = (lk fs l).map cv) (hs : Srt gs) (hn : (nms fs).Nodup) {ns : List (List UInt8)} (hp : ns.Perm (nms fs)) (ho : ns.Pairwise (fun a b => a ≤ b)) : ns = gs.map (·.1) := by
  have h1 : (gs.map (·.1)).Pairwise (fun a b => a ≤ b) := List.Pairwise.imp (fun h => List.le_of_lt h) (srt_nms.1 hs)
  refine List.Perm.eq_of_pairwise (le := fun a b => a ≤ b) (fun a b _ _ h k => List.le_antisymm h k) ho h1 (hp.trans ?_)
  have hn2 : (gs.map (·.1)).Nodup := List.Pairwise.imp (fun {a b} (h : a < b) (e : a = b) => lt_irr b (by rw [e] at h; exact h)) (srt_nms.1 hs)
  rw [List.perm_ext_iff_of_nodup hn hn2]
  intro l
  rw [← lk_isSome]
  constructor
  · intro h
    have e := hl l
    cases k : lk fs l with
    | none => rw [k] at h; cases h
    | some u =>
      rw [k] at e
      obtain ⟨e1, e2⟩ := lkA_nm e
      exact List.mem_map.2 ⟨_, e2, e1⟩
  · intro h
    obtain ⟨t, ht, rfl⟩ := List.mem_map.1 h
    have e := hl t.1
    rw [lkA_of hs ht] at e
    cases k : lk fs t.1 with
    | none => rw [k] at e; cases e
    | some u => rfl
theorem Rel.rest {x : AD} {y : RS} (h : Rel x y) (hsy : ∀ t ∈ x.fs, t.2.2 ≤ t.2.1.length) (hoff : x.on = false) (dn : Bool) (ks : List Bool) (ns : List (List UInt8)) (hn : (nms (doUnd x dn)).Nodup) (hp : ns.Perm ((doUnd x dn).map (·.1))) (ho : ns.Pairwise (fun a b => a ≤ b)) :
    Rel { x with on := true, und := none, fs := (stl ks ns (doUnd x dn)).1 } (rres y dn ks) := by
  obtain ⟨c1, c2⟩ := und_both h hsy dn
  have e := names_eq c1 c2 hn hp ho
  obtain ⟨s1, s2, s3⟩ := stl_both ks c1 c2 (doUnd_sy hsy dn) (rund y dn).length (Nat.le_refl _)
  have e1 : ((rund y dn).map (·.1)).take (rund y dn).length = ns := by rw [e]; exact List.take_of_length_le (by simp)
  rw [e1, List.drop_of_length_le (Nat.le_refl _), List.append_nil] at s2
  refine ⟨s2, ?_, h.room, rfl, (h.z hoff).symm, h.ops, rfl, (fun k => (by cases k)), fun _ => rfl⟩
  show Srt (rAt ks (rund y dn) (rund y dn).length).1
  rw [srt_nms, rAt_nm _ _ _ (Nat.le_refl _), List.take_of_length_le (by simp)]
  exact srt_nms.1 c2
/-- what Read and Size say -/
def rseen (y : RS) (l : List UInt8) : Nat × List Nat × Nat :=
  if isNm l = false then (1, [], 0) else match lkA y.fs l with
  | none => (7, [], 0)
  | some t => if y.off then (18, [], 0) else (0, t.2.1, t.2.2.length)
theorem Rel.see {x : AD} {y : RS} (h : Rel x y) (hsy : ∀ t ∈ x.fs, t.2.2 ≤ t.2.1.length) (l : List UInt8) : rseen y l = ((seen x l).1, flat (seen x l).2, (seen x l).2.length) := by
  unfold rseen seen
  by_cases h1 : isNm l = false
  · rw [if_pos h1, if_pos h1]
    rfl
  · rw [if_neg h1, if_neg h1, h.fnd l]
    cases ht : lk x.fs l with
    | none => rfl
    | some t =>
      simp only [Option.map_some]
      rw [h.off]
      cases hon : x.on with
      | false => rfl
      | true =>
        show (0, (cv t).2.1, (cv t).2.2.length) = _
        rw [cv_len (hsy t (lk_nm ht).2)]
        rfl
theorem Rel.arm {x : AD} {y : RS} (h : Rel x y) (hon : x.on = true) (n : Nat) : Rel { x with left := n } { y with armed := n } :=
  ⟨h.fnd, h.srt, h.room, h.off, rfl, h.ops, h.und, (fun k => (by rw [hon] at k; cases k)), h.on⟩
theorem Rel.new (n : Nat) : Rel ⟨n, 0, 0, true, none, []⟩ ⟨[], n, false, 0, 0, 0, [], [], 0⟩ := ⟨fun _ => rfl, List.Pairwise.nil, rfl, rfl, rfl, rfl, rfl, (fun k => (by cases k)), fun _ => rfl⟩
end Go.Proofs.Ytakgkpiicigihaa
/- disk LVI: nil disks on both sides; numbers below nought. -/
namespace Go.Proofs.Ytakgkpiicigihaa
open Go.RowKit Go.Maps Go.Sort Go.Shelf pk
set_option linter.unusedVariables false
set_option linter.unusedSimpArgs false

theorem bel_al {w w' : World} (h : Below w.heap.size w w') (o : Obj) : Below w.heap.size w (w'.alloc o) := h.alloc h.size o
set_option maxRecDepth 100000 in
theorem find_nil (w : World) (s : ByteArray) (hs : s.size ≤ 9223372036854775807) (hn : isNm s.data.toList = true) :
    Calls Try.prog 45 #[.pointer none, .string s] w fun r w' => r = .returned (.tuple #[.pointer none, .int .i64 7]) ∧ w' = w := by
  go_enter Try.func45, Try.ntmps45
  go_wp2_with (go_at_call 41; refine (isName_ok s _ hs).mono ?_; rintro e wi ⟨rfl, rfl⟩; rw [hn])
  refine bodyPost_ret (v := .tuple #[.pointer none, .int .i64 7]) (by simp [results, Try.results45, go_sem]) rfl ?_
  exact ⟨rfl, rfl⟩
set_option maxRecDepth 100000 in
theorem sync_nilB (w : World) (s : ByteArray) (hs : s.size ≤ 9223372036854775807) (hn : isNm s.data.toList = false) :
    Calls Try.prog 16 #[.pointer none, .string s] w fun r w' => r = .returned (.int .i64 1) ∧ Below w.heap.size w w' := by
  go_enter Try.func16, Try.ntmps16
  go_wp2_with (go_at_call 45; refine (find_bad' _ _ s hs hn).mono ?_; rintro e wi ⟨rfl, rfl⟩)
  go_ret
  refine ⟨rfl, ?_⟩
  repeat (first | exact Below.refl _ _ | refine bel_al ?_ _)
set_option maxRecDepth 100000 in
theorem sync_nil (w : World) (s : ByteArray) (hs : s.size ≤ 9223372036854775807) (hn : isNm s.data.toList = true) :
    Calls Try.prog 16 #[.pointer none, .string s] w fun r w' => r = .returned (.int .i64 7) ∧ Below w.heap.size w w' := by
  go_enter Try.func16, Try.ntmps16
  go_wp2_with (go_at_call 45; refine (find_nil _ s hs hn).mono ?_; rintro e wi ⟨rfl, rfl⟩)
  go_ret
  refine ⟨rfl, ?_⟩
  repeat (first | exact Below.refl _ _ | refine bel_al ?_ _)
set_option maxRecDepth 100000 in
theorem rem_nilB (w : World) (s : ByteArray) (hs : s.size ≤ 9223372036854775807) (hn : isNm s.data.toList = false) :
    Calls Try.prog 34 #[.pointer none, .string s] w fun r w' => r = .returned (.int .i64 1) ∧ Below w.heap.size w w' := by
  go_enter Try.func34, Try.ntmps34
  go_wp2_with (go_at_call 45; refine (find_bad' _ _ s hs hn).mono ?_; rintro e wi ⟨rfl, rfl⟩)
  go_ret
  refine ⟨rfl, ?_⟩
  repeat (first | exact Below.refl _ _ | refine bel_al ?_ _)
set_option maxRecDepth 100000 in
theorem rem_nil (w : World) (s : ByteArray) (hs : s.size ≤ 9223372036854775807) (hn : isNm s.data.toList = true) :
    Calls Try.prog 34 #[.pointer none, .string s] w fun r w' => r = .returned (.int .i64 7) ∧ Below w.heap.size w w' := by
  go_enter Try.func34, Try.ntmps34
  go_wp2_with (go_at_call 45; refine (find_nil _ s hs hn).mono ?_; rintro e wi ⟨rfl, rfl⟩)
  go_ret
  refine ⟨rfl, ?_⟩
  repeat (first | exact Below.refl _ _ | refine bel_al ?_ _)
set_option maxRecDepth 100000 in
theorem trunc_negv (w : World) (v : Value) (s : ByteArray) (n : Int) (hn : n < 0) (hn2 : -9223372036854775808 ≤ n) :
    Calls Try.prog 24 #[v, .string s, .int .i64 n] w fun r w' => r = .returned (.int .i64 1) ∧ Below w.heap.size w w' := by
  go_enter Try.func24, Try.ntmps24
  go_wp2_with fail
  go_ret
  refine ⟨rfl, ?_⟩
  repeat (first | exact Below.refl _ _ | refine bel_al ?_ _)
set_option maxRecDepth 100000 in
theorem trunc_nilB (w : World) (s : ByteArray) (hs : s.size ≤ 9223372036854775807) (n : Int) (h0 : 0 ≤ n) (hn : isNm s.data.toList = false) :
    Calls Try.prog 24 #[.pointer none, .string s, .int .i64 n] w fun r w' => r = .returned (.int .i64 1) ∧ Below w.heap.size w w' := by
  go_enter Try.func24, Try.ntmps24
  go_wp2_with (go_at_call 45; refine (find_bad' _ _ s hs hn).mono ?_; rintro e wi ⟨rfl, rfl⟩)
  go_ret
  refine ⟨rfl, ?_⟩
  repeat (first | exact Below.refl _ _ | refine bel_al ?_ _)
set_option maxRecDepth 100000 in
theorem trunc_nil (w : World) (s : ByteArray) (hs : s.size ≤ 9223372036854775807) (n : Int) (h0 : 0 ≤ n) (hn : isNm s.data.toList = true) :
    Calls Try.prog 24 #[.pointer none, .string s, .int .i64 n] w fun r w' => r = .returned (.int .i64 7) ∧ Below w.heap.size w w' := by
  go_enter Try.func24, Try.ntmps24
  go_wp2_with (go_at_call 45; refine (find_nil _ s hs hn).mono ?_; rintro e wi ⟨rfl, rfl⟩)
  go_ret
  refine ⟨rfl, ?_⟩
  repeat (first | exact Below.refl _ _ | refine bel_al ?_ _)
set_option maxRecDepth 100000 in
theorem ren_nilU (w : World) (s : ByteArray) (hs : s.size ≤ 9223372036854775807) (u : ByteArray) (hu : u.size ≤ 9223372036854775807) (hn : isNm u.data.toList = false) :
    Calls Try.prog 22 #[.pointer none, .string s, .string u] w fun r w' => r = .returned (.int .i64 1) ∧ Below w.heap.size w w' := by
  go_enter Try.func22, Try.ntmps22
  go_wp2_with (go_at_call 41; refine (isName_ok u _ hu).mono ?_; rintro e wi ⟨rfl, rfl⟩; rw [hn])
  go_ret
  refine ⟨rfl, ?_⟩
  repeat (first | exact Below.refl _ _ | refine bel_al ?_ _)
set_option maxRecDepth 100000 in
theorem ren_nilB (w : World) (s : ByteArray) (hs : s.size ≤ 9223372036854775807) (u : ByteArray) (hu : u.size ≤ 9223372036854775807) (hk : isNm u.data.toList = true) (hn : isNm s.data.toList = false) :
    Calls Try.prog 22 #[.pointer none, .string s, .string u] w fun r w' => r = .returned (.int .i64 1) ∧ Below w.heap.size w w' := by
  go_enter Try.func22, Try.ntmps22
  go_wp2_with (first | (go_at_call 41; refine (isName_ok u _ hu).mono ?_; rintro e wi ⟨rfl, rfl⟩; rw [hk]) | (go_at_call 45; refine (find_bad' _ _ s hs hn).mono ?_; rintro e wi ⟨rfl, rfl⟩))
  go_ret
  refine ⟨rfl, ?_⟩
  repeat (first | exact Below.refl _ _ | refine bel_al ?_ _)
set_option maxRecDepth 100000 in
theorem ren_nil (w : World) (s : ByteArray) (hs : s.size ≤ 9223372036854775807) (u : ByteArray) (hu : u.size ≤ 9223372036854775807) (hk : isNm u.data.toList = true) (hn : isNm s.data.toList = true) :
    Calls Try.prog 22 #[.pointer none, .string s, .string u] w fun r w' => r = .returned (.int .i64 7) ∧ Below w.heap.size w w' := by
  go_enter Try.func22, Try.ntmps22
  go_wp2_with (first | (go_at_call 41; refine (isName_ok u _ hu).mono ?_; rintro e wi ⟨rfl, rfl⟩; rw [hk]) | (go_at_call 45; refine (find_nil _ s hs hn).mono ?_; rintro e wi ⟨rfl, rfl⟩))
  go_ret
  refine ⟨rfl, ?_⟩
  repeat (first | exact Below.refl _ _ | refine bel_al ?_ _)
set_option maxRecDepth 100000 in
theorem append_nilB (w : World) (s : ByteArray) (hs : s.size ≤ 9223372036854775807) (v : Value) (hn : isNm s.data.toList = false) :
    Calls Try.prog 14 #[.pointer none, .string s, v] w fun r w' => r = .returned (.int .i64 1) ∧ Below w.heap.size w w' := by
  go_enter Try.func14, Try.ntmps14
  go_wp2_with (go_at_call 41; refine (isName_ok s _ hs).mono ?_; rintro e wi ⟨rfl, rfl⟩; rw [hn])
  go_ret
  refine ⟨rfl, ?_⟩
  repeat (first | exact Below.refl _ _ | refine bel_al ?_ _)
set_option maxRecDepth 100000 in
theorem append_nil (w : World) (s : ByteArray) (hs : s.size ≤ 9223372036854775807) (v : Value) (hn : isNm s.data.toList = true) :
    Calls Try.prog 14 #[.pointer none, .string s, v] w fun r w' => r = .returned (.int .i64 7) ∧ Below w.heap.size w w' := by
  go_enter Try.func14, Try.ntmps14
  go_wp2_with (go_at_call 41; refine (isName_ok s _ hs).mono ?_; rintro e wi ⟨rfl, rfl⟩; rw [hn])
  go_ret
  refine ⟨rfl, ?_⟩
  repeat (first | exact Below.refl _ _ | refine bel_al ?_ _)
set_option maxRecDepth 100000 in
theorem arm_negv (w : World) (v : Value) (n : Int) (hn : n < 0) (hn2 : -9223372036854775808 ≤ n) :
    Calls Try.prog 18 #[v, .int .i64 n] w fun r w' => r = .returned (.int .i64 1) ∧ Below w.heap.size w w' := by
  go_enter Try.func18, Try.ntmps18
  go_wp2_with fail
  go_ret
  refine ⟨rfl, ?_⟩
  repeat (first | exact Below.refl _ _ | refine bel_al ?_ _)
set_option maxRecDepth 100000 in
theorem arm_nil (w : World) (n : Int) (hn : 0 ≤ n) :
    Calls Try.prog 18 #[.pointer none, .int .i64 n] w fun r w' => r = .returned (.int .i64 7) ∧ Below w.heap.size w w' := by
  go_enter Try.func18, Try.ntmps18
  go_wp2_with fail
  go_ret
  refine ⟨rfl, ?_⟩
  repeat (first | exact Below.refl _ _ | refine bel_al ?_ _)
set_option maxRecDepth 100000 in
theorem restart_nil (w : World) (dn : Bool) (a : Option Addr) (n c : Nat) :
    Calls Try.prog 19 #[.pointer none, .agg #[.bool dn, .slice a n c]] w fun r w' => r = .returned (.int .i64 7) ∧ Below w.heap.size w w' := by
  go_enter Try.func19, Try.ntmps19
  go_wp2_with fail
  go_ret
  refine ⟨rfl, ?_⟩
  repeat (first | exact Below.refl _ _ | refine bel_al ?_ _)
set_option maxRecDepth 100000 in
theorem read_nilB (w : World) (s : ByteArray) (hs : s.size ≤ 9223372036854775807) (hn : isNm s.data.toList = false) :
    Calls Try.prog 17 #[.pointer none, .string s] w fun r w' => r = .returned (.tuple #[.slice none 0 0, .int .i64 1]) ∧ Below w.heap.size w w' := by
  go_enter Try.func17, Try.ntmps17
  go_wp2_with (go_at_call 45; refine (find_bad' _ _ s hs hn).mono ?_; rintro e wi ⟨rfl, rfl⟩)
  refine bodyPost_ret (v := .tuple #[.slice none 0 0, .int .i64 1]) (by simp [results, Try.results17, go_sem]) rfl ?_
  refine ⟨rfl, ?_⟩
  repeat (first | exact Below.refl _ _ | refine bel_al ?_ _)
set_option maxRecDepth 100000 in
theorem read_nil (w : World) (s : ByteArray) (hs : s.size ≤ 9223372036854775807) (hn : isNm s.data.toList = true) :
    Calls Try.prog 17 #[.pointer none, .string s] w fun r w' => r = .returned (.tuple #[.slice none 0 0, .int .i64 7]) ∧ Below w.heap.size w w' := by
  go_enter Try.func17, Try.ntmps17
  go_wp2_with (go_at_call 45; refine (find_nil _ s hs hn).mono ?_; rintro e wi ⟨rfl, rfl⟩)
  refine bodyPost_ret (v := .tuple #[.slice none 0 0, .int .i64 7]) (by simp [results, Try.results17, go_sem]) rfl ?_
  refine ⟨rfl, ?_⟩
  repeat (first | exact Below.refl _ _ | refine bel_al ?_ _)
set_option maxRecDepth 100000 in
theorem size_nilB (w : World) (s : ByteArray) (hs : s.size ≤ 9223372036854775807) (hn : isNm s.data.toList = false) :
    Calls Try.prog 23 #[.pointer none, .string s] w fun r w' => r = .returned (.tuple #[.int .i64 0, .int .i64 1]) ∧ Below w.heap.size w w' := by
  go_enter Try.func23, Try.ntmps23
  go_wp2_with (go_at_call 45; refine (find_bad' _ _ s hs hn).mono ?_; rintro e wi ⟨rfl, rfl⟩)
  refine bodyPost_ret (v := .tuple #[.int .i64 0, .int .i64 1]) (by simp [results, Try.results23, go_sem]) rfl ?_
  refine ⟨rfl, ?_⟩
  repeat (first | exact Below.refl _ _ | refine bel_al ?_ _)
set_option maxRecDepth 100000 in
theorem size_nil (w : World) (s : ByteArray) (hs : s.size ≤ 9223372036854775807) (hn : isNm s.data.toList = true) :
    Calls Try.prog 23 #[.pointer none, .string s] w fun r w' => r = .returned (.tuple #[.int .i64 0, .int .i64 7]) ∧ Below w.heap.size w w' := by
  go_enter Try.func23, Try.ntmps23
  go_wp2_with (go_at_call 45; refine (find_nil _ s hs hn).mono ?_; rintro e wi ⟨rfl, rfl⟩)
  refine bodyPost_ret (v := .tuple #[.int .i64 0, .int .i64 7]) (by simp [results, Try.results23, go_sem]) rfl ?_
  refine ⟨rfl, ?_⟩
  repeat (first | exact Below.refl _ _ | refine bel_al ?_ _)
set_option maxRecDepth 100000 in
theorem on_nil (w : World)  :
    Calls Try.prog 26 #[.pointer none] w fun r w' => r = .returned (.bool false) ∧ Below w.heap.size w w' := by
  go_enter Try.func26, Try.ntmps26
  go_wp2_with fail
  go_ret
  refine ⟨rfl, ?_⟩
  repeat (first | exact Below.refl _ _ | refine bel_al ?_ _)
set_option maxRecDepth 100000 in
theorem ops_nil (w : World)  :
    Calls Try.prog 25 #[.pointer none] w fun r w' => r = .returned (.int .i64 0) ∧ Below w.heap.size w w' := by
  go_enter Try.func25, Try.ntmps25
  go_wp2_with fail
  go_ret
  refine ⟨rfl, ?_⟩
  repeat (first | exact Below.refl _ _ | refine bel_al ?_ _)
set_option maxRecDepth 100000 in
theorem names_nil (w : World) :
    Calls Try.prog 27 #[.pointer none] w fun r w' => r = .returned (.slice none 0 0) ∧ Below w.heap.size w w' := by
  go_enter Try.func27, Try.ntmps27
  go_wp2_with (go_at_call 26; refine (on_nil _).mono ?_; rintro e wi ⟨rfl, bi⟩)
  go_ret
  exact ⟨rfl, bi⟩
set_option maxRecDepth 100000 in
theorem new_badA (w : World) (n : Int) (h : n < 1) :
    Calls Try.prog 10 #[.int .i64 n] w fun r w' => r = .returned (.tuple #[.pointer none, .int .i64 1]) ∧ Below w.heap.size w w' := by
  go_enter Try.func10, Try.ntmps10
  go_wp2_with fail
  refine bodyPost_ret (v := .tuple #[.pointer none, .int .i64 1]) (by simp [results, Try.results10, go_sem]) rfl ?_
  refine ⟨rfl, ?_⟩
  repeat (first | exact Below.refl _ _ | refine bel_al ?_ _)
set_option maxRecDepth 100000 in
theorem new_badB (w : World) (n : Int) (h : 65536 < n) :
    Calls Try.prog 10 #[.int .i64 n] w fun r w' => r = .returned (.tuple #[.pointer none, .int .i64 1]) ∧ Below w.heap.size w w' := by
  go_enter Try.func10, Try.ntmps10
  go_wp2_with fail
  refine bodyPost_ret (v := .tuple #[.pointer none, .int .i64 1]) (by simp [results, Try.results10, go_sem]) rfl ?_
  refine ⟨rfl, ?_⟩
  repeat (first | exact Below.refl _ _ | refine bel_al ?_ _)
set_option maxRecDepth 100000 in
theorem rnew_badA (w : World) (n : Int) (h : n < 1) :
    Calls Try.prog 11 #[.int .i64 n] w fun r w' => r = .returned (.tuple #[.pointer none, .int .i64 1]) ∧ Below w.heap.size w w' := by
  go_enter Try.func11, Try.ntmps11
  go_wp2_with fail
  refine bodyPost_ret (v := .tuple #[.pointer none, .int .i64 1]) (by simp [results, Try.results11, go_sem]) rfl ?_
  refine ⟨rfl, ?_⟩
  repeat (first | exact Below.refl _ _ | refine bel_al ?_ _)
set_option maxRecDepth 100000 in
theorem rnew_badB (w : World) (n : Int) (h : 65536 < n) :
    Calls Try.prog 11 #[.int .i64 n] w fun r w' => r = .returned (.tuple #[.pointer none, .int .i64 1]) ∧ Below w.heap.size w w' := by
  go_enter Try.func11, Try.ntmps11
  go_wp2_with fail
  refine bodyPost_ret (v := .tuple #[.pointer none, .int .i64 1]) (by simp [results, Try.results11, go_sem]) rfl ?_
  refine ⟨rfl, ?_⟩
  repeat (first | exact Below.refl _ _ | refine bel_al ?_ _)
set_option maxRecDepth 100000 in
theorem roper_sync_nilB (w : World) (s : ByteArray) (hs : s.size ≤ 9223372036854775807) (u : ByteArray) (hn : isNm s.data.toList = false) :
    Calls Try.prog 60 #[.pointer none, .int .i64 1, .string s, .string u, .int .i64 0] w fun r w' => r = .returned (.int .i64 1) ∧ Below w.heap.size w w' := by
  go_enter Try.func60, Try.ntmps60
  go_wp2_with (go_at_call 55; refine (rname_ok s _ hs).mono ?_; rintro e wi ⟨rfl, bi⟩; rw [hn])
  go_ret
  exact ⟨rfl, bi⟩
set_option maxRecDepth 100000 in
theorem rsync_nilB (w : World) (s : ByteArray) (hs : s.size ≤ 9223372036854775807) (hn : isNm s.data.toList = false) :
    Calls Try.prog 31 #[.pointer none, .string s] w fun r w' => r = .returned (.int .i64 1) ∧ Below w.heap.size w w' := by
  go_enter Try.func31, Try.ntmps31
  go_wp2_with (go_at_call 60; refine (roper_sync_nilB _ s hs _ hn).mono ?_; rintro e wi ⟨rfl, bi⟩)
  go_ret
  exact ⟨rfl, bi⟩
set_option maxRecDepth 100000 in
theorem roper_sync_nil (w : World) (s : ByteArray) (hs : s.size ≤ 9223372036854775807) (u : ByteArray) (hn : isNm s.data.toList = true) :
    Calls Try.prog 60 #[.pointer none, .int .i64 1, .string s, .string u, .int .i64 0] w fun r w' => r = .returned (.int .i64 7) ∧ Below w.heap.size w w' := by
  go_enter Try.func60, Try.ntmps60
  go_wp2_with (go_at_call 55; refine (rname_ok s _ hs).mono ?_; rintro e wi ⟨rfl, bi⟩; rw [hn])
  go_ret
  exact ⟨rfl, bi⟩
set_option maxRecDepth 100000 in
theorem rsync_nil (w : World) (s : ByteArray) (hs : s.size ≤ 9223372036854775807) (hn : isNm s.data.toList = true) :
    Calls Try.prog 31 #[.pointer none, .string s] w fun r w' => r = .returned (.int .i64 7) ∧ Below w.heap.size w w' := by
  go_enter Try.func31, Try.ntmps31
  go_wp2_with (go_at_call 60; refine (roper_sync_nil _ s hs _ hn).mono ?_; rintro e wi ⟨rfl, bi⟩)
  go_ret
  exact ⟨rfl, bi⟩
set_option maxRecDepth 100000 in
theorem roper_rem_nilB (w : World) (s : ByteArray) (hs : s.size ≤ 9223372036854775807) (u : ByteArray) (hn : isNm s.data.toList = false) :
    Calls Try.prog 60 #[.pointer none, .int .i64 4, .string s, .string u, .int .i64 0] w fun r w' => r = .returned (.int .i64 1) ∧ Below w.heap.size w w' := by
  go_enter Try.func60, Try.ntmps60
  go_wp2_with (go_at_call 55; refine (rname_ok s _ hs).mono ?_; rintro e wi ⟨rfl, bi⟩; rw [hn])
  go_ret
  exact ⟨rfl, bi⟩
set_option maxRecDepth 100000 in
theorem rrem_nilB (w : World) (s : ByteArray) (hs : s.size ≤ 9223372036854775807) (hn : isNm s.data.toList = false) :
    Calls Try.prog 35 #[.pointer none, .string s] w fun r w' => r = .returned (.int .i64 1) ∧ Below w.heap.size w w' := by
  go_enter Try.func35, Try.ntmps35
  go_wp2_with (go_at_call 60; refine (roper_rem_nilB _ s hs _ hn).mono ?_; rintro e wi ⟨rfl, bi⟩)
  go_ret
  exact ⟨rfl, bi⟩
set_option maxRecDepth 100000 in
theorem roper_rem_nil (w : World) (s : ByteArray) (hs : s.size ≤ 9223372036854775807) (u : ByteArray) (hn : isNm s.data.toList = true) :
    Calls Try.prog 60 #[.pointer none, .int .i64 4, .string s, .string u, .int .i64 0] w fun r w' => r = .returned (.int .i64 7) ∧ Below w.heap.size w w' := by
  go_enter Try.func60, Try.ntmps60
  go_wp2_with (go_at_call 55; refine (rname_ok s _ hs).mono ?_; rintro e wi ⟨rfl, bi⟩; rw [hn])
  go_ret
  exact ⟨rfl, bi⟩
set_option maxRecDepth 100000 in
theorem rrem_nil (w : World) (s : ByteArray) (hs : s.size ≤ 9223372036854775807) (hn : isNm s.data.toList = true) :
    Calls Try.prog 35 #[.pointer none, .string s] w fun r w' => r = .returned (.int .i64 7) ∧ Below w.heap.size w w' := by
  go_enter Try.func35, Try.ntmps35
  go_wp2_with (go_at_call 60; refine (roper_rem_nil _ s hs _ hn).mono ?_; rintro e wi ⟨rfl, bi⟩)
  go_ret
  exact ⟨rfl, bi⟩
set_option maxRecDepth 100000 in
theorem roper_neg (w : World) (v : Value) (s : ByteArray) (hs : s.size ≤ 9223372036854775807) (u : ByteArray) (n : Int) (h0 : n < 0) (h1 : -9223372036854775808 ≤ n) :
    Calls Try.prog 60 #[v, .int .i64 2, .string s, .string u, .int .i64 n] w fun r w' => r = .returned (.int .i64 1) ∧ Below w.heap.size w w' := by
  cases hn : isNm s.data.toList with
  | false =>
    go_enter Try.func60, Try.ntmps60
    go_wp2_with (go_at_call 55; refine (rname_ok s _ hs).mono ?_; rintro e wi ⟨rfl, bi⟩; rw [hn])
    go_ret
    exact ⟨rfl, bi⟩
  | true =>
    go_enter Try.func60, Try.ntmps60
    go_wp2_with (go_at_call 55; refine (rname_ok s _ hs).mono ?_; rintro e wi ⟨rfl, bi⟩; rw [hn])
    go_ret
    exact ⟨rfl, bi⟩
set_option maxRecDepth 100000 in
theorem rtrunc_negv (w : World) (v : Value) (s : ByteArray) (hs : s.size ≤ 9223372036854775807) (n : Int) (h0 : n < 0) (h1 : -9223372036854775808 ≤ n) :
    Calls Try.prog 32 #[v, .string s, .int .i64 n] w fun r w' => r = .returned (.int .i64 1) ∧ Below w.heap.size w w' := by
  go_enter Try.func32, Try.ntmps32
  go_wp2_with (go_at_call 60; refine (roper_neg _ _ s hs _ n h0 h1).mono ?_; rintro e wi ⟨rfl, bi⟩)
  go_ret
  exact ⟨rfl, bi⟩
set_option maxRecDepth 100000 in
theorem roper_trunc_nilB (w : World) (s : ByteArray) (hs : s.size ≤ 9223372036854775807) (u : ByteArray) (n : Int) (h0 : 0 ≤ n) (hn : isNm s.data.toList = false) :
    Calls Try.prog 60 #[.pointer none, .int .i64 2, .string s, .string u, .int .i64 n] w fun r w' => r = .returned (.int .i64 1) ∧ Below w.heap.size w w' := by
  go_enter Try.func60, Try.ntmps60
  go_wp2_with (go_at_call 55; refine (rname_ok s _ hs).mono ?_; rintro e wi ⟨rfl, bi⟩; rw [hn])
  go_ret
  exact ⟨rfl, bi⟩
set_option maxRecDepth 100000 in
theorem rtrunc_nilB (w : World) (s : ByteArray) (hs : s.size ≤ 9223372036854775807) (n : Int) (h0 : 0 ≤ n) (hn : isNm s.data.toList = false) :
    Calls Try.prog 32 #[.pointer none, .string s, .int .i64 n] w fun r w' => r = .returned (.int .i64 1) ∧ Below w.heap.size w w' := by
  go_enter Try.func32, Try.ntmps32
  go_wp2_with (go_at_call 60; refine (roper_trunc_nilB _ s hs _ n h0 hn).mono ?_; rintro e wi ⟨rfl, bi⟩)
  go_ret
  exact ⟨rfl, bi⟩
set_option maxRecDepth 100000 in
theorem roper_trunc_nil (w : World) (s : ByteArray) (hs : s.size ≤ 9223372036854775807) (u : ByteArray) (n : Int) (h0 : 0 ≤ n) (hn : isNm s.data.toList = true) :
    Calls Try.prog 60 #[.pointer none, .int .i64 2, .string s, .string u, .int .i64 n] w fun r w' => r = .returned (.int .i64 7) ∧ Below w.heap.size w w' := by
  go_enter Try.func60, Try.ntmps60
  go_wp2_with (go_at_call 55; refine (rname_ok s _ hs).mono ?_; rintro e wi ⟨rfl, bi⟩; rw [hn])
  go_ret
  exact ⟨rfl, bi⟩
set_option maxRecDepth 100000 in
theorem rtrunc_nil (w : World) (s : ByteArray) (hs : s.size ≤ 9223372036854775807) (n : Int) (h0 : 0 ≤ n) (hn : isNm s.data.toList = true) :
    Calls Try.prog 32 #[.pointer none, .string s, .int .i64 n] w fun r w' => r = .returned (.int .i64 7) ∧ Below w.heap.size w w' := by
  go_enter Try.func32, Try.ntmps32
  go_wp2_with (go_at_call 60; refine (roper_trunc_nil _ s hs _ n h0 hn).mono ?_; rintro e wi ⟨rfl, bi⟩)
  go_ret
  exact ⟨rfl, bi⟩
set_option maxRecDepth 100000 in
theorem roper_ren_nilB (w : World) (s : ByteArray) (hs : s.size ≤ 9223372036854775807) (u : ByteArray) (hu : u.size ≤ 9223372036854775807) (hn : isNm s.data.toList = false) :
    Calls Try.prog 60 #[.pointer none, .int .i64 3, .string s, .string u, .int .i64 0] w fun r w' => r = .returned (.int .i64 1) ∧ Below w.heap.size w w' := by
  go_enter Try.func60, Try.ntmps60
  go_wp2_with (go_at_call 55; refine (rname_ok s _ hs).mono ?_; rintro e wi ⟨rfl, bi⟩; rw [hn])
  go_ret
  exact ⟨rfl, bi⟩
set_option maxRecDepth 100000 in
theorem rren_nilB (w : World) (s : ByteArray) (hs : s.size ≤ 9223372036854775807) (u : ByteArray) (hu : u.size ≤ 9223372036854775807) (hn : isNm s.data.toList = false) :
    Calls Try.prog 33 #[.pointer none, .string s, .string u] w fun r w' => r = .returned (.int .i64 1) ∧ Below w.heap.size w w' := by
  go_enter Try.func33, Try.ntmps33
  go_wp2_with (go_at_call 60; refine (roper_ren_nilB _ s hs u hu hn).mono ?_; rintro e wi ⟨rfl, bi⟩)
  go_ret
  exact ⟨rfl, bi⟩
set_option maxRecDepth 100000 in
theorem roper_ren_nilU (w : World) (s : ByteArray) (hs : s.size ≤ 9223372036854775807) (u : ByteArray) (hu : u.size ≤ 9223372036854775807) (hn : isNm s.data.toList = true) (hk : isNm u.data.toList = false) :
    Calls Try.prog 60 #[.pointer none, .int .i64 3, .string s, .string u, .int .i64 0] w fun r w' => r = .returned (.int .i64 1) ∧ Below w.heap.size w w' := by
  go_enter Try.func60, Try.ntmps60
  go_wp2_with fail
  refine (rname_ok s _ hs).mono ?_
  rintro e wa ⟨rfl, ba⟩
  rw [hn]
  go_wp2_with fail
  refine (rname_ok u _ hu).mono ?_
  rintro e wb ⟨rfl, bb⟩
  rw [hk]
  go_wp2_with fail
  go_ret
  exact ⟨rfl, ba.trans (bb.mono ba.size)⟩
set_option maxRecDepth 100000 in
theorem rren_nilU (w : World) (s : ByteArray) (hs : s.size ≤ 9223372036854775807) (u : ByteArray) (hu : u.size ≤ 9223372036854775807) (hn : isNm s.data.toList = true) (hk : isNm u.data.toList = false) :
    Calls Try.prog 33 #[.pointer none, .string s, .string u] w fun r w' => r = .returned (.int .i64 1) ∧ Below w.heap.size w w' := by
  go_enter Try.func33, Try.ntmps33
  go_wp2_with (go_at_call 60; refine (roper_ren_nilU _ s hs u hu hn hk).mono ?_; rintro e wi ⟨rfl, bi⟩)
  go_ret
  exact ⟨rfl, bi⟩
set_option maxRecDepth 100000 in
theorem roper_ren_nil (w : World) (s : ByteArray) (hs : s.size ≤ 9223372036854775807) (u : ByteArray) (hu : u.size ≤ 9223372036854775807) (hn : isNm s.data.toList = true) (hk : isNm u.data.toList = true) :
    Calls Try.prog 60 #[.pointer none, .int .i64 3, .string s, .string u, .int .i64 0] w fun r w' => r = .returned (.int .i64 7) ∧ Below w.heap.size w w' := by
  go_enter Try.func60, Try.ntmps60
  go_wp2_with fail
  refine (rname_ok s _ hs).mono ?_
  rintro e wa ⟨rfl, ba⟩
  rw [hn]
  go_wp2_with fail
  refine (rname_ok u _ hu).mono ?_
  rintro e wb ⟨rfl, bb⟩
  rw [hk]
  go_wp2_with fail
  go_ret
  exact ⟨rfl, ba.trans (bb.mono ba.size)⟩
set_option maxRecDepth 100000 in
theorem rren_nil (w : World) (s : ByteArray) (hs : s.size ≤ 9223372036854775807) (u : ByteArray) (hu : u.size ≤ 9223372036854775807) (hn : isNm s.data.toList = true) (hk : isNm u.data.toList = true) :
    Calls Try.prog 33 #[.pointer none, .string s, .string u] w fun r w' => r = .returned (.int .i64 7) ∧ Below w.heap.size w w' := by
  go_enter Try.func33, Try.ntmps33
  go_wp2_with (go_at_call 60; refine (roper_ren_nil _ s hs u hu hn hk).mono ?_; rintro e wi ⟨rfl, bi⟩)
  go_ret
  exact ⟨rfl, bi⟩
set_option maxRecDepth 100000 in
theorem rappend_nilB (w : World) (s : ByteArray) (hs : s.size ≤ 9223372036854775807) (v : Value) (hn : isNm s.data.toList = false) :
    Calls Try.prog 30 #[.pointer none, .string s, v] w fun r w' => r = .returned (.int .i64 1) ∧ Below w.heap.size w w' := by
  go_enter Try.func30, Try.ntmps30
  go_wp2_with (go_at_call 55; refine (rname_ok s _ hs).mono ?_; rintro e wi ⟨rfl, bi⟩; rw [hn])
  go_ret
  exact ⟨rfl, bi⟩
set_option maxRecDepth 100000 in
theorem rread_nilB (w : World) (s : ByteArray) (hs : s.size ≤ 9223372036854775807) (hn : isNm s.data.toList = false) :
    Calls Try.prog 38 #[.pointer none, .string s] w fun r w' => r = .returned (.tuple #[.slice none 0 0, .int .i64 0, .int .i64 1]) ∧ Below w.heap.size w w' := by
  go_enter Try.func38, Try.ntmps38
  go_wp2_with (go_at_call 55; refine (rname_ok s _ hs).mono ?_; rintro e wi ⟨rfl, bi⟩; rw [hn])
  refine bodyPost_ret (v := .tuple #[.slice none 0 0, .int .i64 0, .int .i64 1]) (by simp [results, Try.results38, go_sem]) rfl ?_
  exact ⟨rfl, bi⟩
set_option maxRecDepth 100000 in
theorem rappend_nil (w : World) (s : ByteArray) (hs : s.size ≤ 9223372036854775807) (v : Value) (hn : isNm s.data.toList = true) :
    Calls Try.prog 30 #[.pointer none, .string s, v] w fun r w' => r = .returned (.int .i64 7) ∧ Below w.heap.size w w' := by
  go_enter Try.func30, Try.ntmps30
  go_wp2_with (go_at_call 55; refine (rname_ok s _ hs).mono ?_; rintro e wi ⟨rfl, bi⟩; rw [hn])
  go_ret
  exact ⟨rfl, bi⟩
set_option maxRecDepth 100000 in
theorem rread_nil (w : World) (s : ByteArray) (hs : s.size ≤ 9223372036854775807) (hn : isNm s.data.toList = true) :
    Calls Try.prog 38 #[.pointer none, .string s] w fun r w' => r = .returned (.tuple #[.slice none 0 0, .int .i64 0, .int .i64 7]) ∧ Below w.heap.size w w' := by
  go_enter Try.func38, Try.ntmps38
  go_wp2_with (go_at_call 55; refine (rname_ok s _ hs).mono ?_; rintro e wi ⟨rfl, bi⟩; rw [hn])
  refine bodyPost_ret (v := .tuple #[.slice none 0 0, .int .i64 0, .int .i64 7]) (by simp [results, Try.results38, go_sem]) rfl ?_
  exact ⟨rfl, bi⟩
set_option maxRecDepth 100000 in
theorem rarm_nil (w : World) (n : Int) (hn : 0 ≤ n) :
    Calls Try.prog 36 #[.pointer none, .int .i64 n] w fun r w' => r = .returned (.int .i64 7) ∧ Below w.heap.size w w' := by
  go_enter Try.func36, Try.ntmps36
  go_wp2_with fail
  go_ret
  refine ⟨rfl, ?_⟩
  repeat (first | exact Below.refl _ _ | refine bel_al ?_ _)
set_option maxRecDepth 100000 in
theorem rrestart_nil (w : World) (dn : Bool) (a : Option Addr) (n c : Nat) :
    Calls Try.prog 37 #[.pointer none, .agg #[.bool dn, .slice a n c]] w fun r w' => r = .returned (.int .i64 7) ∧ Below w.heap.size w w' := by
  go_enter Try.func37, Try.ntmps37
  go_wp2_with fail
  go_ret
  refine ⟨rfl, ?_⟩
  repeat (first | exact Below.refl _ _ | refine bel_al ?_ _)
set_option maxRecDepth 100000 in
theorem rnames_nil (w : World)  :
    Calls Try.prog 40 #[.pointer none] w fun r w' => r = .returned (.slice none 0 0) ∧ Below w.heap.size w w' := by
  go_enter Try.func40, Try.ntmps40
  go_wp2_with fail
  go_ret
  refine ⟨rfl, ?_⟩
  repeat (first | exact Below.refl _ _ | refine bel_al ?_ _)
end Go.Proofs.Ytakgkpiicigihaa
/- disk LVII: for the document's Restart: carry whatever is left, one cell of a row of files, bytes of the call's own. -/
namespace Go.Proofs.Ytakgkpiicigihaa
open Go.RowKit Go.Maps Go.Sort Go.Shelf pk
set_option linter.unusedVariables false
set_option linter.unusedSimpArgs false

/-- carry, whatever was left undone -/
theorem carry_any (w : World) (B q : Nat) (fv : Value) (y : RK) (h : RD w B q fv y) (o : POp) (hk : 1 ≤ o.k ∧ o.k ≤ 4) (hn : o.k = 2 → o.n ≤ 9223372036854775807) (hu : o.k = 3 → o.b.length ≤ 16) (t : T3) (ht : lkA (ra y.fs) o.a = some t) :
    Calls Try.prog 62 #[ptr q, .int .i64 (o.k : Int), .string ⟨o.a.toArray⟩, .string ⟨o.b.toArray⟩, .int .i64 (o.n : Int)] w fun r w' => (∃ v, r = .returned v) ∧ ∃ fs', ra fs' = carA o t (ra y.fs) ∧ RLp w w' B q { y with fs := fs' } := by
  obtain ⟨k, a, b, n⟩ := o
  simp only at hk hn hu ht ⊢
  cases hi : rix y.fs a with
  | none => rw [lkA_none hi] at ht; cases ht
  | some i =>
    obtain ⟨x, hx, hxn, hxl⟩ := lkA_some hi
    rw [hxl] at ht
    obtain rfl := (Option.some.inj ht).symm
    have hi2 : rix y.fs (⟨a.toArray⟩ : ByteArray).data.toList = some i := hi
    rcases (show k = 1 ∨ k = 2 ∨ k = 3 ∨ k = 4 by omega) with rfl | rfl | rfl | rfl
    · refine (car_sync w B q fv y h ⟨a.toArray⟩ ⟨b.toArray⟩ (n : Int) i hi2 x hx).mono ?_
      rintro r w' ⟨h1, f', h2, h3, h4, h5⟩
      refine ⟨h1, _, ?_, h5⟩
      rw [ra_put, h2, h3, h4]
      unfold carA
      rfl
    · refine (car_trunc w B q fv y h ⟨a.toArray⟩ ⟨b.toArray⟩ n (hn rfl) i hi2 x hx).mono ?_
      rintro r w' ⟨h1, f', h2, h3, h4, h5⟩
      refine ⟨h1, _, ?_, h5⟩
      rw [ra_put, h2, h3, h4]
      unfold carA
      rfl
    · refine (car_ren w B q fv y h ⟨a.toArray⟩ ⟨b.toArray⟩ (by show b.length ≤ 16; exact hu rfl) (n : Int) i hi2 x hx).mono ?_
      rintro r w' ⟨h1, h5⟩
      refine ⟨h1, _, ?_, h5⟩
      rw [ra_put]
      unfold carA
      have e : ra (y.fs.filter (fun g => decide (g.nm ≠ a))) = (ra y.fs).filter (fun t => decide (t.1 ≠ a)) := ra_filter y.fs (fun l => decide (l ≠ a))
      show putA (b, x.bs, x.ks) false (ra (y.fs.filter (fun g => decide (g.nm ≠ a)))) = _
      rw [e]
      rfl
    · refine (car_rem w B q fv y h ⟨a.toArray⟩ ⟨b.toArray⟩ (n : Int) i hi2 x hx).mono ?_
      rintro r w' ⟨h1, h5⟩
      refine ⟨h1, _, ?_, h5⟩
      unfold carA
      have e : ra (y.fs.filter (fun g => decide (g.nm ≠ a))) = (ra y.fs).filter (fun t => decide (t.1 ≠ a)) := ra_filter y.fs (fun l => decide (l ≠ a))
      show ra (y.fs.filter (fun g => decide (g.nm ≠ a))) = _
      rw [e]
      rfl
theorem kd_cells_set {α : Type} (K : Kd α) (xs : List α) : ∀ (i : Nat) (hi : i < xs.length) (j : Nat) (f' : α) (v : Value), j < K.k → K.enc f' = (K.enc xs[i]).set j v → K.cells (xs.set i f') = (K.cells xs).set (i * K.k + j) v := by
  induction xs with
  | nil => intro i hi; simp at hi
  | cons x xs ih =>
    intro i hi j f' v hj he
    cases i with
    | zero =>
      show K.cells (f' :: xs) = _
      unfold Kd.cells
      rw [List.flatMap_cons, List.flatMap_cons, Nat.zero_mul, Nat.zero_add, List.set_append_left _ _ (by rw [K.len]; exact hj)]
      congr 1
    | succ i =>
      have i1 := ih i (by simpa using hi) j f' v hj he
      unfold Kd.cells at i1 ⊢
      rw [List.set_cons_succ, List.flatMap_cons, List.flatMap_cons, i1, List.set_append_right _ _ (by rw [K.len, Nat.add_mul]; omega), K.len]
      congr 2
      rw [Nat.add_mul]
      omega
/-- one cell of one element of a row is stored -/
theorem Own.setc {α : Type} {K : Kd α} {w : World} {B g n cap : Nat} {xs : List α} (h : Own K w B (.slice (some ⟨g, 0, none⟩) n cap) xs) (i : Nat) (hi : i < xs.length) (j : Nat) (hj : j < K.k) (f' : α) (v : Value) (he : K.enc f' = (K.enc xs[i]).set j v) :
    Own K (w.setCell ⟨g, i * K.k + j, none⟩ v) B (.slice (some ⟨g, 0, none⟩) n cap) (xs.set i f') := by
  have hn : n = xs.length := by
    rcases h.own.2 with ⟨e, _⟩ | ⟨g', cap', cur, e, _⟩ <;> cases e
    rfl
  subst hn
  have := (World.ownsRow.stored h.own (i * K.k + j) v).1
  refine ⟨?_⟩
  rw [List.length_set, kd_cells_set K xs i hi j f' v hj he]
  exact this
theorem pk.OwnB.head {w : World} {B : Nat} {v : Value} {cs : List Nat} (h : OwnB w B v cs) : (v = .slice none 0 0 ∧ cs = []) ∨ ∃ g cap, v = .slice (some ⟨g, 0, none⟩) cs.length cap ∧ B ≤ g ∧ g < w.heap.size ∧ cs.length ≤ cap ∧ cap ≤ 9223372036854775807 := by
  rcases h.own.2 with ⟨e, h0⟩ | ⟨g, cap, cur, e, hb, hg, hc, hm, r⟩
  · exact Or.inl ⟨e, List.eq_nil_of_length_eq_zero h0⟩
  · exact Or.inr ⟨g, cap, e, hb, hlt_of hg, hc, by unfold maxLen at hm; omega⟩
theorem pk.OwnB.set {w : World} {B g n cap : Nat} {cs : List Nat} (h : OwnB w B (.slice (some ⟨g, 0, none⟩) n cap) cs) (hl : cs.length = n) (j d : Nat) (hd : d < 256) :
    OwnB (w.setCell ⟨g, j, none⟩ (.int .u8 (d : Int))) B (.slice (some ⟨g, 0, none⟩) n cap) (cs.set j d) := by
  subst hl
  have := (World.ownsRow.stored h.own j (.int .u8 (d : Int))).1
  refine ⟨fun x hx => ?_, ?_⟩
  · rcases List.mem_or_eq_of_mem_set hx with hx | rfl
    · exact h.byte x hx
    · exact hd
  · rw [List.length_set]
    have e : cl (cs.set j d) = (cl cs).set j (.int .u8 (d : Int)) := by simp [cl, List.map_set]
    rw [e]
    exact this
theorem pk.OwnB.free {w : World} {B g n cap : Nat} {cs : List Nat} (h : OwnB w B (.slice (some ⟨g, 0, none⟩) n cap) cs) (j : Nat) : w.frozen? ⟨g, j, none⟩ = false := by
  have hn : n = cs.length := by
    rcases h.own.2 with ⟨e, _⟩ | ⟨g', cap', cur, e, _⟩ <;> cases e
    rfl
  subst hn
  exact World.ownsRow.frozenAt h.own j
theorem Own.freeR {α : Type} {K : Kd α} {w : World} {B g n cap : Nat} {xs : List α} (h : Own K w B (.slice (some ⟨g, 0, none⟩) n cap) xs) (j : Nat) : w.frozen? ⟨g, j, none⟩ = false := by
  have hn : n = xs.length := by
    rcases h.own.2 with ⟨e, _⟩ | ⟨g', cap', cur, e, _⟩ <;> cases e
    rfl
  subst hn
  exact World.ownsRow.frozenAt h.own j
theorem pk.OwnB.cellAt {w : World} {B g n cap : Nat} {cs : List Nat} (h : OwnB w B (.slice (some ⟨g, 0, none⟩) n cap) cs) (j : Nat) (hj : j < cs.length) : w.cell? ⟨g, j, none⟩ = some (.int .u8 (cs.getD j 0 : Nat)) := by
  obtain ⟨_, a, c, e, _, _, _, h4⟩ := h.bs
  obtain ⟨b, off, e2, _, h5⟩ := h4 (by omega)
  injection e with e _ _
  rw [e2] at e
  injection e with e
  injection e with e3 e4 _
  have := h5 j hj
  rw [← e3, ← e4, Nat.zero_add] at this
  exact this
theorem rtot_set (fs : List RF) (f' : RF) : ∀ i (hi : i < fs.length), f'.ks.length = fs[i].ks.length → rtot (fs.set i f') = rtot fs := by
  induction fs with
  | nil => intro i hi; simp at hi
  | cons f fs ih =>
    intro i hi h
    cases i with
    | zero =>
      simp only [List.set_cons_zero, rtot]
      rw [h]
      rfl
    | succ i =>
      have := ih i (by simpa using hi) (by simpa using h)
      simp only [List.set_cons_succ, rtot]
      omega
/-- two cells of one file are stored: the bytes, and the flags -/
theorem RD.setf {w W : World} {B q g gc N : Nat} {y : RK} (h : RD w B q (.slice (some ⟨g, 0, none⟩) N gc) y) (i : Nat) (hi : i < y.fs.length) (f' : RF) (hb : Below w.heap.size w W) (hn : f'.nm = y.fs[i].nm) (hk : f'.ks.length = y.fs[i].ks.length) (hf : Rf W f') :
    RD ((W.setCell ⟨g, i * 3 + 1, none⟩ f'.bv).setCell ⟨g, i * 3 + 2, none⟩ f'.kv) B q (.slice (some ⟨g, 0, none⟩) N gc) { y with fs := y.fs.set i f' } ∧ KeR w ((W.setCell ⟨g, i * 3 + 1, none⟩ f'.bv).setCell ⟨g, i * 3 + 2, none⟩ f'.kv) ∧ Below B w ((W.setCell ⟨g, i * 3 + 1, none⟩ f'.bv).setCell ⟨g, i * 3 + 2, none⟩ f'.kv) := by
  have hW := h.step hb
  obtain ⟨cs, hgb⟩ : ∃ cs, W.heap[g]? = some (.cells cs 94 (0, 0)) := by
    rcases hW.row.own.2 with ⟨e, _⟩ | ⟨g', cap', cur, e, _, hg, _⟩ <;> cases e
    exact ⟨_, hg⟩
  have hgq : q ≠ g := fun e => by
    have := hW.va.blk
    rw [e, hgb] at this
    cases this
  have hU : Upd g W ((W.setCell ⟨g, i * 3 + 1, none⟩ f'.bv).setCell ⟨g, i * 3 + 2, none⟩ f'.kv) := (upd_set _ _ _ _).trans (upd_set _ _ _ _)
  have hkW : KeR W ((W.setCell ⟨g, i * 3 + 1, none⟩ f'.bv).setCell ⟨g, i * 3 + 2, none⟩ f'.kv) := KeR.upd2 hU hgb (.inr rfl)
  have hBg : B ≤ g := hW.row.block g rfl
  have r1 := hW.row.setc i hi 1 (by decide) { y.fs[i] with ba := f'.ba, bs := f'.bs, bc := f'.bc } f'.bv rfl
  have r2 := r1.setc i (by rw [List.length_set]; exact hi) 2 (by decide) f' f'.kv (by
    rw [List.getElem_set_self]
    show [_, _, _] = [_, _, _]
    rw [hn]
    rfl)
  rw [List.set_set] at r2
  refine ⟨⟨(hW.va.set_other hgq _ _).set_other hgq _ _, r2, fun f hf' => ?_, h.lo, ?_, ?_⟩, (KeR.bel hb).trans hkW, (hb.mono h.lt).trans (hU.bel (Below.refl _ _) hBg)⟩
  · rcases List.mem_or_eq_of_mem_set hf' with hf' | rfl
    · exact (hW.fil f hf').ker hkW
    · exact hf.ker hkW
  · show (y.fs.set i f').length ≤ 64
    rw [List.length_set]
    exact h.cnt
  · show rtot (y.fs.set i f') ≤ y.room ∧ _
    rw [rtot_set _ _ i hi hk]
    exact h.room
/-- the first m bytes of the sector j made noughts -/
def pz (bs : List Nat) (j m : Nat) : List Nat := bs.take (32 * j) ++ List.replicate m 0 ++ bs.drop (32 * j + m)
theorem pz_0 (bs : List Nat) (j : Nat) : pz bs j 0 = bs := by unfold pz; simp
theorem pz_32 (bs : List Nat) (j : Nat) : pz bs j 32 = zer bs j := rfl
theorem pz_len (bs : List Nat) (j m : Nat) (h : 32 * j + m ≤ bs.length) : (pz bs j m).length = bs.length := by unfold pz; simp; omega
theorem pz_set (bs : List Nat) (j m : Nat) (h : 32 * j + m < bs.length) : (pz bs j m).set (32 * j + m) 0 = pz bs j (m + 1) := by
  unfold pz
  have hl : (bs.take (32 * j) ++ List.replicate m 0).length = 32 * j + m := by simp; omega
  rw [List.set_append_right _ _ (by rw [hl]; exact Nat.le_refl _), hl, Nat.sub_self, List.drop_eq_getElem_cons h, List.set_cons_zero, List.replicate_succ']
  simp [List.append_assoc, Nat.add_assoc]
theorem zer_len (bs : List Nat) (j : Nat) (h : 32 * j + 32 ≤ bs.length) : (zer bs j).length = bs.length := pz_len bs j 32 h
theorem zAt_len (ks fl : List Bool) (bs : List Nat) (k : Nat) : ∀ j, 32 * j ≤ bs.length → (zAt ks fl bs k j).1.length = bs.length
  | 0, _ => rfl
  | j + 1, h => by
    have ih := zAt_len ks fl bs k j (by omega)
    rw [zAt]
    split
    · exact ih
    · show (if _ then _ else _ : List Nat).length = _
      split
      · exact ih
      · rw [zer_len _ _ (by rw [ih]; omega)]
        exact ih
theorem zAt_k (ks fl : List Bool) (bs : List Nat) (k : Nat) : ∀ j, (zAt ks fl bs k j).2 ≤ k + j
  | 0 => Nat.le_refl _
  | j + 1 => by
    have ih := zAt_k ks fl bs k j
    rw [zAt]
    split
    · omega
    · show _ + 1 ≤ _
      omega
theorem rtotA_take (fs : List T3) : ∀ i, i < fs.length → rtotA (fs.take (i + 1)) = rtotA (fs.take i) + (fs.getD i ([], [], [])).2.2.length := by
  induction fs with
  | nil => intro i h; simp at h
  | cons t fs ih =>
    intro i h
    cases i with
    | zero => simp [rtotA]
    | succ i =>
      have := ih i (by simpa using h)
      simp only [List.take_succ_cons, rtotA, List.getD_cons_succ]
      omega
theorem rtotA_le (fs : List T3) (i : Nat) : rtotA (fs.take i) ≤ rtotA fs := by
  induction fs generalizing i with
  | nil => simp
  | cons t fs ih =>
    cases i with
    | zero => simp [rtotA]
    | succ i => have := ih i; simp only [List.take_succ_cons, rtotA]; omega
theorem rAt_k (ks : List Bool) (fs : List T3) : ∀ i, i ≤ fs.length → (rAt ks fs i).2 ≤ rtotA (fs.take i)
  | 0, _ => Nat.zero_le _
  | i + 1, h => by
    have ih := rAt_k ks fs i (by omega)
    rw [rAt, rtotA_take fs i (by omega)]
    have := zAt_k ks (fs.getD i ([], [], [])).2.2 (fs.getD i ([], [], [])).2.1 (rAt ks fs i).2 (fs.getD i ([], [], [])).2.2.length
    show (zAt _ _ _ _ _).2 ≤ _
    omega
end Go.Proofs.Ytakgkpiicigihaa
