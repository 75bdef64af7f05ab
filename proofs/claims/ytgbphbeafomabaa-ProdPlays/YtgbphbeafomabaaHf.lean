/- prod: rows of versions of the call's own; the document's tests of a version that comes behind others. -/
import Derived.Test.YtgbphbeafomabaaHe
import Derived.Laws.OwnMore
namespace Go.Proofs.Ytgbphbeafomabaa
open Go.RowKit Go.Shelf
set_option linter.unusedVariables false

/-! the tests -/
def dDt (xs : List PV) (x : PV) : Bool := xs.any fun y => decide (y.id = x.id ∧ x.day < y.day)
def dKd (xs : List PV) (x : PV) : Bool := xs.any fun y => decide (y.id = x.id ∧ (y.kind ≠ x.kind ∨ y.cur ≠ x.cur))
theorem hold_idx (id D : Int) (l : PV) (xs : List PV) : hold xs id D = some l → ∃ j, ∃ hj : j < xs.length, xs[j] = l ∧ fits id D (l.id, l.day) ∧ ∀ i (hi : i < xs.length), j < i → ¬ fits id D (xs[i].id, xs[i].day) := by
  have key : ∀ ys : List PV, hold ys.reverse id D = some l → ∃ j, ∃ hj : j < ys.reverse.length, ys.reverse[j] = l ∧ fits id D (l.id, l.day) ∧ ∀ i (hi : i < ys.reverse.length), j < i → ¬ fits id D (ys.reverse[i].id, ys.reverse[i].day) := by
    intro ys
    induction ys with
    | nil => intro h; cases h
    | cons y ys ih =>
      intro h
      rw [List.reverse_cons] at h
      rw [hold_snoc] at h
      by_cases hf : fits id D (y.id, y.day)
      · rw [if_pos hf] at h
        cases h
        refine ⟨ys.length, by simp, by simp, hf, fun i hi hlt => ?_⟩
        simp at hi
        omega
      · rw [if_neg hf] at h
        obtain ⟨j, hj, e, hfl, hall⟩ := ih h
        have hj' : j < ys.length := by simpa using hj
        have hg : ∀ i (hi : i < ys.length), (y :: ys).reverse[i]'(by simp; omega) = ys.reverse[i]'(by simpa using hi) := fun i hi => by
          simp only [List.reverse_cons]
          rw [List.getElem_append_left]
        refine ⟨j, by simp; omega, (hg j hj').trans e, hfl, fun i hi hlt => ?_⟩
        by_cases hi' : i < ys.length
        · rw [hg i hi']
          exact hall i (by simpa using hi') hlt
        · have hil : i = ys.length := by simp at hi; omega
          subst hil
          have : (y :: ys).reverse[ys.length]'hi = y := by simp
          rw [this]
          exact hf
  intro h
  have := key xs.reverse (by rw [List.reverse_reverse]; exact h)
  simpa only [List.reverse_reverse] using this
theorem hold_no {id D : Int} {xs : List PV} (h : hold xs id D = none) : ∀ y ∈ xs, ¬ fits id D (y.id, y.day) := by
  unfold hold at h
  intro y hy
  have := List.find?_eq_none.1 h y (by simpa using hy)
  simpa using this
theorem fol_doc {xs : List PV} (x : PV) (hr : Rise xs) (hf : ∀ y ∈ xs, y.day ≤ 3652059) : fol xs x = if there xs x.id x.day then 8 else if dDt xs x then 9 else if dKd xs x then 11 else 0 := by
  unfold fol
  cases ht : there xs x.id x.day
  · rw [if_neg (by simp), if_neg (by simp)]
    cases hh : hold xs x.id 3652059 with
    | none =>
      have hno := hold_no hh
      have h1 : dDt xs x = false := by
        unfold dDt
        rw [List.any_eq_false]
        intro y hy
        simp only [decide_eq_true_eq]
        rintro ⟨e, _⟩
        exact hno y hy ⟨e, hf y hy⟩
      have h2 : dKd xs x = false := by
        unfold dKd
        rw [List.any_eq_false]
        intro y hy
        simp only [decide_eq_true_eq]
        rintro ⟨e, _⟩
        exact hno y hy ⟨e, hf y hy⟩
      rw [h1, h2]
      rfl
    | some l =>
      obtain ⟨j, hj, e, hfl, hall⟩ := hold_idx _ _ _ _ hh
      have hid : l.id = x.id := hfl.1
      have hml : l ∈ xs := e ▸ List.getElem_mem hj
      have hle : ∀ y ∈ xs, y.id = x.id → y = l ∨ (y.day < l.day ∧ y.kind = l.kind ∧ y.cur = l.cur) := by
        intro y hy hyi
        obtain ⟨i, hi, rfl⟩ := List.mem_iff_getElem.1 hy
        rcases Nat.lt_trichotomy i j with h | h | h
        · have := hr i j hi hj h (by rw [e, hyi, hid])
          rw [e] at this
          exact Or.inr this
        · subst h
          exact Or.inl e
        · exact absurd ⟨hyi, hf _ hy⟩ (hall i hi h)
      have h1 : dDt xs x = decide (x.day < l.day) := by
        unfold dDt
        rw [Bool.eq_iff_iff, List.any_eq_true]
        simp only [decide_eq_true_eq]
        constructor
        · rintro ⟨y, hy, hyi, hyd⟩
          rcases hle y hy hyi with rfl | h
          · exact hyd
          · omega
        · exact fun h => ⟨l, hml, hid, h⟩
      have h2 : dKd xs x = decide (l.kind ≠ x.kind ∨ l.cur ≠ x.cur) := by
        unfold dKd
        rw [Bool.eq_iff_iff, List.any_eq_true]
        simp only [decide_eq_true_eq]
        constructor
        · rintro ⟨y, hy, hyi, hyd⟩
          rcases hle y hy hyi with rfl | h
          · exact hyd
          · rw [← h.2.1, ← h.2.2]
            exact hyd
        · exact fun h => ⟨l, hml, hid, h⟩
      rw [h1, h2]
      simp only [decide_eq_true_eq]
  · rw [if_pos rfl, if_pos rfl]
theorem any_take {f : PV → Bool} {xs : List PV} {k : Nat} (hk : k < xs.length) : (xs.take (k + 1)).any f = ((xs.take k).any f || f xs[k]) := by
  rw [List.take_succ_eq_append_getElem hk, List.any_append]
  simp
theorem rise_snoc {xs : List PV} {x : PV} (hr : Rise xs) (hf : ∀ y ∈ xs, y.day ≤ 3652059) (h : fol xs x = 0) : Rise (xs ++ [x]) := by
  rw [fol_doc x hr hf] at h
  have ht : there xs x.id x.day = false := by
    cases e : there xs x.id x.day
    · rfl
    · rw [e, if_pos rfl] at h; cases h
  have hd : dDt xs x = false := by
    cases e : dDt xs x
    · rfl
    · rw [ht, e, if_neg (by simp), if_pos rfl] at h; cases h
  have hk : dKd xs x = false := by
    cases e : dKd xs x
    · rfl
    · rw [ht, hd, e, if_neg (by simp), if_neg (by simp), if_pos rfl] at h; cases h
  unfold there at ht
  unfold dDt at hd
  unfold dKd at hk
  rw [List.any_eq_false] at ht hd hk
  simp only [decide_eq_true_eq] at ht hd hk
  intro i j hi hj hij
  have hi' : i < xs.length := by simp at hj; omega
  rw [List.getElem_append_left hi']
  by_cases hj' : j < xs.length
  · rw [List.getElem_append_left hj']
    exact hr i j hi' hj' hij
  · have hjl : j = xs.length := by simp at hj; omega
    subst hjl
    have e : (xs ++ [x])[xs.length]'hj = x := by simp
    rw [e]
    intro hid
    have m := List.getElem_mem hi'
    have a1 := ht _ m
    have a2 := hd _ m
    have a3 := hk _ m
    have b1 : xs[i].day ≠ x.day := fun e => a1 ⟨hid, e⟩
    have b2 : ¬ x.day < xs[i].day := fun e => a2 ⟨hid, e⟩
    refine ⟨by omega, ?_, ?_⟩
    · exact Classical.byContradiction fun e => a3 ⟨hid, Or.inl e⟩
    · exact Classical.byContradiction fun e => a3 ⟨hid, Or.inr e⟩

/-! rows of versions -/
def pcs (cs : List (PV × Value)) : List Value := cs.flatMap fun c => c.1.cells c.2
theorem pcs_len (cs : List (PV × Value)) : (pcs cs).length = cs.length * 9 := by
  induction cs with
  | nil => rfl
  | cons c cs ih =>
    show (c.1.cells c.2 ++ pcs cs).length = _
    rw [List.length_append, ih, PV.len, List.length_cons]
    omega
theorem pcs_app (a b : List (PV × Value)) : pcs (a ++ b) = pcs a ++ pcs b := by simp [pcs]
theorem pcs_get (cs : List (PV × Value)) : ∀ k (hk : k < cs.length) j u, (cs[k].1.cells cs[k].2)[j]? = some u → (pcs cs)[k * 9 + j]? = some u := by
  induction cs with
  | nil => intro k hk; simp at hk
  | cons c cs ih =>
    intro k hk j u hj
    show (c.1.cells c.2 ++ pcs cs)[k * 9 + j]? = some u
    cases k with
    | zero =>
      have hl : j < 9 := by
        have := (List.getElem?_eq_some_iff.1 hj).1
        simpa [PV.len] using this
      rw [Nat.zero_mul, Nat.zero_add, List.getElem?_append_left (by rw [PV.len]; exact hl)]
      exact hj
    | succ k =>
      rw [List.getElem?_append_right (by rw [PV.len]; omega), PV.len, show (k + 1) * 9 + j - 9 = k * 9 + j by omega]
      exact ih k (by simpa using hk) j u (by simpa using hj)
/-- the row v of the call's own holds these versions, with their tiers -/
structure OwnP (w : World) (B : Nat) (T : TypeId) (v : Value) (cs : List (PV × Value)) : Prop where
  form : ∀ c ∈ cs, ∃ a n k, c.2 = Value.slice a n k
  own : w.ownsRow B T 9 v cs.length (pcs cs)
theorem OwnP.block {w : World} {B : Nat} {T : TypeId} {v : Value} {cs : List (PV × Value)} (h : OwnP w B T v cs) : ∀ k, v.ownBlock = some k → B ≤ k := by
  obtain ⟨hl, h2⟩ := h.own
  rcases h2 with ⟨rfl, h0⟩ | ⟨g, cap, cur, rfl, hb, _⟩
  · intro k hk; simp [Value.ownBlock] at hk
  · intro k hk; simp [Value.ownBlock] at hk; omega
theorem OwnP.step {w w' : World} {B : Nat} {T : TypeId} {v : Value} {cs : List (PV × Value)} (h : OwnP w B T v cs) (k : Below w.heap.size w w') : OwnP w' B T v cs := by
  refine ⟨h.form, h.own.1, ?_⟩
  rcases h.own.2 with h2 | ⟨g, cap, cur, e, hb, hg, r⟩
  · exact Or.inl h2
  · have hlt : g < w.heap.size := by
      rcases Nat.lt_or_ge g w.heap.size with hlt | hge
      · exact hlt
      · rw [Array.getElem?_eq_none hge] at hg; cases hg
    exact Or.inr ⟨g, cap, cur, e, hb, (k.block g hlt).trans hg, r⟩
theorem ownP_made (w : World) (T : TypeId) : OwnP (w.alloc (.cells #[] T)) w.heap.size T (.slice (some ⟨w.heap.size, 0, none⟩) 0 0) [] :=
  ⟨fun t h => (by cases h), World.ownsRow_made w #[] 0 (Nat.le_refl _) (by unfold maxLen; omega) rfl⟩
theorem pcs_one {cs : List (PV × Value)} (h : ∀ c ∈ cs, ∃ a n k, c.2 = Value.slice a n k) {u : Value} (hu : u ∈ pcs cs) : u.oneCell' = true := by
  unfold pcs at hu
  obtain ⟨c, hc, hu⟩ := List.mem_flatMap.1 hu
  exact pv_one c.1 (h c hc) u hu
def ZP : Value := .agg #[.int .i64 0, .int .i64 0, .int .i64 0, .int .i64 0, .int .i64 0, .int .i64 0, .int .i64 0, .int .i64 0, .slice none 0 0]
/-- the two types of a version's rows -/
def PT (TS T : TypeId) : Prop := Try.prog.underlying TS = some (.slice T) ∧ ∃ i, Try.prog.info? T = some i ∧ i.zero = some ZP ∧ i.size = 9 ∧ i.bytes = 88
theorem infoR9 : (Try.prog.info? 24).map (fun i => (i.zero, i.size, i.bytes)) = some (some ZP, 9, 88) := by kernel_rfl
theorem infoP9 : (Try.prog.info? 25).map (fun i => (i.zero, i.size, i.bytes)) = some (some ZP, 9, 88) := by kernel_rfl
theorem ptR : PT 38 24 := by
  obtain ⟨i, hi, hz⟩ := Option.map_eq_some_iff.1 infoR9
  simp only [Prod.mk.injEq] at hz
  exact ⟨Try.underlying38, i, hi, hz.1, hz.2.1, hz.2.2⟩
theorem ptP : PT 44 25 := by
  obtain ⟨i, hi, hz⟩ := Option.map_eq_some_iff.1 infoP9
  simp only [Prod.mk.injEq] at hz
  exact ⟨Try.underlying44, i, hi, hz.1, hz.2.1, hz.2.2⟩
theorem appPw {w : World} {o : Oper} {a : Act} {Q : Exit → Act → World → Prop} {K : Act → World → Prop} (s x : Operand) (TS T : TypeId) (pt : PT TS T)
    (ho : o.op = .call { callee := .builtin .append, args := #[s, x], argTypes := #[TS, TS] })
    (B : Nat) (cs bs : List (PV × Value)) (v : Value) (ad : Addr) (n c : Nat) (hs : a.eval s = v) (hx : a.eval x = .slice (some ad) n c) (hn : n = bs.length)
    (hown : OwnP w B T v cs) (hb : ∀ c ∈ bs, ∃ a n k, c.2 = Value.slice a n k) (hcell : ∀ j u, (pcs bs)[j]? = some u → w.cell? (ad.add j) = some u) (hB : B ≤ w.heap.size) (hl : cs.length + bs.length ≤ 1000)
    (h : ∀ v' w', OwnP w' B T v' (cs ++ bs) → Below B w w' → w.grownBy w' v.ownBlock → K (a.put o.dst v') w') : o.wp Try.prog a w K Q := by
  obtain ⟨hu, i0, hi, hz0, hz1, hz2⟩ := pt
  subst hn
  refine wp_append_own _ s x TS ho B T i0 ZP 9 88 hu hi hz0 hz1 hz2 rfl (by decide) v cs.length (pcs cs) hs hown.own ad bs.length c (pcs bs) hx (pcs_len bs) hcell (fun u hu => pcs_one hb hu) (by unfold maxLen; omega) (by omega) hB (fun v' w' g1 g2 _ => h v' w' ⟨fun t ht => ?_, ?_⟩ ((Below.refl _ _).grown g2 hB hown.block) g2)
  · rcases List.mem_append.1 ht with ht | ht
    · exact hown.form t ht
    · exact hb t ht
  · rw [List.length_append, pcs_app]
    exact g1
/-- a block of versions of the document's, or of tiers -/
def Ty (w : World) (b : Nat) : Prop := ∃ cs T fr, w.heap[b]? = some (Obj.cells cs T fr) ∧ (T = 24 ∨ T = 36)
theorem Ty.lt {w : World} {b : Nat} (h : Ty w b) : b < w.heap.size := by
  obtain ⟨cs, T, fr, e, _⟩ := h
  exact (Array.getElem?_eq_some_iff.1 e).1
theorem Ty.step {w w' : World} {b : Nat} (h : Ty w b) (k : Below w.heap.size w w') : Ty w' b := by
  have hl := h.lt
  obtain ⟨cs, T, fr, e, r⟩ := h
  exact ⟨cs, T, fr, (k.block b hl).trans e, r⟩
theorem OwnP.ty {w : World} {B : Nat} {v : Value} {cs : List (PV × Value)} (h : OwnP w B 24 v cs) : ∀ g, v.ownBlock = some g → Ty w g := by
  intro g e
  rcases h.own.2 with ⟨rfl, _⟩ | ⟨q, cap, cur, rfl, hb, hg, r⟩
  · cases e
  · cases e
    exact ⟨_, _, _, hg, Or.inl rfl⟩
theorem OwnT.ty {w : World} {B : Nat} {v : Value} {ts : List (Int × Int)} (h : OwnT w B v ts) : ∀ g, v.ownBlock = some g → Ty w g := by
  intro g e
  rcases h.own.2 with ⟨rfl, _⟩ | ⟨q, cap, cur, rfl, hb, hg, r⟩
  · cases e
  · cases e
    exact ⟨_, _, _, hg, Or.inr rfl⟩
/-- a list that lies in a row of the call's own -/
theorem OwnP.dl {w : World} {B : Nat} {T : TypeId} {v : Value} {cs : List (PV × Value)} {S : Nat → Prop} (h : OwnP w B T v cs) (hS : ∀ g, v.ownBlock = some g → S g) (ht : ∀ c ∈ cs, Tr w c.2 c.1.ts ∧ SB S c.2) : Dl w S v (cs.map (·.1)) := by
  have ho := h.own
  refine ⟨?_⟩
  rcases h.own.2 with ⟨rfl, h0⟩ | ⟨g, cap, cur, rfl, hb, hg, hcap, hcm, hcs, htk⟩
  · exact ⟨none, 0, by simp [h0], by simp [h0], by omega, fun _ => rfl, fun h => by simp [h0] at h⟩
  · refine ⟨some ⟨g, 0, none⟩, cap, by simp, by simpa using hcap, by unfold maxLen at hcm; omega, fun e => (by cases e), fun h0 => ⟨g, 0, rfl, ?_, hS g rfl, fun k hk => ?_⟩⟩
    · rcases Nat.lt_or_ge g w.heap.size with hlt | hge
      · exact hlt
      · rw [Array.getElem?_eq_none hge] at hg; cases hg
    · have hk' : k < cs.length := by simpa using hk
      have hm := ht _ (List.getElem_mem hk')
      rw [List.getElem_map]
      refine ⟨cs[k].2, fun j u hj => ?_, hm.1, hm.2⟩
      have hj9 : j < 9 := by
        have := (List.getElem?_eq_some_iff.1 hj).1
        simpa [PV.len] using this
      have e1 := ho.cellAt (k * 9 + j) (by omega)
      rw [Nat.zero_add, e1]
      exact pcs_get cs k hk' j u hj
/-- the document's list as pairs -/
theorem Dl.pairs {w : World} {S : Nat → Prop} {a : Option Addr} {n c : Nat} {xs : List PV} (h : Dl w S (.slice a n c) xs) : ∃ cs : List (PV × Value), cs.map (·.1) = xs ∧ (∀ c ∈ cs, Tr w c.2 c.1.ts ∧ SB S c.2) ∧ (∀ b off, a = some ⟨b, off, none⟩ → ∀ j u, (pcs cs)[j]? = some u → w.cell? ⟨b, off + j, none⟩ = some u) := by
  have hn : n = xs.length := by obtain ⟨a', c', e, _⟩ := h; cases e; rfl
  have key : ∀ k, k ≤ n → ∃ cs : List (PV × Value), cs.map (·.1) = xs.take k ∧ (∀ c ∈ cs, Tr w c.2 c.1.ts ∧ SB S c.2) ∧ (∀ b off, a = some ⟨b, off, none⟩ → ∀ j u, (pcs cs)[j]? = some u → w.cell? ⟨b, off + j, none⟩ = some u) := by
    intro k
    induction k with
    | zero => exact fun _ => ⟨[], rfl, fun c hc => (by cases hc), fun b off _ j u hj => by simp [pcs] at hj⟩
    | succ k ih =>
      intro hk
      obtain ⟨cs, e, h1, h2⟩ := ih (by omega)
      obtain ⟨b, off, x, tv, ea, hb, hx, hcell, hT, hsb⟩ := h.at k (by omega)
      have hkx : k < xs.length := by omega
      have hxk : xs[k] = x := by
        rw [List.getElem?_eq_getElem hkx] at hx
        exact Option.some.inj hx
      have hl : cs.length = k := by
        have := congrArg List.length e
        simp at this
        omega
      refine ⟨cs ++ [(x, tv)], by rw [List.map_append, e, List.take_succ_eq_append_getElem hkx, hxk]; rfl, fun c hc => ?_, fun b' off' e' j u hj => ?_⟩
      · rcases List.mem_append.1 hc with hc | hc
        · exact h1 c hc
        · simp at hc
          subst hc
          exact ⟨hT, hsb⟩
      · rw [pcs_app] at hj
        by_cases hlt : j < (pcs cs).length
        · rw [List.getElem?_append_left hlt] at hj
          exact h2 b' off' e' j u hj
        · rw [List.getElem?_append_right (by omega)] at hj
          rw [pcs_len, hl] at hj hlt
          rw [ea] at e'
          cases e'
          have : pcs [(x, tv)] = x.cells tv := by simp [pcs]
          rw [this] at hj
          have := hcell _ u hj
          rwa [show off + k * 9 + (j - k * 9) = off + j by omega] at this
  obtain ⟨cs, e, r⟩ := key n (Nat.le_refl _)
  exact ⟨cs, by rw [e, hn, List.take_length], r⟩
end Go.Proofs.Ytgbphbeafomabaa
