/- the document's ledger: blocks of whole numbers; sums of lines that are amounts. -/
import Derived.Test.YtlgcbbnnldlooaaDoorCtt
namespace Go.Proofs.YtlgcbbnnldlooaaDoor
open Go.RowKit Go.Maps
set_option linter.unusedVariables false

/-- block p holds n whole numbers, and tl behind them -/
structure IB (w : World) (p n : Nat) (f : Nat → Int) (tl : List Value) (T : TypeId) : Prop where
  ex : ∃ cs, VA w p (cs ++ tl) T ∧ cs.length = n * 2 ∧ (∀ v ∈ cs ++ tl, v.oneCell' = true) ∧ ∀ i, i < n → ∃ m a k c, cs[i * 2]? = some (.bool m) ∧ cs[i * 2 + 1]? = some (.slice a k c) ∧ In w (.agg #[.bool m, .slice a k c]) (f i)
theorem IB.lt {w : World} {p n : Nat} {f : Nat → Int} {tl : List Value} {T : TypeId} (h : IB w p n f tl T) : p < w.heap.size := by
  obtain ⟨cs, h1, _⟩ := h.ex; exact h1.lt
theorem IB.mv {w w' : World} {p n : Nat} {f : Nat → Int} {tl : List Value} {T : TypeId} (h : IB w p n f tl T) (e : w'.heap[p]? = w.heap[p]?) (k : KeepU w w') : IB w' p n f tl T := by
  obtain ⟨cs, h1, h2, h3, h4⟩ := h.ex
  refine ⟨cs, ⟨e.trans h1.blk⟩, h2, h3, fun i hi => ?_⟩
  obtain ⟨m, a, q, c, e1, e2, e3⟩ := h4 i hi
  exact ⟨m, a, q, c, e1, e2, e3.keepU k⟩
theorem IB.step {w w' : World} {p n : Nat} {f : Nat → Int} {tl : List Value} {T : TypeId} (h : IB w p n f tl T) (k : Below w.heap.size w w') : IB w' p n f tl T := h.mv (k.block p h.lt) (below_keepU k)
theorem IB.at {w : World} {p n : Nat} {f : Nat → Int} {tl : List Value} {T : TypeId} (h : IB w p n f tl T) (i : Nat) (hi : i < n) : ∃ m a k c, w.cell? ⟨p, i * 2, none⟩ = some (.bool m) ∧ w.cell? ⟨p, i * 2 + 1, none⟩ = some (.slice a k c) ∧ In w (.agg #[.bool m, .slice a k c]) (f i) := by
  obtain ⟨cs, h1, h2, h3, h4⟩ := h.ex
  obtain ⟨m, a, q, c, e1, e2, e3⟩ := h4 i hi
  exact ⟨m, a, q, c, h1.cell _ (by rw [List.getElem?_append_left (by omega)]; exact e1), h1.cell _ (by rw [List.getElem?_append_left (by omega)]; exact e2), e3⟩
theorem IB.there {w : World} {p n : Nat} {f : Nat → Int} {tl : List Value} {T : TypeId} (h : IB w p n f tl T) (i : Nat) (hi : i < n) : w.there p (i * 2) 2 := by
  obtain ⟨cs, h1, h2, h3, h4⟩ := h.ex
  intro j hj
  refine ⟨?_, h1.free _⟩
  have hl : i * 2 + j < (cs ++ tl).length := by rw [List.length_append]; omega
  rw [h1.cell (i * 2 + j) (v := (cs ++ tl)[i * 2 + j]) (by simp)]
  rfl
/-- a number is stored -/
theorem IB.set {w : World} {p n : Nat} {f : Nat → Int} {tl : List Value} {T : TypeId} (h : IB w p n f tl T) (hT : T ≠ 35) (i : Nat) (hi : i < n) {m : Bool} {a : Option Addr} {k c : Nat} {z : Int} (hz : In w (.agg #[.bool m, .slice a k c]) z) :
    IB (w.setCells p (i * 2) [.bool m, .slice a k c]) p n (fun j => if j = i then z else f j) tl T := by
  obtain ⟨cs, h1, h2, h3, h4⟩ := h.ex
  have hk := (setCells_but w p (i * 2) [.bool m, .slice a k c]).keepU h1 hT
  have hv : VA (w.setCells p (i * 2) [.bool m, .slice a k c]) p (((cs.set (i * 2) (.bool m)).set (i * 2 + 1) (.slice a k c)) ++ tl) T := by
    have := (h1.set (i * 2) (.bool m)).set (i * 2 + 1) (.slice a k c)
    rw [List.set_append_left _ _ (by omega), List.set_append_left _ _ (by rw [List.length_set]; omega)] at this
    exact this
  refine ⟨_, hv, by rw [List.length_set, List.length_set]; exact h2, fun v hv => ?_, fun j hj => ?_⟩
  · rcases List.mem_append.1 hv with hv | hv
    · rcases List.mem_or_eq_of_mem_set hv with hv | rfl
      · rcases List.mem_or_eq_of_mem_set hv with hv | rfl
        · exact h3 v (List.mem_append_left _ hv)
        · rfl
      · rfl
    · exact h3 v (List.mem_append_right _ hv)
  · by_cases e : j = i
    · subst e
      refine ⟨m, a, k, c, ?_, ?_, ?_⟩
      · rw [List.getElem?_set_ne (by omega), List.getElem?_set_self (by omega)]
      · rw [List.getElem?_set_self (by rw [List.length_set]; omega)]
      · rw [if_pos rfl]; exact hz.keepU hk
    · obtain ⟨m', a', k', c', e1, e2, e3⟩ := h4 j hj
      refine ⟨m', a', k', c', ?_, ?_, ?_⟩
      · rw [List.getElem?_set_ne (by omega), List.getElem?_set_ne (by omega)]; exact e1
      · rw [List.getElem?_set_ne (by omega), List.getElem?_set_ne (by omega)]; exact e2
      · rw [if_neg e]; exact e3.keepU hk
theorem IB.congr {w : World} {p n : Nat} {f g : Nat → Int} {tl : List Value} {T : TypeId} (h : IB w p n f tl T) (e : ∀ i, i < n → f i = g i) : IB w p n g tl T := by
  obtain ⟨cs, h1, h2, h3, h4⟩ := h.ex
  refine ⟨cs, h1, h2, h3, fun i hi => ?_⟩
  rw [← e i hi]
  exact h4 i hi
theorem in_zero (w : World) : In w (.agg #[.bool false, .slice none 0 0]) 0 := in_mk (nm_nil w) (fun _ => rfl) (fun h => by omega)
/-- noughts -/
def zint (n : Nat) : List Value := (List.replicate n [Value.bool false, Value.slice none 0 0]).flatten
theorem zint_len (n : Nat) : (zint n).length = n * 2 := by simp [zint]
theorem zint_get : ∀ (n i : Nat), i < n → (zint n)[i * 2]? = some (.bool false) ∧ (zint n)[i * 2 + 1]? = some (.slice none 0 0)
  | 0, i, h => by omega
  | n + 1, i, h => by
    have e : zint (n + 1) = .bool false :: .slice none 0 0 :: zint n := by simp [zint, List.replicate_succ]
    rw [e]
    cases i with
    | zero => exact ⟨rfl, rfl⟩
    | succ i =>
      have := zint_get n i (by omega)
      rw [show (i + 1) * 2 = i * 2 + 1 + 1 by omega]
      simpa using this
theorem zint_one (n : Nat) : ∀ v ∈ zint n, v.oneCell' = true := by
  intro v hv
  obtain ⟨l, hl, hv⟩ := List.mem_flatten.1 hv
  rw [List.eq_of_mem_replicate hl] at hv
  simp at hv
  rcases hv with rfl | rfl <;> rfl
theorem ib_zero {w : World} {p n : Nat} {tl : List Value} {T : TypeId} (h : VA w p (zint n ++ tl) T) (ht : ∀ v ∈ tl, v.oneCell' = true) : IB w p n (fun _ => 0) tl T :=
  ⟨_, h, zint_len n, (fun v hv => (List.mem_append.1 hv).elim (zint_one n v) (ht v)), fun i hi => ⟨false, none, 0, 0, (zint_get n i hi).1, (zint_get n i hi).2, in_zero w⟩⟩

/-- those lines that are amounts -/
def okl (ls : List Ln) : List Ln := ls.filter (fun x => x.ok)
theorem okl_all {ls : List Ln} (h : ∀ x ∈ ls, x.ok = true) : okl ls = ls := List.filter_eq_self.2 h
theorem okl_snoc (ls : List Ln) (x : Ln) : okl (ls ++ [x]) = if x.ok then okl ls ++ [x] else okl ls := by
  unfold okl
  rw [List.filter_append]
  cases e : x.ok <;> simp [e]
theorem okl_len (ls : List Ln) : (okl ls).length ≤ ls.length := List.length_filter_le _ _
theorem okl_mem {ls : List Ln} (hw : ∀ x ∈ ls, x.wf) : ∀ x ∈ okl ls, x.wf ∧ x.ok = true := fun x hx => ⟨hw x (List.mem_filter.1 hx).1, (List.mem_filter.1 hx).2⟩
/-- the balances' numbers by their places -/
def lf (b : Int → Int → Int) (i : Nat) : Int := if i < 4 then 0 else b ((i / 4 : Nat) : Int) ((i % 4 : Nat) : Int)
def nf (b : Int → Int → Int) (ls : List Ln) (i : Nat) : Int := lf b i + sat ls ((i / 4 : Nat) : Int) ((i % 4 : Nat) : Int)
theorem lf_va {i : Nat} (h4 : 4 ≤ i) (h : i < 36) : Va ((i / 4 : Nat) : Int) ((i % 4 : Nat) : Int) := by unfold Va; omega
theorem big_mi {z : Int} (h : -(200000000000000 * M36) ≤ z ∧ z ≤ 200000000000000 * M36) : Mi z := by
  refine mi_of (k := 200) ?_ (by omega)
  unfold M36 at h
  have : (2 : Nat) ^ 200 = 1606938044258990275541962092341162602522202993782792835301376 := by decide
  omega
theorem nf_mi {b : Int → Int → Int} (hb : ∀ c u, Va c u → -M36 ≤ b c u ∧ b c u ≤ M36) {ls : List Ln} (hw : ∀ x ∈ ls, x.wf) (hl : ls.length * 40 ≤ 140737488351232) (i : Nat) (hi : i < 36) : Mi (nf b (okl ls) i) := by
  have h1 := sat_bd (okl_mem hw) ((i / 4 : Nat) : Int) ((i % 4 : Nat) : Int)
  have h2 := okl_len ls
  have h3 : ((okl ls).length : Int) * M32 ≤ 4000000000000 * M32 := Int.mul_le_mul_of_nonneg_right (by omega) (by decide)
  refine big_mi ?_
  unfold nf lf
  split
  · unfold M32 M36 at *; omega
  · have h4 := hb _ _ (lf_va (i := i) (by omega) hi)
    unfold M32 M36 at *; omega
theorem sau_mi {ls : List Ln} (hw : ∀ x ∈ ls, x.wf) (hl : ls.length * 40 ≤ 140737488351232) (u : Int) : Mi (sau (okl ls) u) := by
  have h1 := sau_bd (okl_mem hw) u
  have h2 := okl_len ls
  have h3 : ((okl ls).length : Int) * M32 ≤ 4000000000000 * M32 := Int.mul_le_mul_of_nonneg_right (by omega) (by decide)
  refine big_mi ?_
  unfold M32 M36 at *
  omega
theorem un_mi {x : Ln} (hx : x.wf) (ho : x.ok = true) : Mi x.un := by
  obtain ⟨_, _, _, _, _, _, _, _, _, h1, h2⟩ := good_form hx ho
  refine big_mi ?_
  unfold M32 M36 at *
  omega
/-- every amount's units, or none -/
theorem units_any (x : Ln) (hx : x.wf) (w : World) : Calls Tryd.prog 31 #[.agg #[.int .i64 x.h, .int .u64 x.l, .int .i64 x.s]] w fun e w' => (∃ m a n k, e = .returned (.tuple #[.agg #[.bool m, .slice a n k], .bool x.ok]) ∧ (x.ok = true → In w' (.agg #[.bool m, .slice a n k]) x.un)) ∧ Below w.heap.size w w' := by
  rcases form_cases x.h x.l x.s hx.h hx.l with hb | ⟨c, n, h1, h2, h3, ic, hn⟩
  · have e : x.ok = false := by
      cases e : x.ok
      · rfl
      · obtain ⟨c, n, h1, h2, h3, hn, ic, _⟩ := good_form hx e
        exfalso
        rcases hb with hb | ⟨e1, e2⟩
        · omega
        · have := cf_of (s := x.s) h1 h2
          rw [e1, e2] at this
          have h4 := ic.lo
          unfold M127 at h4
          omega
    refine (units_bad _ _ _ w hb).mono ?_
    rintro _ w' ⟨rfl, b⟩
    exact ⟨⟨false, none, 0, 0, by rw [e], fun h => by rw [e] at h; cases h⟩, b⟩
  · have ec : x.cf = c := cf_of (s := x.s) h1 h2
    have es : x.s.toNat = n := by rw [h3]; exact Int.toNat_natCast n
    by_cases hs : (n : Int) ≤ 12
    · have eo : x.ok = !(far c n M20) := by unfold Ln.ok; rw [ec, es, decide_eq_true (by omega), Bool.true_and]
      have eu : x.un = c * (10 : Int) ^ (12 - n) := by unfold Ln.un; rw [ec, es]
      rw [eo, eu, h1, h2, h3]
      refine (units_ok c n w ic hs).mono ?_
      rintro _ w' ⟨⟨m, a, q, k, rfl, hi⟩, b⟩
      exact ⟨⟨m, a, q, k, rfl, fun _ => hi⟩, b⟩
    · have eo : x.ok = false := by unfold Ln.ok; rw [decide_eq_false (by omega), Bool.false_and]
      rw [eo, h1, h2, h3]
      refine (units_long c n w ic hn (by omega)).mono ?_
      rintro _ w' ⟨rfl, b⟩
      exact ⟨⟨false, none, 0, 0, rfl, fun h => by cases h⟩, b⟩
end Go.Proofs.YtlgcbbnnldlooaaDoor
