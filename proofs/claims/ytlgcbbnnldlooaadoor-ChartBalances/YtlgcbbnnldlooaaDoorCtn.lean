/- chart: what comes in; sums over the accounts: what is posted leaves the totals; the trial balance's sum. -/
import Derived.Test.YtlgcbbnnldlooaaDoorCtm
namespace Go.Proofs.YtlgcbbnnldlooaaDoor
open Go.RowKit Go.Maps
set_option linter.unusedVariables false

/-- a list of lines that comes in -/
structure LIn (w : World) (v : Value) (ls : List Ln) : Prop where
  sl : Sl LN w v ls
  wf : ∀ x ∈ ls, x.wf
  no : ∀ n c, v = .slice none n c → c = 0
  sz : ls.length * 40 ≤ 140737488351232
theorem LIn.step {w w' : World} {v : Value} {ls : List Ln} (h : LIn w v ls) (k : Below w.heap.size w w') : LIn w' v ls := ⟨h.sl.step k, h.wf, h.no, h.sz⟩
/-- a list of entries that comes in -/
structure EIn (w : World) (v : Value) (es : List (List Ln)) : Prop where
  form : ∃ a c, v = .slice a es.length c ∧ es.length ≤ c ∧ c ≤ 9223372036854775807 ∧ (0 < es.length → ∃ b off, a = some ⟨b, off, none⟩ ∧ b < w.heap.size ∧ ∀ i e, es[i]? = some e → ∃ u, w.cell? ⟨b, off + i, none⟩ = some u ∧ LIn w u e)
theorem EIn.step {w w' : World} {v : Value} {es : List (List Ln)} (h : EIn w v es) (k : Below w.heap.size w w') : EIn w' v es := by
  obtain ⟨a, c, e, h1, h2, h3⟩ := h
  refine ⟨a, c, e, h1, h2, fun h0 => ?_⟩
  obtain ⟨b, off, ea, hb, hx⟩ := h3 h0
  refine ⟨b, off, ea, Nat.lt_of_lt_of_le hb k.size, fun i e hi => ?_⟩
  obtain ⟨u, hu, hl⟩ := hx i e hi
  exact ⟨u, (k.cell (p := ⟨b, off + i, none⟩) hb).trans hu, hl.step k⟩
theorem EIn.at {w : World} {a : Option Addr} {n c : Nat} {es : List (List Ln)} (h : EIn w (.slice a n c) es) (i : Nat) (e : List Ln) (hi : es[i]? = some e) : ∃ b off u, a = some ⟨b, off, none⟩ ∧ w.cell? ⟨b, off + i, none⟩ = some u ∧ LIn w u e := by
  obtain ⟨a', c', ee, h1, h2, h3⟩ := h
  cases ee
  have hlt : i < es.length := (List.getElem?_eq_some_iff.1 hi).1
  obtain ⟨b, off, ea, hb, hx⟩ := h3 (by omega)
  obtain ⟨u, hu, hl⟩ := hx i e hi
  exact ⟨b, off, u, ea, hu, hl⟩

theorem tsum_add (f g : Int → Int → Int) (u : Int) : ∀ k : Nat, tsum (fun c u => f c u + g c u) u k = tsum f u k + tsum g u k
  | 0 => rfl
  | k + 1 => by
    rw [tsum_succ, tsum_succ, tsum_succ, tsum_add f g u k]
    split <;> omega
theorem tsum_zero (u : Int) : ∀ k : Nat, tsum (fun _ _ => 0) u k = 0
  | 0 => rfl
  | k + 1 => by
    rw [tsum_succ, tsum_zero u k]
    split <;> rfl
theorem tsum_ind (i : Nat) (z u : Int) : ∀ k : Nat, tsum (fun c u' => if (acc i).1 = c ∧ (acc i).2 = u' then z else 0) u k = if i < k ∧ (acc i).2 = u then z else 0
  | 0 => by rw [if_neg (by omega)]; rfl
  | k + 1 => by
    have t : (if (acc k).2 = u then (if (acc i).1 = (acc k).1 ∧ (acc i).2 = (acc k).2 then z else 0) else 0) = if i = k ∧ (acc i).2 = u then z else 0 := by
      by_cases hik : i = k
      · subst hik
        by_cases hu : (acc i).2 = u
        · simp [hu]
        · simp [hu]
      · have hne : ¬ ((acc i).1 = (acc k).1 ∧ (acc i).2 = (acc k).2) := fun e => hik (acc_inj (Prod.ext e.1 e.2))
        simp [hne, hik]
    rw [tsum_succ, tsum_ind i z u k, t]
    by_cases hu : (acc i).2 = u
    · by_cases h1 : i < k
      · rw [if_pos ⟨h1, hu⟩, if_neg (by omega), if_pos ⟨by omega, hu⟩, Int.add_zero]
      · by_cases h2 : i = k
        · rw [if_neg (by omega), if_pos ⟨h2, hu⟩, if_pos ⟨by omega, hu⟩, Int.zero_add]
        · rw [if_neg (by omega), if_neg (by omega), if_neg (by omega)]; rfl
    · simp [hu]
/-- the sums of the accounts' lines are the sum of the currency's lines -/
theorem tsum_sat {ls : List Ln} (h : ∀ x ∈ ls, x.pl = true) (u : Int) : tsum (sat ls) u 32 = sau ls u := by
  induction ls with
  | nil => exact tsum_zero u 32
  | cons x ls ih =>
    have h1 : sat (x :: ls) = fun c u => (if x.code = c ∧ x.cur = u then x.un else 0) + sat ls c u := by
      funext c u
      simp [sat]
    obtain ⟨i, hi, he⟩ := va_acc (Ln.va (h x (List.mem_cons_self ..)))
    have h2 := tsum_ind i x.un u 32
    rw [he] at h2
    rw [h1, tsum_add, ih (fun y hy => h y (List.mem_cons_of_mem _ hy)), h2]
    have h3 : sau (x :: ls) u = (if x.cur = u then x.un else 0) + sau ls u := by simp [sau]
    rw [h3]
    congr 1
    by_cases e : x.cur = u
    · rw [if_pos ⟨hi, e⟩, if_pos e]
    · rw [if_neg (fun e' => e e'.2), if_neg e]
/-- what is posted leaves the totals -/
theorem pst_tsum (b : Int → Int → Int) (ls : List Ln) {u : Int} (h0 : 0 ≤ u) (h3 : u ≤ 3) : tsum (pst b ls) u 32 = tsum b u 32 := by
  unfold pst
  split
  · rename_i h
    obtain ⟨h1, _, hb⟩ := perr_inv h
    rw [tsum_add b (sat ls), tsum_sat (fun x hx => ((cherr_0 h1).1 x hx).1)]
    have : sau ls u = 0 := by
      have hb := of_decide_eq_true hb
      have hu : u = 0 ∨ u = 1 ∨ u = 2 ∨ u = 3 := by omega
      rcases hu with rfl | rfl | rfl | rfl
      · exact hb.1
      · exact hb.2.1
      · exact hb.2.2.1
      · exact hb.2.2.2
    omega
  · rfl
/-- the sum of some lines' coefficients in a currency -/
def ssum (T : List Ln) (u : Int) : Int := (T.map (fun x => if x.cur = u then x.cf else 0)).sum
theorem ssum_snoc (T : List Ln) (x : Ln) (u : Int) : ssum (T ++ [x]) u = ssum T u + if x.cur = u then x.cf else 0 := by simp [ssum]
theorem lnOf_cf (c u z : Int) : (lnOf c u z).cf = z := cf_of (s := 0) rfl rfl
theorem ssum_trl (b : Int → Int → Int) (u : Int) : ∀ n : Nat, ssum (trl b n) u = tsum b u n
  | 0 => rfl
  | n + 1 => by
    rw [tsum_succ, ← ssum_trl b u n]
    by_cases h : b (acc n).1 (acc n).2 = 0
    · rw [trl_no b n h, h]
      split <;> omega
    · rw [trl_yes b n h, ssum_snoc, lnOf_cf]
      rfl
theorem trl_mem {b : Int → Int → Int} {n : Nat} (hn : n ≤ 32) {x : Ln} (hx : x ∈ trl b n) : ∃ c u, Va c u ∧ b c u ≠ 0 ∧ x = lnOf c u (b c u) := by
  unfold trl at hx
  obtain ⟨a, ha, rfl⟩ := List.mem_map.1 hx
  obtain ⟨h1, h2⟩ := List.mem_filter.1 ha
  obtain ⟨i, hi, rfl⟩ := List.mem_map.1 h1
  exact ⟨_, _, acc_va (by have := List.mem_range.1 hi; omega), by simpa using h2, rfl⟩
theorem ssum_bd {T : List Ln} (h : ∀ x ∈ T, -M36 ≤ x.cf ∧ x.cf ≤ M36) (u : Int) : -((T.length : Int) * M36) ≤ ssum T u ∧ ssum T u ≤ (T.length : Int) * M36 := by
  induction T with
  | nil => simp [ssum]
  | cons x T ih =>
    have h1 := h x (List.mem_cons_self ..)
    have h2 := ih (fun y hy => h y (List.mem_cons_of_mem _ hy))
    have e : ssum (x :: T) u = (if x.cur = u then x.cf else 0) + ssum T u := by simp [ssum]
    rw [e, List.length_cons, show (((T.length + 1 : Nat) : Int)) * M36 = (T.length : Int) * M36 + M36 by rw [Int.natCast_add, Int.add_mul]; simp]
    have h0 : (0 : Int) ≤ M36 := by decide
    split <;> omega
end Go.Proofs.YtlgcbbnnldlooaaDoor
