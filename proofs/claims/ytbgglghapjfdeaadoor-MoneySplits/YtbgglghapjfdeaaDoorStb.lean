/- money: the document's way to hand out, in plain numbers. -/
import Derived.Test.YtbgglghapjfdeaaDoorSta
namespace Go.Proofs.YtbgglghapjfdeaaDoor
open Go.RowKit
set_option linter.unusedVariables false

/-- no slice -/
def nlv (v : Value) : Bool := match v with
  | .slice none _ _ => true
  | _ => false
/-- what is left of the rests behind k picks -/
def rvk (RV : Nat → Value) (g : Nat → Nat) (k i : Nat) : Value := if hit g k i then .slice none 0 0 else RV i
/-- the best so far, of those ahead of j -/
def Best (R : Nat → Nat) (V : Nat → Value) (j : Nat) (b : Int) : Prop :=
  (b = -1 ∧ ∀ i, i < j → nlv (V i) = true) ∨ ∃ y : Nat, b = (y : Int) ∧ y < j ∧ nlv (V y) = false ∧ ∀ i, i < j → nlv (V i) = false → i = y ∨ bf R y i
theorem best_start (R : Nat → Nat) (V : Nat → Value) : Best R V 0 (-1) := Or.inl ⟨rfl, fun i h => by omega⟩
theorem Best.skip {R : Nat → Nat} {V : Nat → Value} {j : Nat} {b : Int} (h : Best R V j b) (hn : nlv (V j) = true) : Best R V (j + 1) b := by
  rcases h with ⟨h1, h2⟩ | ⟨y, h1, h2, h3, h4⟩
  · exact Or.inl ⟨h1, fun i hi => by
      by_cases e : i = j
      · rw [e]; exact hn
      · exact h2 i (by omega)⟩
  · refine Or.inr ⟨y, h1, by omega, h3, fun i hi hi2 => ?_⟩
    by_cases e : i = j
    · rw [e, hn] at hi2; cases hi2
    · exact h4 i (by omega) hi2
theorem Best.first {R : Nat → Nat} {V : Nat → Value} {j : Nat} (h : Best R V j (-1)) (hn : nlv (V j) = false) : Best R V (j + 1) (j : Int) := by
  rcases h with ⟨h1, h2⟩ | ⟨y, h1, h2, h3, h4⟩
  · refine Or.inr ⟨j, rfl, by omega, hn, fun i hi hi2 => ?_⟩
    by_cases e : i = j
    · exact Or.inl e
    · rw [h2 i (by omega)] at hi2; cases hi2
  · omega
theorem Best.better {R : Nat → Nat} {V : Nat → Value} {j y : Nat} (h : Best R V j (y : Int)) (hn : nlv (V j) = false) (hr : R y < R j) : Best R V (j + 1) (j : Int) := by
  rcases h with ⟨h1, h2⟩ | ⟨z, h1, h2, h3, h4⟩
  · omega
  · obtain rfl : y = z := by omega
    refine Or.inr ⟨j, rfl, by omega, hn, fun i hi hi2 => ?_⟩
    by_cases e : i = j
    · exact Or.inl e
    · rcases h4 i (by omega) hi2 with rfl | h5
      · exact Or.inr (Or.inl hr)
      · exact Or.inr (bf.trans (Or.inl hr) h5)
theorem Best.stay {R : Nat → Nat} {V : Nat → Value} {j y : Nat} (h : Best R V j (y : Int)) (hr : ¬ R y < R j) : Best R V (j + 1) (y : Int) := by
  rcases h with ⟨h1, h2⟩ | ⟨z, h1, h2, h3, h4⟩
  · omega
  · obtain rfl : y = z := by omega
    refine Or.inr ⟨y, rfl, by omega, h3, fun i hi hi2 => ?_⟩
    by_cases e : i = j
    · rw [e]; exact Or.inr (bf_stay h2 hr)
    · exact h4 i (by omega) hi2
theorem Best.nn {R : Nat → Nat} {V : Nat → Value} {j y : Nat} (h : Best R V j (y : Int)) : y < j ∧ nlv (V y) = false := by
  rcases h with ⟨h1, h2⟩ | ⟨z, h1, h2, h3, h4⟩
  · omega
  · obtain rfl : y = z := by omega
    exact ⟨h2, h3⟩
theorem Best.cases {R : Nat → Nat} {V : Nat → Value} {j : Nat} {b : Int} (h : Best R V j b) : b = -1 ∨ ∃ y : Nat, b = (y : Int) := by
  rcases h with ⟨h1, h2⟩ | ⟨z, h1, h2, h3, h4⟩
  · exact Or.inl h1
  · exact Or.inr ⟨z, h1⟩
/-- at the end the best is the next of the sorted ones -/
theorem Best.done {R g : Nat → Nat} {RV : Nat → Value} {n k : Nat} {b : Int} (h : Best R (rvk RV g k) n b) (p : Pm (fun x => x) g 0 n) (S : Srt R g 0 n) (hk : k < n) (hz : nlv (RV (g k)) = false) : b = (g k : Int) := by
  have hgk : g k < n := p.all (P := fun v => v < n) (fun x _ h => h) k (Nat.zero_le _) hk
  have hnh : hit g k (g k) = false := not_hit S hk
  have hv : nlv (rvk RV g k (g k)) = false := by simp only [rvk, hnh]; exact hz
  rcases h with ⟨h1, h2⟩ | ⟨y, h1, h2, h3, h4⟩
  · rw [h2 _ hgk] at hv; cases hv
  · have hny : hit g k y = false := by
      cases e : hit g k y with
      | false => rfl
      | true => simp [rvk, e, nlv] at h3
    obtain ⟨x, _, hx, ex⟩ := (p.mem y).1 ⟨y, by omega, h2, rfl⟩
    have hkx : k ≤ x := by
      rcases Nat.lt_or_ge x k with hlt | hge
      · have : hit g k y = true := (hit_iff _ _ _).2 ⟨x, hlt, ex⟩
        rw [this] at hny; cases hny
      · exact hge
    by_cases e : x = k
    · subst e; rw [h1, ex]
    · have b1 := S k x (by omega) (by omega) hx
      rw [ex] at b1
      rcases h4 _ hgk hv with h5 | h5
      · rw [h5] at b1; exact (bf_irr b1).elim
      · exact (bf_irr (b1.trans h5)).elim
theorem rvk_next (RV : Nat → Value) (g : Nat → Nat) (k j : Nat) : rvk RV g (k + 1) j = if j = g k then .slice none 0 0 else rvk RV g k j := by
  simp only [rvk, hit]
  by_cases e : j = g k
  · subst e; simp
  · rw [if_neg e]
    have : (g k == j) = false := by simp; exact fun h => e h.symm
    simp only [this, Bool.or_false]
theorem Nm.nlv {w : World} {v : Value} {x : Nat} (h : Nm w v x) (hx : 0 < x) : nlv v = false := by
  obtain ⟨a, n, c, rfl⟩ := h.form
  obtain ⟨b, rfl⟩ := h.len.2.2 hx
  rfl
end Go.Proofs.YtbgglghapjfdeaaDoor
