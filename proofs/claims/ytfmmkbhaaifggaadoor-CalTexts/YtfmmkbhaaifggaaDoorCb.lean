/- The calendar's arithmetic: the next day, four hundred years, parts of years. -/
import Derived.Test.YtfmmkbhaaifggaaDoorCa
namespace Go.Proofs.YtfmmkbhaaifggaaDoor
set_option linter.unusedVariables false

theorem ahead_at {y m : Int} (h : 1 ≤ m) : ahead y m.toNat = ahead y (m - 1).toNat + mlen y m := by
  rw [show m.toNat = (m - 1).toNat + 1 by omega, ahead, show (((m - 1).toNat : Nat) : Int) + 1 = m by omega]
theorem Date.next {n y m d : Int} (h : Date n y m d) (hn : n < 3652059) :
    (d < mlen y m → Date (n + 1) y m (d + 1)) ∧ (d = mlen y m → m < 12 → Date (n + 1) y (m + 1) 1) ∧ (d = mlen y m → ¬ m < 12 → Date (n + 1) (y + 1) 1 1) := by
  obtain ⟨h1, h2, h3, h4, h5, h6, h7⟩ := h
  refine ⟨fun e => ⟨h1, h2, h3, h4, by omega, by omega, by omega⟩, fun e e2 => ⟨h1, h2, by omega, by omega, by omega, by have := mlen_lo y (m + 1); omega, ?_⟩, fun e e2 => ?_⟩
  · rw [show m + 1 - 1 = m by omega, ahead_at h3]; omega
  · obtain rfl : m = 12 := by omega
    have t := ahead_at (y := y) (show (1 : Int) ≤ 12 by omega)
    have u := (ahead_tab y).2.2.2.2.2.2.2.2.2.2.2.2
    simp only [show (12 : Int).toNat = 12 from rfl] at t
    rw [u] at t
    have v := first_step y
    refine ⟨by omega, ?_, by omega, by omega, by omega, by have := mlen_lo (y + 1) 1; omega, ?_⟩
    · apply Classical.byContradiction
      intro c
      have := first_mono (show 10000 ≤ y + 1 by omega)
      rw [first_10000] at this
      omega
    · rw [show ((1 : Int) - 1).toNat = 0 by rfl, ahead]; omega
theorem lp_cycle (y : Int) : lp (y + 400) = lp y := by
  have : leap (y + 400) ↔ leap y := by unfold leap; omega
  unfold lp; simp only [this]
theorem mlen_cycle (y m : Int) : mlen (y + 400) m = mlen y m := by unfold mlen; rw [lp_cycle]
theorem ahead_cycle (y : Int) (k : Nat) : ahead (y + 400) k = ahead y k := by
  induction k with
  | zero => rfl
  | succ k ih => rw [ahead, ahead, ih, mlen_cycle]
theorem first_cycle (y : Int) : first (y + 400) = first y + 146097 := by unfold first; omega
theorem Date.cycle {n y m d : Int} (h : Date n y m d) (hn : n + 146097 ≤ 3652059) : Date (n + 146097) (y + 400) m d := by
  obtain ⟨h1, h2, h3, h4, h5, h6, h7⟩ := h
  refine ⟨by omega, ?_, h3, h4, h5, by rw [mlen_cycle]; exact h6, by rw [first_cycle, ahead_cycle]; omega⟩
  apply Classical.byContradiction
  intro c
  have := first_mono (show 9600 ≤ y by omega)
  rw [show first 9600 = 3505962 by decide] at this
  have := ahead_mono y (show 0 ≤ (m - 1).toNat by omega)
  rw [ahead] at this
  omega

/-- two days in order are dates in order -/
theorem Date.order {n y m d n' y' m' d' : Int} (h : Date n y m d) (h' : Date n' y' m' d') (hn : n ≤ n') : y < y' ∨ (y = y' ∧ (m < m' ∨ (m = m' ∧ d ≤ d'))) := by
  have a := h.inYear
  have a' := h'.inYear
  have b := h.day
  have b' := h'.day
  rcases Int.lt_trichotomy y y' with c | c | c
  · exact Or.inl c
  · refine Or.inr ⟨c, ?_⟩
    subst c
    have := h.mlo; have := h'.mlo; have := h.dlo; have := h'.dlo; have := h.dhi; have := h'.dhi
    rcases Int.lt_trichotomy m m' with c | c | c
    · exact Or.inl c
    · subst c; exact Or.inr ⟨rfl, by omega⟩
    · have e := ahead_mono y (show (m' - 1).toNat + 1 ≤ (m - 1).toNat by omega)
      rw [ahead, show (((m' - 1).toNat : Nat) : Int) + 1 = m' by omega] at e
      omega
  · have s' := first_step y'
    have := first_mono (show y' + 1 ≤ y by omega); omega
/-- days of thirty a month -/
def thi (y m d : Int) : Int := 360 * y + 30 * m + min d 30
theorem thi_mono {n y m d n' y' m' d' : Int} (h : Date n y m d) (h' : Date n' y' m' d') (hn : n ≤ n') : thi y m d ≤ thi y' m' d' := by
  have := h.order h' hn
  have := h.mlo; have := h.mhi; have := h.dlo; have := h'.mlo; have := h'.mhi; have := h'.dlo
  unfold thi
  omega
theorem thi_bounds {n y m d : Int} (h : Date n y m d) : 391 ≤ thi y m d ∧ thi y m d ≤ 3600030 := by
  have := h.mlo; have := h.mhi; have := h.dlo; have := h.ylo; have := h.yhi
  unfold thi
  omega
/-- leap days' years: days ahead that lie in leap years -/
def lpd (n y : Int) : Int := 366 * ((y - 1) / 4 - (y - 1) / 100 + (y - 1) / 400) + (if leap y then n - (first y + 1) else 0)
def act (n y : Int) : Int := 366 * (n - 1) - lpd n y
theorem lps (y : Int) : y / 4 - y / 100 + y / 400 = (y - 1) / 4 - (y - 1) / 100 + (y - 1) / 400 + lp y := by
  by_cases h : leap y
  · rw [lp_yes h]; unfold leap at h; omega
  · rw [lp_no h]; unfold leap at h; omega
/-- what year a day lies in -/
def InY (n y : Int) : Prop := first y < n ∧ n ≤ first (y + 1)
theorem Date.inY {n y m d : Int} (h : Date n y m d) : InY n y := by
  have a := h.inYear
  have b := h.day
  have s := first_step y
  constructor <;> omega
theorem InY.uniq {n y y' : Int} (h : InY n y) (h' : InY n y') : y = y' := by
  rcases Int.lt_trichotomy y y' with c | c | c
  · have := first_mono (show y + 1 ≤ y' by omega); have := h.2; have := h'.1; omega
  · exact c
  · have := first_mono (show y' + 1 ≤ y by omega); have := h.1; have := h'.2; omega
theorem InY.succ {n y : Int} (h : InY n y) : InY (n + 1) y ∨ (n = first (y + 1) ∧ InY (n + 1) (y + 1)) := by
  obtain ⟨a, b⟩ := h
  have s := first_step (y + 1)
  have := lp_lo (y + 1)
  by_cases c : n + 1 ≤ first (y + 1)
  · exact Or.inl ⟨by omega, c⟩
  · exact Or.inr ⟨by omega, by omega, by omega⟩
theorem lpd_step {n y y' : Int} (h : InY n y) (h' : InY (n + 1) y') : lpd (n + 1) y' = lpd n y + lp y := by
  rcases h.succ with e | ⟨e1, e⟩
  · obtain rfl := e.uniq h'
    unfold lpd lp
    split <;> omega
  · obtain rfl := e.uniq h'
    have s := first_step y
    have t := lps y
    unfold lpd
    rw [show y + 1 - 1 = y by omega, t]
    by_cases hl : leap y
    · rw [if_pos hl, lp_yes hl] at *; split <;> omega
    · rw [if_neg hl, lp_no hl] at *; split <;> omega
theorem act_step {n y y' : Int} (h : InY n y) (h' : InY (n + 1) y') : act (n + 1) y' = act n y + (366 - lp y) := by
  have := lpd_step h h'
  unfold act; omega
theorem act_mono {n y n' y' : Int} (h : InY n y) (h' : InY n' y') (hn : n ≤ n') : act n y ≤ act n' y' := by
  obtain ⟨k, rfl⟩ : ∃ k : Nat, n' = n + k := ⟨(n' - n).toNat, by omega⟩
  clear hn
  induction k generalizing y' with
  | zero =>
    rw [show n + ((0 : Nat) : Int) = n by omega] at *
    obtain rfl := h.uniq h'
    omega
  | succ k ih =>
    rw [show n + ((k + 1 : Nat) : Int) = n + k + 1 by omega] at *
    have : ∃ z, InY (n + k) z := by
      by_cases c : first y' < n + k
      · exact ⟨y', c, by have := h'.2; omega⟩
      · refine ⟨y' - 1, ?_, ?_⟩
        · have s := first_step (y' - 1)
          rw [show y' - 1 + 1 = y' by omega] at s
          have := lp_lo (y' - 1)
          have := h'.1
          omega
        · rw [show y' - 1 + 1 = y' by omega]; omega
    obtain ⟨z, hz⟩ := this
    have a := ih hz
    have b := act_step hz h'
    have := lp_hi z
    omega
theorem lpd_bounds {n y : Int} (h : InY n y) (h1 : 1 ≤ y) (h2 : y ≤ 9999) : 0 ≤ lpd n y ∧ lpd n y ≤ 366 * 9999 ∧ 0 ≤ (y - 1) / 4 - (y - 1) / 100 + (y - 1) / 400 := by
  have a := h.1
  have b := h.2
  have s := first_step y
  have := lp_hi y
  unfold lpd
  split <;> omega
end Go.Proofs.YtfmmkbhaaifggaaDoor
