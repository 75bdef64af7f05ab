/- The calendar's arithmetic: days, years, months. -/
import Derived.WalkKit
namespace Go.Proofs.YtfmmkbhaaifggaaDoor
set_option linter.unusedVariables false

def leap (y : Int) : Prop := (y % 4 = 0 ∧ y % 100 ≠ 0) ∨ y % 400 = 0
instance (y : Int) : Decidable (leap y) := by unfold leap; exact inferInstance
def lp (y : Int) : Int := if leap y then 1 else 0
def mlen (y m : Int) : Int := if m = 2 then 28 + lp y else if m = 4 ∨ m = 6 ∨ m = 9 ∨ m = 11 then 30 else 31
/-- days ahead of a year -/
def first (y : Int) : Int := (y - 1) * 365 + (y - 1) / 4 - (y - 1) / 100 + (y - 1) / 400
/-- days of a year ahead of its month k + 1 -/
def ahead (y : Int) : Nat → Int
  | 0 => 0
  | k + 1 => ahead y k + mlen y (k + 1)
structure Date (n y m d : Int) : Prop where
  ylo : 1 ≤ y
  yhi : y ≤ 9999
  mlo : 1 ≤ m
  mhi : m ≤ 12
  dlo : 1 ≤ d
  dhi : d ≤ mlen y m
  day : n = first y + ahead y (m - 1).toNat + d

theorem lp_lo (y : Int) : 0 ≤ lp y := by unfold lp; split <;> omega
theorem lp_hi (y : Int) : lp y ≤ 1 := by unfold lp; split <;> omega
theorem lp_yes {y : Int} (h : leap y) : lp y = 1 := by unfold lp; rw [if_pos h]
theorem lp_no {y : Int} (h : ¬ leap y) : lp y = 0 := by unfold lp; rw [if_neg h]
theorem mlen_lo (y m : Int) : 28 ≤ mlen y m := by
  have := lp_lo y
  unfold mlen; split; omega; split <;> omega
theorem mlen_hi (y m : Int) : mlen y m ≤ 31 := by
  have := lp_hi y
  unfold mlen; split; omega; split <;> omega
theorem first_step (y : Int) : first (y + 1) = first y + 365 + lp y := by
  unfold first
  by_cases h : leap y
  · rw [lp_yes h]; unfold leap at h; omega
  · rw [lp_no h]; unfold leap at h; omega
theorem first_mono {a b : Int} (h : a ≤ b) : first a ≤ first b := by
  obtain ⟨k, rfl⟩ : ∃ k : Nat, b = a + k := ⟨(b - a).toNat, by omega⟩
  clear h
  induction k with
  | zero => simp
  | succ k ih =>
    have e := first_step (a + k)
    have := lp_lo (a + k)
    rw [show a + ((k + 1 : Nat) : Int) = a + k + 1 by omega]
    omega
theorem ahead_mono (y : Int) {a b : Nat} (h : a ≤ b) : ahead y a ≤ ahead y b := by
  induction h with
  | refl => omega
  | step _ ih => have := mlen_lo y (Nat.cast (R := Int) ‹Nat› + 1); rw [ahead]; omega
theorem ahead_tab (y : Int) : ahead y 0 = 0 ∧ ahead y 1 = 31 ∧ ahead y 2 = 59 + lp y ∧ ahead y 3 = 90 + lp y ∧ ahead y 4 = 120 + lp y ∧ ahead y 5 = 151 + lp y ∧ ahead y 6 = 181 + lp y
    ∧ ahead y 7 = 212 + lp y ∧ ahead y 8 = 243 + lp y ∧ ahead y 9 = 273 + lp y ∧ ahead y 10 = 304 + lp y ∧ ahead y 11 = 334 + lp y ∧ ahead y 12 = 365 + lp y := by
  simp [ahead, mlen]; omega
theorem Date.inYear {n y m d : Int} (h : Date n y m d) : 1 ≤ ahead y (m - 1).toNat + d ∧ ahead y (m - 1).toNat + d ≤ 365 + lp y := by
  have h1 := ahead_mono y (show 0 ≤ (m - 1).toNat by omega)
  have h2 := ahead_mono y (show (m - 1).toNat + 1 ≤ 12 by have := h.mhi; have := h.mlo; omega)
  have t := ahead_tab y
  rw [ahead] at h2
  have := h.mlo
  rw [show (((m - 1).toNat : Nat) : Int) + 1 = m by omega] at h2
  have := h.dlo
  have := h.dhi
  omega
theorem Date.year {n y m d y' m' d' : Int} (h : Date n y m d) (h' : Date n y' m' d') : y = y' := by
  have a := h.inYear
  have a' := h'.inYear
  have b := h.day
  have b' := h'.day
  have s := first_step y
  have s' := first_step y'
  rcases Int.lt_trichotomy y y' with c | c | c
  · have := first_mono (show y + 1 ≤ y' by omega); omega
  · exact c
  · have := first_mono (show y' + 1 ≤ y by omega); omega
theorem Date.month {n y m d m' d' : Int} (h : Date n y m d) (h' : Date n y m' d') : m = m' := by
  have b := h.day
  have b' := h'.day
  have := h.mlo; have := h'.mlo; have := h.dlo; have := h'.dlo; have := h.dhi; have := h'.dhi
  rcases Int.lt_trichotomy m m' with c | c | c
  · have e := ahead_mono y (show (m - 1).toNat + 1 ≤ (m' - 1).toNat by omega)
    rw [ahead, show (((m - 1).toNat : Nat) : Int) + 1 = m by omega] at e
    omega
  · exact c
  · have e := ahead_mono y (show (m' - 1).toNat + 1 ≤ (m - 1).toNat by omega)
    rw [ahead, show (((m' - 1).toNat : Nat) : Int) + 1 = m' by omega] at e
    omega
theorem Date.same {n y m d y' m' d' : Int} (h : Date n y m d) (h' : Date n y' m' d') : y = y' ∧ m = m' ∧ d = d' := by
  obtain rfl := h.year h'
  obtain rfl := h.month h'
  exact ⟨rfl, rfl, by have := h.day; have := h'.day; omega⟩
theorem first_1 : first 1 = 0 := by decide
theorem first_10000 : first 10000 = 3652059 := by decide
theorem Date.bounds {n y m d : Int} (h : Date n y m d) : 1 ≤ n ∧ n ≤ 3652059 := by
  have a := h.inYear
  have b := h.day
  have c := first_mono h.ylo
  have e := first_mono (show y + 1 ≤ 10000 by have := h.yhi; omega)
  rw [first_step, first_10000] at e
  rw [first_1] at c
  omega

/-- the parts of a day's place, as yearOf reckons them -/
theorem yearOf_spec (n a p c p2 q p3 k : Int) (h1 : 1 ≤ n) (h2 : n ≤ 3652059) (ha : a = (n - 1) / 146097) (hp : p = (n - 1) % 146097)
    (hc : c = min (p / 36524) 3) (hp2 : p2 = p - c * 36524) (hq : q = p2 / 1461) (hp3 : p3 = p2 % 1461) (hk : k = min (p3 / 365) 3) :
    n = first (1 + a * 400 + c * 100 + q * 4 + k) + (p3 - k * 365 + 1) ∧ 1 ≤ p3 - k * 365 + 1 ∧ p3 - k * 365 + 1 ≤ 365 + lp (1 + a * 400 + c * 100 + q * 4 + k) ∧ 1 ≤ 1 + a * 400 + c * 100 + q * 4 + k ∧ 1 + a * 400 + c * 100 + q * 4 + k ≤ 9999 := by
  have hc' : (c ≤ 2 ∧ c = p / 36524) ∨ (c = 3 ∧ 3 ≤ p / 36524) := by omega
  have hk' : (k ≤ 2 ∧ k = p3 / 365) ∨ (k = 3 ∧ 3 ≤ p3 / 365) := by omega
  clear hc hk
  have c0 : 0 ≤ c ∧ c ≤ 3 := by omega
  have q0 : 0 ≤ p2 ∧ p2 ≤ 36524 ∧ (c ≤ 2 → p2 ≤ 36523) := by omega
  have q1 : 0 ≤ q ∧ q ≤ 24 := by omega
  have k0 : 0 ≤ k ∧ k ≤ 3 := by omega
  have r0 : 0 ≤ p3 ∧ p3 ≤ 1460 := by omega
  have d0 : 0 ≤ p3 - k * 365 ∧ p3 - k * 365 ≤ 365 ∧ (k ≤ 2 → p3 - k * 365 ≤ 364) := by omega
  have a0 : 0 ≤ a ∧ a ≤ 24 := by omega
  have f1 : (1 + a * 400 + c * 100 + q * 4 + k - 1) / 4 = a * 100 + c * 25 + q := by omega
  have f2 : (1 + a * 400 + c * 100 + q * 4 + k - 1) / 100 = a * 4 + c := by omega
  have f3 : (1 + a * 400 + c * 100 + q * 4 + k - 1) / 400 = a := by omega
  refine ⟨?_, by omega, ?_, by omega, ?_⟩
  · unfold first; rw [f1, f2, f3]; omega
  · by_cases hl : leap (1 + a * 400 + c * 100 + q * 4 + k)
    · rw [lp_yes hl]; omega
    · rw [lp_no hl]
      have : ¬ (k = 3 ∧ (q ≤ 23 ∨ c = 3)) := by
        rintro ⟨rfl, e⟩
        apply hl
        unfold leap
        omega
      omega
  · omega

/-- the month of a place in a year -/
theorem month_ex (y D : Int) (h1 : 1 ≤ D) (h2 : D ≤ 365 + lp y) : ∃ m d : Int, 1 ≤ m ∧ m ≤ 12 ∧ 1 ≤ d ∧ d ≤ mlen y m ∧ D = ahead y (m - 1).toNat + d := by
  have h : ∀ k : Nat, k ≤ 12 → D ≤ ahead y k → ∃ m d : Int, 1 ≤ m ∧ m ≤ 12 ∧ 1 ≤ d ∧ d ≤ mlen y m ∧ D = ahead y (m - 1).toNat + d := by
    intro k
    induction k with
    | zero => intro _ e; rw [ahead] at e; omega
    | succ k ih =>
      intro hk e
      by_cases c : D ≤ ahead y k
      · exact ih (by omega) c
      · rw [ahead] at e
        exact ⟨(k : Int) + 1, D - ahead y k, by omega, by omega, by omega, by omega, by rw [show ((k : Int) + 1 - 1).toNat = k by omega]; omega⟩
  exact h 12 (by omega) (by have := ahead_tab y; omega)
theorem date_ex (n : Int) (h1 : 1 ≤ n) (h2 : n ≤ 3652059) : ∃ y m d, Date n y m d := by
  obtain ⟨e1, e2, e3, e4, e5⟩ := yearOf_spec n _ _ _ _ _ _ _ h1 h2 rfl rfl rfl rfl rfl rfl rfl
  obtain ⟨m, d, m1, m2, d1, d2, e⟩ := month_ex _ _ e2 e3
  exact ⟨_, m, d, e4, e5, m1, m2, d1, d2, by omega⟩
end Go.Proofs.YtfmmkbhaaifggaaDoor
