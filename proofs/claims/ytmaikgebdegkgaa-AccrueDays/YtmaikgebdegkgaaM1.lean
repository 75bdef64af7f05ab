/- The calendar's arithmetic: days, years, months. -/
import Derived.WalkKit
import Derived.Test.YtmaikgebdegkgaaProg
import Derived.WalkSpells
import Derived.WalkLawsBesides
import Derived.Handy
namespace Go.Proofs.Ytmaikgebdegkgaa.cb
set_option linter.unusedVariables false

def leap (y : Int) : Prop := (y % 4 = 0 ∧ y % 100 ≠ 0) ∨ y % 400 = 0
instance (y : Int) : Decidable (leap y) := by unfold leap; exact inferInstance
def lp (y : Int) : Int := if leap y then 1 else 0
def mlen (y m : Int) : Int := if m = 2 then 28 + lp y else if m = 4 ∨ m = 6 ∨ m = 9 ∨ m = 11 then 30 else 31
/-- days ahead of a year -/
def first (y : Int) : Int := (y - 1) * 365 + (y - 1) / 4 - (y - 1) / 100 + (y - 1) / 400
/-- days of a year ahead of its month k + 1 -/
def ahead (y : Int) : Nat → Int
  | 0 => 0
  | k + 1 => ahead y k + mlen y (k + 1)
structure Date (n y m d : Int) : Prop where
  ylo : 1 ≤ y
  yhi : y ≤ 9999
  mlo : 1 ≤ m
  mhi : m ≤ 12
  dlo : 1 ≤ d
  dhi : d ≤ mlen y m
  day : n = first y + ahead y (m - 1).toNat + d

theorem lp_lo (y : Int) : 0 ≤ lp y := by unfold lp; split <;> omega
theorem lp_hi (y : Int) : lp y ≤ 1 := by unfold lp; split <;> omega
theorem lp_yes {y : Int} (h : leap y) : lp y = 1 := by unfold lp; rw [if_pos h]
theorem lp_no {y : Int} (h : ¬ leap y) : lp y = 0 := by unfold lp; rw [if_neg h]
theorem mlen_lo (y m : Int) : 28 ≤ mlen y m := by
  have := lp_lo y
  unfold mlen; split; omega; split <;> omega
theorem mlen_hi (y m : Int) : mlen y m ≤ 31 := by
  have := lp_hi y
  unfold mlen; split; omega; split <;> omega
theorem first_step (y : Int) : first (y + 1) = first y + 365 + lp y := by
  unfold first
  by_cases h : leap y
  · rw [lp_yes h]; unfold leap at h; omega
  · rw [lp_no h]; unfold leap at h; omega
theorem first_mono {a b : Int} (h : a ≤ b) : first a ≤ first b := by
  obtain ⟨k, rfl⟩ : ∃ k : Nat, b = a + k := ⟨(b - a).toNat, by omega⟩
  clear h
  induction k with
  | zero => simp
  | succ k ih =>
    have e := first_step (a + k)
    have := lp_lo (a + k)
    rw [show a + ((k + 1 : Nat) : Int) = a + k + 1 by omega]
    omega
theorem ahead_mono (y : Int) {a b : Nat} (h : a ≤ b) : ahead y a ≤ ahead y b := by
  induction h with
  | refl => omega
  | step _ ih => have := mlen_lo y (Nat.cast (R := Int) ‹Nat› + 1); rw [ahead]; omega
theorem ahead_tab (y : Int) : ahead y 0 = 0 ∧ ahead y 1 = 31 ∧ ahead y 2 = 59 + lp y ∧ ahead y 3 = 90 + lp y ∧ ahead y 4 = 120 + lp y ∧ ahead y 5 = 151 + lp y ∧ ahead y 6 = 181 + lp y
    ∧ ahead y 7 = 212 + lp y ∧ ahead y 8 = 243 + lp y ∧ ahead y 9 = 273 + lp y ∧ ahead y 10 = 304 + lp y ∧ ahead y 11 = 334 + lp y ∧ ahead y 12 = 365 + lp y := by
  simp [ahead, mlen]; omega
theorem Date.inYear {n y m d : Int} (h : Date n y m d) : 1 ≤ ahead y (m - 1).toNat + d ∧ ahead y (m - 1).toNat + d ≤ 365 + lp y := by
  have h1 := ahead_mono y (show 0 ≤ (m - 1).toNat by omega)
  have h2 := ahead_mono y (show (m - 1).toNat + 1 ≤ 12 by have := h.mhi; have := h.mlo; omega)
  have t := ahead_tab y
  rw [ahead] at h2
  have := h.mlo
  rw [show (((m - 1).toNat : Nat) : Int) + 1 = m by omega] at h2
  have := h.dlo
  have := h.dhi
  omega
theorem Date.year {n y m d y' m' d' : Int} (h : Date n y m d) (h' : Date n y' m' d') : y = y' := by
  have a := h.inYear
  have a' := h'.inYear
  have b := h.day
  have b' := h'.day
  have s := first_step y
  have s' := first_step y'
  rcases Int.lt_trichotomy y y' with c | c | c
  · have := first_mono (show y + 1 ≤ y' by omega); omega
  · exact c
  · have := first_mono (show y' + 1 ≤ y by omega); omega
theorem Date.month {n y m d m' d' : Int} (h : Date n y m d) (h' : Date n y m' d') : m = m' := by
  have b := h.day
  have b' := h'.day
  have := h.mlo; have := h'.mlo; have := h.dlo; have := h'.dlo; have := h.dhi; have := h'.dhi
  rcases Int.lt_trichotomy m m' with c | c | c
  · have e := ahead_mono y (show (m - 1).toNat + 1 ≤ (m' - 1).toNat by omega)
    rw [ahead, show (((m - 1).toNat : Nat) : Int) + 1 = m by omega] at e
    omega
  · exact c
  · have e := ahead_mono y (show (m' - 1).toNat + 1 ≤ (m - 1).toNat by omega)
    rw [ahead, show (((m' - 1).toNat : Nat) : Int) + 1 = m' by omega] at e
    omega
theorem Date.same {n y m d y' m' d' : Int} (h : Date n y m d) (h' : Date n y' m' d') : y = y' ∧ m = m' ∧ d = d' := by
  obtain rfl := h.year h'
  obtain rfl := h.month h'
  exact ⟨rfl, rfl, by have := h.day; have := h'.day; omega⟩
theorem first_1 : first 1 = 0 := by decide
theorem first_10000 : first 10000 = 3652059 := by decide
theorem Date.bounds {n y m d : Int} (h : Date n y m d) : 1 ≤ n ∧ n ≤ 3652059 := by
  have a := h.inYear
  have b := h.day
  have c := first_mono h.ylo
  have e := first_mono (show y + 1 ≤ 10000 by have := h.yhi; omega)
  rw [first_step, first_10000] at e
  rw [first_1] at c
  omega

/-- the parts of a day's place, as yearOf reckons them -/
theorem yearOf_spec (n a p c p2 q p3 k : Int) (h1 : 1 ≤ n) (h2 : n ≤ 3652059) (ha : a = (n - 1) / 146097) (hp : p = (n - 1) % 146097)
    (hc : c = min (p / 36524) 3) (hp2 : p2 = p - c * 36524) (hq : q = p2 / 1461) (hp3 : p3 = p2 % 1461) (hk : k = min (p3 / 365) 3) :
    n = first (1 + a * 400 + c * 100 + q * 4 + k) + (p3 - k * 365 + 1) ∧ 1 ≤ p3 - k * 365 + 1 ∧ p3 - k * 365 + 1 ≤ 365 + lp (1 + a * 400 + c * 100 + q * 4 + k) ∧ 1 ≤ 1 + a * 400 + c * 100 + q * 4 + k ∧ 1 + a * 400 + c * 100 + q * 4 + k ≤ 9999 := by
  have hc' : (c ≤ 2 ∧ c = p / 36524) ∨ (c = 3 ∧ 3 ≤ p / 36524) := by omega
  have hk' : (k ≤ 2 ∧ k = p3 / 365) ∨ (k = 3 ∧ 3 ≤ p3 / 365) := by omega
  clear hc hk
  have c0 : 0 ≤ c ∧ c ≤ 3 := by omega
  have q0 : 0 ≤ p2 ∧ p2 ≤ 36524 ∧ (c ≤ 2 → p2 ≤ 36523) := by omega
  have q1 : 0 ≤ q ∧ q ≤ 24 := by omega
  have k0 : 0 ≤ k ∧ k ≤ 3 := by omega
  have r0 : 0 ≤ p3 ∧ p3 ≤ 1460 := by omega
  have d0 : 0 ≤ p3 - k * 365 ∧ p3 - k * 365 ≤ 365 ∧ (k ≤ 2 → p3 - k * 365 ≤ 364) := by omega
  have a0 : 0 ≤ a ∧ a ≤ 24 := by omega
  have f1 : (1 + a * 400 + c * 100 + q * 4 + k - 1) / 4 = a * 100 + c * 25 + q := by omega
  have f2 : (1 + a * 400 + c * 100 + q * 4 + k - 1) / 100 = a * 4 + c := by omega
  have f3 : (1 + a * 400 + c * 100 + q * 4 + k - 1) / 400 = a := by omega
  refine ⟨?_, by omega, ?_, by omega, ?_⟩
  · unfold first; rw [f1, f2, f3]; omega
  · by_cases hl : leap (1 + a * 400 + c * 100 + q * 4 + k)
    · rw [lp_yes hl]; omega
    · rw [lp_no hl]
      have : ¬ (k = 3 ∧ (q ≤ 23 ∨ c = 3)) := by
        rintro ⟨rfl, e⟩
        apply hl
        unfold leap
        omega
      omega
  · omega

/-- the month of a place in a year -/
theorem month_ex (y D : Int) (h1 : 1 ≤ D) (h2 : D ≤ 365 + lp y) : ∃ m d : Int, 1 ≤ m ∧ m ≤ 12 ∧ 1 ≤ d ∧ d ≤ mlen y m ∧ D = ahead y (m - 1).toNat + d := by
  have h : ∀ k : Nat, k ≤ 12 → D ≤ ahead y k → ∃ m d : Int, 1 ≤ m ∧ m ≤ 12 ∧ 1 ≤ d ∧ d ≤ mlen y m ∧ D = ahead y (m - 1).toNat + d := by
    intro k
    induction k with
    | zero => intro _ e; rw [ahead] at e; omega
    | succ k ih =>
      intro hk e
      by_cases c : D ≤ ahead y k
      · exact ih (by omega) c
      · rw [ahead] at e
        exact ⟨(k : Int) + 1, D - ahead y k, by omega, by omega, by omega, by omega, by rw [show ((k : Int) + 1 - 1).toNat = k by omega]; omega⟩
  exact h 12 (by omega) (by have := ahead_tab y; omega)
theorem date_ex (n : Int) (h1 : 1 ≤ n) (h2 : n ≤ 3652059) : ∃ y m d, Date n y m d := by
  obtain ⟨e1, e2, e3, e4, e5⟩ := yearOf_spec n _ _ _ _ _ _ _ h1 h2 rfl rfl rfl rfl rfl rfl rfl
  obtain ⟨m, d, m1, m2, d1, d2, e⟩ := month_ex _ _ e2 e3
  exact ⟨_, m, d, e4, e5, m1, m2, d1, d2, by omega⟩
end Go.Proofs.Ytmaikgebdegkgaa.cb
/- The calendar's arithmetic: the next day, four hundred years, parts of years. -/
namespace Go.Proofs.Ytmaikgebdegkgaa.cb
set_option linter.unusedVariables false

theorem ahead_at {y m : Int} (h : 1 ≤ m) : ahead y m.toNat = ahead y (m - 1).toNat + mlen y m := by
  rw [show m.toNat = (m - 1).toNat + 1 by omega, ahead, show (((m - 1).toNat : Nat) : Int) + 1 = m by omega]
theorem Date.next {n y m d : Int} (h : Date n y m d) (hn : n < 3652059) :
    (d < mlen y m → Date (n + 1) y m (d + 1)) ∧ (d = mlen y m → m < 12 → Date (n + 1) y (m + 1) 1) ∧ (d = mlen y m → ¬ m < 12 → Date (n + 1) (y + 1) 1 1) := by
  obtain ⟨h1, h2, h3, h4, h5, h6, h7⟩ := h
  refine ⟨fun e => ⟨h1, h2, h3, h4, by omega, by omega, by omega⟩, fun e e2 => ⟨h1, h2, by omega, by omega, by omega, by have := mlen_lo y (m + 1); omega, ?_⟩, fun e e2 => ?_⟩
  · rw [show m + 1 - 1 = m by omega, ahead_at h3]; omega
  · obtain rfl : m = 12 := by omega
    have t := ahead_at (y := y) (show (1 : Int) ≤ 12 by omega)
    have u := (ahead_tab y).2.2.2.2.2.2.2.2.2.2.2.2
    simp only [show (12 : Int).toNat = 12 from rfl] at t
    rw [u] at t
    have v := first_step y
    refine ⟨by omega, ?_, by omega, by omega, by omega, by have := mlen_lo (y + 1) 1; omega, ?_⟩
    · apply Classical.byContradiction
      intro c
      have := first_mono (show 10000 ≤ y + 1 by omega)
      rw [first_10000] at this
      omega
    · rw [show ((1 : Int) - 1).toNat = 0 by rfl, ahead]; omega
theorem lp_cycle (y : Int) : lp (y + 400) = lp y := by
  have : leap (y + 400) ↔ leap y := by unfold leap; omega
  unfold lp; simp only [this]
theorem mlen_cycle (y m : Int) : mlen (y + 400) m = mlen y m := by unfold mlen; rw [lp_cycle]
theorem ahead_cycle (y : Int) (k : Nat) : ahead (y + 400) k = ahead y k := by
  induction k with
  | zero => rfl
  | succ k ih => rw [ahead, ahead, ih, mlen_cycle]
theorem first_cycle (y : Int) : first (y + 400) = first y + 146097 := by unfold first; omega
theorem Date.cycle {n y m d : Int} (h : Date n y m d) (hn : n + 146097 ≤ 3652059) : Date (n + 146097) (y + 400) m d := by
  obtain ⟨h1, h2, h3, h4, h5, h6, h7⟩ := h
  refine ⟨by omega, ?_, h3, h4, h5, by rw [mlen_cycle]; exact h6, by rw [first_cycle, ahead_cycle]; omega⟩
  apply Classical.byContradiction
  intro c
  have := first_mono (show 9600 ≤ y by omega)
  rw [show first 9600 = 3505962 by decide] at this
  have := ahead_mono y (show 0 ≤ (m - 1).toNat by omega)
  rw [ahead] at this
  omega

/-- two days in order are dates in order -/
theorem Date.order {n y m d n' y' m' d' : Int} (h : Date n y m d) (h' : Date n' y' m' d') (hn : n ≤ n') : y < y' ∨ (y = y' ∧ (m < m' ∨ (m = m' ∧ d ≤ d'))) := by
  have a := h.inYear
  have a' := h'.inYear
  have b := h.day
  have b' := h'.day
  rcases Int.lt_trichotomy y y' with c | c | c
  · exact Or.inl c
  · refine Or.inr ⟨c, ?_⟩
    subst c
    have := h.mlo; have := h'.mlo; have := h.dlo; have := h'.dlo; have := h.dhi; have := h'.dhi
    rcases Int.lt_trichotomy m m' with c | c | c
    · exact Or.inl c
    · subst c; exact Or.inr ⟨rfl, by omega⟩
    · have e := ahead_mono y (show (m' - 1).toNat + 1 ≤ (m - 1).toNat by omega)
      rw [ahead, show (((m' - 1).toNat : Nat) : Int) + 1 = m' by omega] at e
      omega
  · have s' := first_step y'
    have := first_mono (show y' + 1 ≤ y by omega); omega
/-- days of thirty a month -/
def thi (y m d : Int) : Int := 360 * y + 30 * m + min d 30
theorem thi_mono {n y m d n' y' m' d' : Int} (h : Date n y m d) (h' : Date n' y' m' d') (hn : n ≤ n') : thi y m d ≤ thi y' m' d' := by
  have := h.order h' hn
  have := h.mlo; have := h.mhi; have := h.dlo; have := h'.mlo; have := h'.mhi; have := h'.dlo
  unfold thi
  omega
theorem thi_bounds {n y m d : Int} (h : Date n y m d) : 391 ≤ thi y m d ∧ thi y m d ≤ 3600030 := by
  have := h.mlo; have := h.mhi; have := h.dlo; have := h.ylo; have := h.yhi
  unfold thi
  omega
/-- leap days' years: days ahead that lie in leap years -/
def lpd (n y : Int) : Int := 366 * ((y - 1) / 4 - (y - 1) / 100 + (y - 1) / 400) + (if leap y then n - (first y + 1) else 0)
def act (n y : Int) : Int := 366 * (n - 1) - lpd n y
theorem lps (y : Int) : y / 4 - y / 100 + y / 400 = (y - 1) / 4 - (y - 1) / 100 + (y - 1) / 400 + lp y := by
  by_cases h : leap y
  · rw [lp_yes h]; unfold leap at h; omega
  · rw [lp_no h]; unfold leap at h; omega
/-- what year a day lies in -/
def InY (n y : Int) : Prop := first y < n ∧ n ≤ first (y + 1)
theorem Date.inY {n y m d : Int} (h : Date n y m d) : InY n y := by
  have a := h.inYear
  have b := h.day
  have s := first_step y
  constructor <;> omega
theorem InY.uniq {n y y' : Int} (h : InY n y) (h' : InY n y') : y = y' := by
  rcases Int.lt_trichotomy y y' with c | c | c
  · have := first_mono (show y + 1 ≤ y' by omega); have := h.2; have := h'.1; omega
  · exact c
  · have := first_mono (show y' + 1 ≤ y by omega); have := h.1; have := h'.2; omega
theorem InY.succ {n y : Int} (h : InY n y) : InY (n + 1) y ∨ (n = first (y + 1) ∧ InY (n + 1) (y + 1)) := by
  obtain ⟨a, b⟩ := h
  have s := first_step (y + 1)
  have := lp_lo (y + 1)
  by_cases c : n + 1 ≤ first (y + 1)
  · exact Or.inl ⟨by omega, c⟩
  · exact Or.inr ⟨by omega, by omega, by omega⟩
theorem lpd_step {n y y' : Int} (h : InY n y) (h' : InY (n + 1) y') : lpd (n + 1) y' = lpd n y + lp y := by
  rcases h.succ with e | ⟨e1, e⟩
  · obtain rfl := e.uniq h'
    unfold lpd lp
    split <;> omega
  · obtain rfl := e.uniq h'
    have s := first_step y
    have t := lps y
    unfold lpd
    rw [show y + 1 - 1 = y by omega, t]
    by_cases hl : leap y
    · rw [if_pos hl, lp_yes hl] at *; split <;> omega
    · rw [if_neg hl, lp_no hl] at *; split <;> omega
theorem act_step {n y y' : Int} (h : InY n y) (h' : InY (n + 1) y') : act (n + 1) y' = act n y + (366 - lp y) := by
  have := lpd_step h h'
  unfold act; omega
theorem act_mono {n y n' y' : Int} (h : InY n y) (h' : InY n' y') (hn : n ≤ n') : act n y ≤ act n' y' := by
  obtain ⟨k, rfl⟩ : ∃ k : Nat, n' = n + k := ⟨(n' - n).toNat, by omega⟩
  clear hn
  induction k generalizing y' with
  | zero =>
    rw [show n + ((0 : Nat) : Int) = n by omega] at *
    obtain rfl := h.uniq h'
    omega
  | succ k ih =>
    rw [show n + ((k + 1 : Nat) : Int) = n + k + 1 by omega] at *
    have : ∃ z, InY (n + k) z := by
      by_cases c : first y' < n + k
      · exact ⟨y', c, by have := h'.2; omega⟩
      · refine ⟨y' - 1, ?_, ?_⟩
        · have s := first_step (y' - 1)
          rw [show y' - 1 + 1 = y' by omega] at s
          have := lp_lo (y' - 1)
          have := h'.1
          omega
        · rw [show y' - 1 + 1 = y' by omega]; omega
    obtain ⟨z, hz⟩ := this
    have a := ih hz
    have b := act_step hz h'
    have := lp_hi z
    omega
theorem lpd_bounds {n y : Int} (h : InY n y) (h1 : 1 ≤ y) (h2 : y ≤ 9999) : 0 ≤ lpd n y ∧ lpd n y ≤ 366 * 9999 ∧ 0 ≤ (y - 1) / 4 - (y - 1) / 100 + (y - 1) / 400 := by
  have a := h.1
  have b := h.2
  have s := first_step y
  have := lp_hi y
  unfold lpd
  split <;> omega
end Go.Proofs.Ytmaikgebdegkgaa.cb
/- The contracts of cal's inner functions. -/
namespace Go.Proofs.Ytmaikgebdegkgaa.cb
open Go.RowKit
set_option linter.unusedVariables false

theorem isYear_yes (y : Int) (w : World) (h1 : 1 ≤ y) (h2 : y ≤ 9999) :
    Calls Try.prog 105 #[.int .i64 y] w fun e w' => e = .returned (.bool true) ∧ w' = w := by
  go_enter Try.func105, Try.ntmps105
  go_wp2
  go_ret
  exact ⟨rfl, rfl⟩
theorem isMonth_yes (y : Int) (w : World) (h1 : 1 ≤ y) (h2 : y ≤ 12) :
    Calls Try.prog 106 #[.int .i64 y] w fun e w' => e = .returned (.bool true) ∧ w' = w := by
  go_enter Try.func106, Try.ntmps106
  go_wp2
  go_ret
  exact ⟨rfl, rfl⟩
theorem isDay_yes (y : Int) (w : World) (h1 : 1 ≤ y) (h2 : y ≤ 3652059) :
    Calls Try.prog 90 #[.int .i64 y] w fun e w' => e = .returned (.bool true) ∧ w' = w := by
  go_enter Try.func90, Try.ntmps90
  go_wp2
  go_ret
  exact ⟨rfl, rfl⟩
theorem isLeap_ok (y : Int) (w : World) (h1 : 0 ≤ y) :
    Calls Try.prog 110 #[.int .i64 y] w fun e w' => e = .returned (.bool (decide (leap y))) ∧ w' = w := by
  unfold leap
  go_enter Try.func110, Try.ntmps110
  go_wp2
  all_goals go_ret
  all_goals exact ⟨by simp [*, Bool.beq_eq_decide_eq], rfl⟩
theorem length_ok (y m : Int) (w : World) (h1 : 0 ≤ y) :
    Calls Try.prog 103 #[.int .i64 y, .int .i64 m] w fun e w' => e = .returned (.int .i64 (mlen y m)) ∧ w' = w := by
  by_cases h2 : m = 2
  · subst h2
    by_cases hl : leap y
    · have e : mlen y 2 = 29 := by simp [mlen, lp, hl]
      rw [e]
      go_enter Try.func103, Try.ntmps103
      go_wp2_with (go_at_call 110; refine (isLeap_ok y _ h1).mono ?_; rintro e w1 ⟨rfl, rfl⟩)
      go_ret
      exact ⟨rfl, rfl⟩
    · have e : mlen y 2 = 28 := by simp [mlen, lp, hl]
      rw [e]
      go_enter Try.func103, Try.ntmps103
      go_wp2_with (go_at_call 110; refine (isLeap_ok y _ h1).mono ?_; rintro e w1 ⟨rfl, rfl⟩)
      go_ret
      exact ⟨rfl, rfl⟩
  · by_cases h4 : m = 4 ∨ m = 6 ∨ m = 9 ∨ m = 11
    · have e : mlen y m = 30 := by unfold mlen; rw [if_neg h2, if_pos h4]
      rw [e]
      clear e
      rcases h4 with rfl | rfl | rfl | rfl <;>
      · go_enter Try.func103, Try.ntmps103
        go_wp2
        go_ret
        exact ⟨rfl, rfl⟩
    · have e : mlen y m = 31 := by unfold mlen; rw [if_neg h2, if_neg h4]
      rw [e]
      clear e
      have h4a : m ≠ 4 := by omega
      have h4b : m ≠ 6 := by omega
      have h4c : m ≠ 9 := by omega
      have h4d : m ≠ 11 := by omega
      clear h4
      go_enter Try.func103, Try.ntmps103
      go_wp2
      go_ret
      exact ⟨rfl, rfl⟩
theorem number_ok (y m d : Int) (w : World) (h1 : 1 ≤ y) (h2 : y ≤ 9999) (h3 : 1 ≤ m) (h4 : m ≤ 12) (h5 : 1 ≤ d) (h6 : d ≤ 31) :
    Calls Try.prog 107 #[.int .i64 y, .int .i64 m, .int .i64 d] w fun e w' => e = .returned (.int .i64 (first y + ahead y (m - 1).toNat + d)) ∧ w' = w := by
  unfold first
  go_enter Try.func107, Try.ntmps107
  go_wp2
  go_loop [8, 25] (fun t i => ∃ k : Nat, (k : Int) ≤ m - 1 ∧ i = .int .i64 k ∧ t = .int .i64 ((y - 1) * 365 + (y - 1) / 4 - (y - 1) / 100 + (y - 1) / 400 + ahead y k)) (fun _ i => (m - 1).toNat - (intOf i).toNat)
  case atStart => exact ⟨0, by omega, rfl, by simp [ahead]⟩
  case round =>
    obtain ⟨k, hk, rfl, rfl⟩ := hrel
    have hm1 := mlen_lo y (k + 1)
    have hm2 := mlen_hi y (k + 1)
    have ha1 := ahead_mono y (show 0 ≤ k by omega)
    have ha2 := ahead_mono y (show k ≤ 12 by omega)
    rw [(ahead_tab y).1] at ha1
    rw [(ahead_tab y).2.2.2.2.2.2.2.2.2.2.2.2] at ha2
    have hl := lp_hi y
    go_wp2_with (go_at_call 103; refine (length_ok y _ _ (by omega)).mono ?_; rintro e w1 ⟨rfl, rfl⟩)
    · exact ⟨⟨k + 1, by omega, by go_num, by rw [ahead]; simp; omega⟩, by simp [intOf]; omega⟩
    · go_ret
      exact ⟨by rw [show m.toNat - 1 = k by omega]; rfl, rfl⟩
theorem yearOf_end (n y a p c p2 q p3 k : Int) (h1 : 1 ≤ n) (h2 : n ≤ 3652059) (hy : InY n y) (ha : a = (n - 1) / 146097) (hp : p = (n - 1) % 146097)
    (hc : c = min (p / 36524) 3) (hp2 : p2 = p - c * 36524) (hq : q = p2 / 1461) (hp3 : p3 = p2 % 1461) (hk : k = min (p3 / 365) 3) :
    1 + a * 400 + c * 100 + q * 4 + k = y ∧ p3 - k * 365 + 1 = n - first y := by
  obtain ⟨e1, e2, e3, e4, e5⟩ := yearOf_spec n a p c p2 q p3 k h1 h2 ha hp hc hp2 hq hp3 hk
  have e : 1 + a * 400 + c * 100 + q * 4 + k = y := by
    refine InY.uniq (n := n) ⟨by omega, ?_⟩ hy
    rw [first_step]; omega
  rw [e] at e1
  exact ⟨e, by omega⟩
set_option maxRecDepth 100000 in
theorem yearOf_ok (n y : Int) (w : World) (h1 : 1 ≤ n) (h2 : n ≤ 3652059) (hy : InY n y) :
    Calls Try.prog 102 #[.int .i64 n] w fun e w' => e = .returned (.tuple #[.int .i64 y, .int .i64 (n - first y)]) ∧ w' = w := by
  have HY : Hid (InY n y) := hy
  clear hy
  go_enter Try.func102, Try.ntmps102
  go_wp2
  case inl.inl =>
    obtain ⟨e1, e2⟩ := yearOf_end n y _ _ 3 _ _ _ 3 h1 h2 HY.out rfl rfl (by omega) rfl rfl rfl (by omega)
    refine bodyPost_ret (v := .tuple #[.int .i64 y, .int .i64 (n - first y)]) (by simp [results, Try.results102, go_sem]; omega) rfl ⟨rfl, rfl⟩
  case inr.inl =>
    obtain ⟨e1, e2⟩ := yearOf_end n y _ _ _ _ _ _ 3 h1 h2 HY.out rfl rfl (show (n - 1) % 146097 / 36524 = _ by omega) rfl rfl rfl (by omega)
    refine bodyPost_ret (v := .tuple #[.int .i64 y, .int .i64 (n - first y)]) (by simp [results, Try.results102, go_sem]; omega) rfl ⟨rfl, rfl⟩
  case inr.inr =>
    obtain ⟨e1, e2⟩ := yearOf_end n y _ _ _ _ _ _ _ h1 h2 HY.out rfl rfl (show (n - 1) % 146097 / 36524 = _ by omega) rfl rfl rfl (show ((n - 1) % 146097 - (n - 1) % 146097 / 36524 * 36524) % 1461 / 365 = _ by omega)
    refine bodyPost_ret (v := .tuple #[.int .i64 y, .int .i64 (n - first y)]) (by simp [results, Try.results102, go_sem]; omega) rfl ⟨rfl, rfl⟩
  all_goals
    obtain ⟨e1, e2⟩ := yearOf_end n y _ _ 3 _ _ _ _ h1 h2 HY.out rfl rfl (by omega) rfl rfl rfl (show ((n - 1) % 146097 - 3 * 36524) % 1461 / 365 = _ by omega)
    refine bodyPost_ret (v := .tuple #[.int .i64 y, .int .i64 (n - first y)]) (by simp [results, Try.results102, go_sem]; omega) rfl ⟨rfl, rfl⟩
set_option maxRecDepth 100000 in
theorem civil_ok (n y m d : Int) (w : World) (D : Date n y m d) :
    Calls Try.prog 91 #[.int .i64 n] w fun e w' => e = .returned (.tuple #[.int .i64 y, .int .i64 m, .int .i64 d]) ∧ w' = w := by
  obtain ⟨b1, b2⟩ := D.bounds
  have hI := D.inY
  obtain ⟨y1, y2, m1, m2, d1, d2, e⟩ := D
  have HI : Hid (InY n y) := hI
  have HE : Hid (n = first y + ahead y (m - 1).toNat + d) := e
  have HD : Hid (d ≤ mlen y m) := d2
  clear hI e d2
  obtain ⟨A, hA⟩ : ∃ A, A = ahead y (m - 1).toNat + d := ⟨_, rfl⟩
  have HA : Hid (A = ahead y (m - 1).toNat + d) := hA
  clear hA
  go_enter Try.func91, Try.ntmps91
  go_wp2_with (go_at_call 102; refine (yearOf_ok n y _ b1 b2 HI.out).mono ?_; rintro e w1 ⟨rfl, rfl⟩)
  go_loop [4, 11] (fun t i => ∃ k : Nat, (k : Int) ≤ m - 1 ∧ i = .int .i64 k ∧ t = .int .i64 (A - ahead y k)) (fun _ i => 12 - (intOf i).toNat)
  case atStart =>
    have := HE.out
    have := HA.out
    exact ⟨0, by omega, rfl, by rw [ahead]; congr 1; omega⟩
  case round =>
    obtain ⟨k, hk, rfl, rfl⟩ := hrel
    have hm1 := mlen_lo y (k + 1)
    have hm2 := mlen_hi y (k + 1)
    have ha1 := ahead_mono y (show 0 ≤ k by omega)
    have ha2 := ahead_mono y (show (m - 1).toNat ≤ 12 by omega)
    rw [(ahead_tab y).1] at ha1
    rw [(ahead_tab y).2.2.2.2.2.2.2.2.2.2.2.2] at ha2
    have hl := lp_hi y
    have hml := mlen_hi y m
    have hd := HD.out
    have hA := HA.out
    by_cases hkm : (k : Int) = m - 1
    · obtain rfl : m = (k : Int) + 1 := by omega
      have t2 : A = ahead y k + d := by rw [hA, show ((k : Int) + 1 - 1).toNat = k by omega]
      have t1 : A - ahead y k ≤ mlen y (k + 1) := by omega
      clear hA hkm
      subst t2
      go_wp2_with (go_at_call 103; refine (length_ok y _ _ (by omega)).mono ?_; rintro e w1 ⟨rfl, rfl⟩)
      refine bodyPost_ret (v := .tuple #[.int .i64 y, .int .i64 (k + 1), .int .i64 d]) (by simp [results, Try.results91, go_sem]; omega) rfl ⟨rfl, rfl⟩
    · have t1 := ahead_mono y (show k + 1 ≤ (m - 1).toNat by omega)
      rw [ahead] at t1
      have t2 : A - ahead y k > mlen y (k + 1) := by omega
      have t3 : A ≤ 400 := by omega
      clear hA ha2 t1
      go_wp2_with (go_at_call 103; refine (length_ok y _ _ (by omega)).mono ?_; rintro e w1 ⟨rfl, rfl⟩)
      exact ⟨⟨k + 1, by omega, by go_num, by rw [ahead]; congr 1; omega⟩, by simp [intOf]; omega⟩
end Go.Proofs.Ytmaikgebdegkgaa.cb
/- The contracts of cal's and basis' functions, of right arguments. -/
namespace Go.Proofs.Ytmaikgebdegkgaa.cb
open Go.RowKit
set_option linter.unusedVariables false

theorem Date.d31 {n y m d : Int} (D : Date n y m d) : d ≤ 31 := by have := D.dhi; have := mlen_hi y m; omega
theorem Number_ok (n y m d : Int) (w : World) (D : Date n y m d) :
    Calls Try.prog 93 #[.int .i64 y, .int .i64 m, .int .i64 d] w fun e w' => e = .returned (.tuple #[.int .i64 n, .int .i64 0]) ∧ w' = w := by
  have h31 := D.d31
  obtain ⟨y1, y2, m1, m2, d1, d2, e⟩ := D
  subst e
  have hd0 : decide (d < 1) = false := decide_eq_false (by omega)
  have hd1 : decide (mlen y m < d) = false := decide_eq_false (by omega)
  go_enter Try.func93, Try.ntmps93
  go_wp2_with (first | (go_at_call 105; refine (isYear_yes _ _ y1 y2).mono ?_; rintro e w1 ⟨rfl, rfl⟩) | (go_at_call 106; refine (isMonth_yes _ _ m1 m2).mono ?_; rintro e w1 ⟨rfl, rfl⟩) | (go_at_call 103; refine (length_ok y m _ (by omega)).mono ?_; rintro e w1 ⟨rfl, rfl⟩) | (go_at_call 107; refine (number_ok y m d _ y1 y2 m1 m2 d1 h31).mono ?_; rintro e w1 ⟨rfl, rfl⟩))
  refine bodyPost_ret (v := .tuple #[.int .i64 (first y + ahead y (m - 1).toNat + d), .int .i64 0]) (by simp [results, Try.results93, go_sem]) rfl ⟨rfl, rfl⟩
theorem Civil_ok (n y m d : Int) (w : World) (D : Date n y m d) :
    Calls Try.prog 73 #[.int .i64 n] w fun e w' => e = .returned (.tuple #[.int .i64 y, .int .i64 m, .int .i64 d, .int .i64 0]) ∧ w' = w := by
  obtain ⟨b1, b2⟩ := D.bounds
  go_enter Try.func73, Try.ntmps73
  go_wp2_with (first | (go_at_call 90; refine (isDay_yes _ _ b1 b2).mono ?_; rintro e w1 ⟨rfl, rfl⟩) | (go_at_call 91; refine (civil_ok n y m d _ D).mono ?_; rintro e w1 ⟨rfl, rfl⟩))
  refine bodyPost_ret (v := .tuple #[.int .i64 y, .int .i64 m, .int .i64 d, .int .i64 0]) (by simp [results, Try.results73, go_sem]) rfl ⟨rfl, rfl⟩
theorem Length_ok (y m : Int) (w : World) (y1 : 1 ≤ y) (y2 : y ≤ 9999) (m1 : 1 ≤ m) (m2 : m ≤ 12) :
    Calls Try.prog 104 #[.int .i64 y, .int .i64 m] w fun e w' => e = .returned (.tuple #[.int .i64 (mlen y m), .int .i64 0]) ∧ w' = w := by
  go_enter Try.func104, Try.ntmps104
  go_wp2_with (first | (go_at_call 105; refine (isYear_yes _ _ y1 y2).mono ?_; rintro e w1 ⟨rfl, rfl⟩) | (go_at_call 106; refine (isMonth_yes _ _ m1 m2).mono ?_; rintro e w1 ⟨rfl, rfl⟩) | (go_at_call 103; refine (length_ok y m _ (by omega)).mono ?_; rintro e w1 ⟨rfl, rfl⟩))
  refine bodyPost_ret (v := .tuple #[.int .i64 (mlen y m), .int .i64 0]) (by simp [results, Try.results104, go_sem]) rfl ⟨rfl, rfl⟩

/-- the day that is k months later -/
def shy (y m k : Int) : Int := ((y - 1) * 12 + m - 1 + k) / 12 + 1
def shm (y m k : Int) : Int := ((y - 1) * 12 + m - 1 + k) % 12 + 1
def shd (y m d k : Int) : Int := min d (mlen (shy y m k) (shm y m k))
def shn (y m d k : Int) : Int := first (shy y m k) + ahead (shy y m k) (shm y m k - 1).toNat + shd y m d k
theorem Date.shift {n y m d : Int} (D : Date n y m d) (k : Int) (h1 : 0 ≤ (y - 1) * 12 + m - 1 + k) (h2 : (y - 1) * 12 + m - 1 + k ≤ 119987) : Date (shn y m d k) (shy y m k) (shm y m k) (shd y m d k) := by
  have := D.dlo
  have := mlen_lo (shy y m k) (shm y m k)
  refine ⟨?_, ?_, ?_, ?_, ?_, ?_, rfl⟩
  · unfold shy; omega
  · unfold shy; omega
  · unfold shm; omega
  · unfold shm; omega
  · unfold shd; omega
  · unfold shd; omega
theorem bIsDay_yes (y : Int) (w : World) (h1 : 1 ≤ y) (h2 : y ≤ 3652059) :
    Calls Try.prog 72 #[.int .i64 y] w fun e w' => e = .returned (.bool true) ∧ w' = w := by
  go_enter Try.func72, Try.ntmps72
  go_wp2
  go_ret
  exact ⟨rfl, rfl⟩
theorem bIsLeap_ok (y : Int) (w : World) (y1 : 1 ≤ y) (y2 : y ≤ 9999) :
    Calls Try.prog 92 #[.int .i64 y] w fun e w' => e = .returned (.bool (decide (leap y))) ∧ w' = w := by
  have e : (mlen y 2 == 29) = decide (leap y) := by
    unfold mlen lp
    by_cases h : leap y <;> simp [h]
  go_enter Try.func92, Try.ntmps92
  go_wp2_with (go_at_call 104; refine (Length_ok y 2 _ y1 y2 (by omega) (by omega)).mono ?_; rintro e w1 ⟨rfl, rfl⟩)
  go_ret
  exact ⟨rfl, rfl⟩
theorem check_ok (how from' to : Int) (w : World) (h1 : 0 ≤ how) (h2 : how ≤ 3) (f1 : 1 ≤ from') (f2 : from' ≤ to) (f3 : to ≤ 3652059) :
    Calls Try.prog 49 #[.int .i64 how, .int .i64 from', .int .i64 to] w fun e w' => e = .returned (.int .i64 0) ∧ w' = w := by
  have hd0 : decide (how < 0) = false := decide_eq_false (by omega)
  have hd1 : decide (3 < how) = false := decide_eq_false (by omega)
  go_enter Try.func49, Try.ntmps49
  go_wp2_with (go_at_call 72; refine (bIsDay_yes _ _ (by omega) (by omega)).mono ?_; rintro e w1 ⟨rfl, rfl⟩)
  go_ret
  exact ⟨rfl, rfl⟩
theorem thirties_ok (n y m d : Int) (w : World) (D : Date n y m d) :
    Calls Try.prog 50 #[.int .i64 n] w fun e w' => e = .returned (.int .i64 (thi y m d)) ∧ w' = w := by
  have y1 := D.ylo
  have y2 := D.yhi
  have m1 := D.mlo
  have m2 := D.mhi
  have d1 := D.dlo
  have d2 := D.d31
  unfold thi
  go_enter Try.func50, Try.ntmps50
  go_wp2_with (go_at_call 73; refine (Civil_ok n y m d _ D).mono ?_; rintro e w1 ⟨rfl, rfl⟩)
  all_goals go_ret
  all_goals exact ⟨by simp; omega, rfl⟩
theorem date_first {y : Int} (h1 : 1 ≤ y) (h2 : y ≤ 9999) : Date (first y + 1) y 1 1 := ⟨h1, h2, by omega, by omega, by omega, by have := mlen_lo y 1; omega, by rw [show ((1 : Int) - 1).toNat = 0 from rfl, ahead]; omega⟩
theorem leapDaysAhead_ok (n y m d : Int) (w : World) (D : Date n y m d) :
    Calls Try.prog 74 #[.int .i64 n] w fun e w' => e = .returned (.int .i64 (lpd n y)) ∧ w' = w := by
  have y1 := D.ylo
  have y2 := D.yhi
  have hb := D.bounds
  have hi := D.inY
  have hf := first_mono y1
  have hi1 := hi.1
  rw [first_1] at hf
  unfold lpd
  clear hi
  go_enter Try.func74, Try.ntmps74
  go_wp2_with (first | (go_at_call 73; refine (Civil_ok n y m d _ D).mono ?_; rintro e w1 ⟨rfl, rfl⟩) | (go_at_call 92; refine (bIsLeap_ok y _ y1 y2).mono ?_; rintro e w1 ⟨rfl, rfl⟩) | (go_at_call 93; refine (Number_ok _ y 1 1 _ (date_first y1 y2)).mono ?_; rintro e w1 ⟨rfl, rfl⟩))
  all_goals go_ret
  all_goals exact ⟨by simp, rfl⟩
theorem actuals_ok (n y m d : Int) (w : World) (D : Date n y m d) :
    Calls Try.prog 51 #[.int .i64 n] w fun e w' => e = .returned (.int .i64 (act n y)) ∧ w' = w := by
  have hb := D.bounds
  have hl := lpd_bounds D.inY D.ylo D.yhi
  unfold act
  go_enter Try.func51, Try.ntmps51
  go_wp2_with (first | (go_at_call 74; refine (leapDaysAhead_ok n y m d _ D).mono ?_; rintro e w1 ⟨rfl, rfl⟩))
  go_ret
  exact ⟨by simp, rfl⟩
end Go.Proofs.Ytmaikgebdegkgaa.cb
/- The contracts of Part; what the laws of basis lean on. -/
namespace Go.Proofs.Ytmaikgebdegkgaa.cb
open Go.RowKit
set_option linter.unusedVariables false

theorem Part_0 (f t : Int) (w : World) (h1 : 1 ≤ f) (h2 : f ≤ t) (h3 : t ≤ 3652059) :
    Calls Try.prog 32 #[.int .i64 0, .int .i64 f, .int .i64 t] w fun e w' => e = .returned (.tuple #[.int .i64 (t - f), .int .i64 360, .int .i64 0]) ∧ w' = w := by
  go_enter Try.func32, Try.ntmps32
  go_wp2_with (first | (go_at_call 49; refine (check_ok 0 f t _ (by omega) (by omega) h1 h2 h3).mono ?_; rintro e w1 ⟨rfl, rfl⟩))
  refine bodyPost_ret (v := .tuple #[.int .i64 (t - f), .int .i64 360, .int .i64 0]) (by simp [results, Try.results32, go_sem]) rfl ⟨rfl, rfl⟩
theorem Part_1 (f t : Int) (w : World) (h1 : 1 ≤ f) (h2 : f ≤ t) (h3 : t ≤ 3652059) :
    Calls Try.prog 32 #[.int .i64 1, .int .i64 f, .int .i64 t] w fun e w' => e = .returned (.tuple #[.int .i64 (t - f), .int .i64 365, .int .i64 0]) ∧ w' = w := by
  go_enter Try.func32, Try.ntmps32
  go_wp2_with (first | (go_at_call 49; refine (check_ok 1 f t _ (by omega) (by omega) h1 h2 h3).mono ?_; rintro e w1 ⟨rfl, rfl⟩))
  refine bodyPost_ret (v := .tuple #[.int .i64 (t - f), .int .i64 365, .int .i64 0]) (by simp [results, Try.results32, go_sem]) rfl ⟨rfl, rfl⟩
theorem Part_2 (f t y m d y' m' d' : Int) (w : World) (D : Date f y m d) (D' : Date t y' m' d') (h2 : f ≤ t) :
    Calls Try.prog 32 #[.int .i64 2, .int .i64 f, .int .i64 t] w fun e w' => e = .returned (.tuple #[.int .i64 (thi y' m' d' - thi y m d), .int .i64 360, .int .i64 0]) ∧ w' = w := by
  obtain ⟨h1, -⟩ := D.bounds
  obtain ⟨-, h3⟩ := D'.bounds
  have t1 := thi_bounds D
  have t2 := thi_bounds D'
  go_enter Try.func32, Try.ntmps32
  go_wp2_with fail
  refine (check_ok 2 f t _ (by omega) (by omega) h1 h2 h3).mono ?_
  rintro e w1 ⟨rfl, rfl⟩
  go_wp2_with fail
  refine (thirties_ok t y' m' d' _ D').mono ?_
  rintro e w1 ⟨rfl, rfl⟩
  go_wp2_with fail
  refine (thirties_ok f y m d _ D).mono ?_
  rintro e w1 ⟨rfl, rfl⟩
  go_wp2_with fail
  refine bodyPost_ret (v := .tuple #[.int .i64 (thi y' m' d' - thi y m d), .int .i64 360, .int .i64 0]) (by simp [results, Try.results32, go_sem]) rfl ⟨rfl, rfl⟩
theorem act_bounds {n y m d : Int} (D : Date n y m d) : -3700000 ≤ act n y ∧ act n y ≤ 1400000000 := by
  have := lpd_bounds D.inY D.ylo D.yhi
  have := D.bounds
  unfold act; omega
theorem Part_3 (f t y m d y' m' d' : Int) (w : World) (D : Date f y m d) (D' : Date t y' m' d') (h2 : f ≤ t) :
    Calls Try.prog 32 #[.int .i64 3, .int .i64 f, .int .i64 t] w fun e w' => e = .returned (.tuple #[.int .i64 (act t y' - act f y), .int .i64 133590, .int .i64 0]) ∧ w' = w := by
  obtain ⟨h1, -⟩ := D.bounds
  obtain ⟨-, h3⟩ := D'.bounds
  have t1 := act_bounds D
  have t2 := act_bounds D'
  go_enter Try.func32, Try.ntmps32
  go_wp2_with fail
  refine (check_ok 3 f t _ (by omega) (by omega) h1 h2 h3).mono ?_
  rintro e w1 ⟨rfl, rfl⟩
  go_wp2_with fail
  refine (actuals_ok t y' m' d' _ D').mono ?_
  rintro e w1 ⟨rfl, rfl⟩
  go_wp2_with fail
  refine (actuals_ok f y m d _ D).mono ?_
  rintro e w1 ⟨rfl, rfl⟩
  go_wp2_with fail
  refine bodyPost_ret (v := .tuple #[.int .i64 (act t y' - act f y), .int .i64 133590, .int .i64 0]) (by simp [results, Try.results32, go_sem]) rfl ⟨rfl, rfl⟩
theorem date_a : Date 738886 2024 1 1 := ⟨by decide, by decide, by decide, by decide, by decide, by decide, by decide⟩
theorem date_b : Date 738917 2024 2 1 := ⟨by decide, by decide, by decide, by decide, by decide, by decide, by decide⟩
theorem thi_a : thi 2024 1 1 = 728671 := by decide
theorem thi_b : thi 2024 2 1 = 728701 := by decide
theorem u_mod (a : Int) {k : Int} (hk : 0 < k) : 0 ≤ (IntKind.u64.wrap a).tmod k ∧ (IntKind.u64.wrap a).tmod k < k := by
  have h : 0 ≤ IntKind.u64.wrap a := by rw [IntKind.wrap_u64]; omega
  rw [Int.tmod_eq_emod_of_nonneg h]
  exact ⟨Int.emod_nonneg _ (by omega), Int.emod_lt_of_pos _ hk⟩
end Go.Proofs.Ytmaikgebdegkgaa.cb
/- The contracts of the document's calendar (passbookref03), of right arguments. -/
namespace Go.Proofs.Ytmaikgebdegkgaa.cb
open Go.RowKit
set_option linter.unusedVariables false

theorem rLeap_ok (y : Int) (w : World) (h1 : 0 ≤ y) :
    Calls Try.prog 69 #[.int .i64 y] w fun e w' => e = .returned (.bool (decide (leap y))) ∧ w' = w := by
  by_cases h : y % 100 = 0
  · have e : (y % 400 == 0) = decide (leap y) := by
      have : leap y ↔ y % 400 = 0 := by unfold leap; omega
      simp only [this]; rfl
    go_enter Try.func69, Try.ntmps69
    go_wp2
    go_ret
    exact ⟨rfl, rfl⟩
  · have e : (y % 4 == 0) = decide (leap y) := by
      have : leap y ↔ y % 4 = 0 := by unfold leap; omega
      simp only [this]; rfl
    go_enter Try.func69, Try.ntmps69
    go_wp2
    go_ret
    exact ⟨rfl, rfl⟩
theorem rLength_ok (y m : Int) (w : World) (h1 : 0 ≤ y) :
    Calls Try.prog 87 #[.int .i64 y, .int .i64 m] w fun e w' => e = .returned (.int .i64 (mlen y m)) ∧ w' = w := by
  by_cases h2 : m = 2
  · subst h2
    by_cases hl : leap y
    · have e : mlen y 2 = 29 := by simp [mlen, lp, hl]
      rw [e]
      go_enter Try.func87, Try.ntmps87
      go_wp2_with (first | (go_at_call 69; refine (rLeap_ok y _ h1).mono ?_; rintro e w1 ⟨rfl, rfl⟩))
      go_ret
      exact ⟨rfl, rfl⟩
    · have e : mlen y 2 = 28 := by simp [mlen, lp, hl]
      rw [e]
      go_enter Try.func87, Try.ntmps87
      go_wp2_with (first | (go_at_call 69; refine (rLeap_ok y _ h1).mono ?_; rintro e w1 ⟨rfl, rfl⟩))
      go_ret
      exact ⟨rfl, rfl⟩
  · by_cases h4 : m = 4 ∨ m = 6 ∨ m = 9 ∨ m = 11
    · have e : mlen y m = 30 := by unfold mlen; rw [if_neg h2, if_pos h4]
      rw [e]
      clear e
      rcases h4 with rfl | rfl | rfl | rfl <;>
      · go_enter Try.func87, Try.ntmps87
        go_wp2
        go_ret
        exact ⟨rfl, rfl⟩
    · have e : mlen y m = 31 := by unfold mlen; rw [if_neg h2, if_neg h4]
      rw [e]
      clear e
      have h4a : m ≠ 4 := by omega
      have h4b : m ≠ 6 := by omega
      have h4c : m ≠ 9 := by omega
      have h4d : m ≠ 11 := by omega
      clear h4
      go_enter Try.func87, Try.ntmps87
      go_wp2
      go_ret
      exact ⟨rfl, rfl⟩
theorem rYear_ok (y : Int) (w : World) (h1 : 0 ≤ y) :
    Calls Try.prog 86 #[.int .i64 y] w fun e w' => e = .returned (.int .i64 (365 + lp y)) ∧ w' = w := by
  by_cases hl : leap y
  · rw [lp_yes hl]
    go_enter Try.func86, Try.ntmps86
    go_wp2_with (first | (go_at_call 69; refine (rLeap_ok y _ h1).mono ?_; rintro e w1 ⟨rfl, rfl⟩))
    go_ret
    exact ⟨rfl, rfl⟩
  · rw [lp_no hl]
    go_enter Try.func86, Try.ntmps86
    go_wp2_with (first | (go_at_call 69; refine (rLeap_ok y _ h1).mono ?_; rintro e w1 ⟨rfl, rfl⟩))
    go_ret
    exact ⟨rfl, rfl⟩
theorem rIs_yes (n : Int) (w : World) (h1 : 1 ≤ n) (h2 : n ≤ 3652059) :
    Calls Try.prog 38 #[.int .i64 n] w fun e w' => e = .returned (.bool true) ∧ w' = w := by
  go_enter Try.func38, Try.ntmps38
  go_wp2
  go_ret
  exact ⟨rfl, rfl⟩
theorem rIs_no (n : Int) (w : World) (h : ¬ (1 ≤ n ∧ n ≤ 3652059)) :
    Calls Try.prog 38 #[.int .i64 n] w fun e w' => e = .returned (.bool false) ∧ w' = w := by
  by_cases h1 : 1 ≤ n
  · have h2 : ¬ n ≤ 3652059 := by omega
    clear h
    go_enter Try.func38, Try.ntmps38
    go_wp2
    go_ret
    exact ⟨by simp, rfl⟩
  · clear h
    go_enter Try.func38, Try.ntmps38
    go_wp2
    go_ret
    exact ⟨rfl, rfl⟩
theorem first_cent (a : Int) : first (1 + 400 * a) = 146097 * a := by unfold first; omega
set_option maxRecDepth 100000 in
theorem rCivil_ok (n y m d : Int) (w : World) (D : Date n y m d) :
    Calls Try.prog 67 #[.int .i64 n] w fun e w' => e = .returned (.tuple #[.int .i64 y, .int .i64 m, .int .i64 d]) ∧ w' = w := by
  obtain ⟨b1, b2⟩ := D.bounds
  have hI := D.inY
  have hin := D.inYear
  obtain ⟨y1, y2, m1, m2, d1, d2, e⟩ := D
  obtain ⟨A, hA⟩ : ∃ A, A = ahead y (m - 1).toNat + d := ⟨_, rfl⟩
  rw [← hA] at hin
  have HnA : Hid (n = first y + A) := show n = first y + A by omega
  have HA : Hid (A = ahead y (m - 1).toNat + d) := hA
  have HI : Hid (InY n y) := hI
  have HD : Hid (d ≤ mlen y m) := d2
  have hl := lp_hi y
  have hl0 := lp_lo y
  clear hI e d2 hA
  obtain ⟨a, ha⟩ : ∃ a, a = (n - 1) / 146097 := ⟨_, rfl⟩
  have hm : (n - 1) % 146097 = n - 1 - first (1 + 400 * a) := by rw [first_cent]; omega
  have hya : 1 + 400 * a ≤ y := by
    apply Classical.byContradiction
    intro c
    have := first_mono (show y + 1 ≤ 1 + 400 * a by omega)
    rw [first_cent, first_step] at this
    have := HnA.out
    omega
  have ha0 : 0 ≤ a := by omega
  have HM : Hid ((n - 1) % 146097 = n - 1 - first (1 + 400 * a)) := hm
  have Ha : Hid (a = (n - 1) / 146097) := ha
  have fy := first_mono y1
  rw [first_1] at fy
  have HC : Hid (1 + 400 * a ≤ y) := hya
  clear ha hm hya
  go_enter Try.func67, Try.ntmps67
  go_wp2_with fail
  go_loop [0, 5] (fun t i => ∃ Y : Int, 1 ≤ Y ∧ Y ≤ y ∧ i = .int .i64 Y ∧ t = .int .i64 (n - 1 - first Y)) (fun _ i => y.toNat - (intOf i).toNat)
  case atStart =>
    have := HM.out
    have := Ha.out
    have := HC.out
    refine ⟨1 + 400 * a, by omega, by omega, ?_, ?_⟩
    · congr 1; omega
    · congr 1
  case round =>
    obtain ⟨Y, hk0, hk, rfl, rfl⟩ := hrel
    have f0 := first_mono hk0
    rw [first_1] at f0
    have f1 := first_step Y
    have l1 := lp_lo Y
    have l2 := lp_hi Y
    have f4 := HnA.out
    have f5 := first_mono hk
    have f6 : first Y ≤ n - 1 := by omega
    by_cases hy : Y = y
    · subst hy
      have f3 : n - 1 - first Y < 365 + lp Y := by omega
      have HF : Hid (n = first Y + A) := f4
      clear f1 f4 f5
      go_wp2_with (first | (go_at_call 86; refine (rYear_ok _ _ (by omega)).mono ?_; rintro e w1 ⟨rfl, rfl⟩))
      go_loop [0, 6] (fun t i => ∃ k : Nat, (k : Int) ≤ m - 1 ∧ i = .int .i64 (k + 1) ∧ t = .int .i64 (A - 1 - ahead Y k)) (fun _ i => 13 - (intOf i).toNat)
      case atStart =>
        have := HF.out
        refine ⟨0, by omega, rfl, ?_⟩
        rw [ahead]; congr 1; omega
      case round =>
        obtain ⟨k, hk, rfl, rfl⟩ := hrel
        have hm1 := mlen_lo Y (k + 1)
        have hm2 := mlen_hi Y (k + 1)
        have ha1 := ahead_mono Y (show 0 ≤ k by omega)
        have ha2 := ahead_mono Y (show (m - 1).toNat ≤ 12 by omega)
        rw [(ahead_tab Y).1] at ha1
        rw [(ahead_tab Y).2.2.2.2.2.2.2.2.2.2.2.2] at ha2
        have hd := HD.out
        have hA := HA.out
        by_cases hkm : (k : Int) = m - 1
        · obtain rfl : m = (k : Int) + 1 := by omega
          have t2 : A = ahead Y k + d := by rw [hA, show ((k : Int) + 1 - 1).toNat = k by omega]
          have t1 : A - 1 - ahead Y k < mlen Y (k + 1) := by omega
          have HT : Hid (A = ahead Y k + d) := t2
          have t3 : 0 ≤ A - 1 - ahead Y k := by omega
          clear hA hkm t2 ha2
          go_wp2_with (first | (go_at_call 87; refine (rLength_ok Y _ _ (by omega)).mono ?_; rintro e w1 ⟨rfl, rfl⟩))
          refine bodyPost_ret (v := .tuple #[.int .i64 Y, .int .i64 (k + 1), .int .i64 d]) (by have := HT.out; simp [results, Try.results67, go_sem]; omega) rfl ⟨rfl, rfl⟩
        · have t1 := ahead_mono Y (show k + 1 ≤ (m - 1).toNat by omega)
          rw [ahead] at t1
          have t2 : A - 1 - ahead Y k ≥ mlen Y (k + 1) := by omega
          have t3 : A ≤ 400 := by omega
          clear hA ha2 t1
          go_wp2_with (first | (go_at_call 87; refine (rLength_ok Y _ _ (by omega)).mono ?_; rintro e w1 ⟨rfl, rfl⟩))
          exact ⟨⟨k + 1, by omega, by go_num, by rw [ahead]; congr 1; omega⟩, by simp [intOf]; omega⟩
    · have f2 := first_mono (show Y + 1 ≤ y by omega)
      have f3 : 365 + lp Y ≤ n - 1 - first Y := by omega
      have HF : Hid (first (Y + 1) = first Y + 365 + lp Y) := f1
      clear f1 f2 f4 f5
      go_wp2_with (first | (go_at_call 86; refine (rYear_ok _ _ (by omega)).mono ?_; rintro e w1 ⟨rfl, rfl⟩))
      exact ⟨⟨Y + 1, by omega, by omega, rfl, by rw [HF.out]; congr 1; omega⟩, by simp [intOf]; omega⟩
set_option maxRecDepth 100000 in
theorem rNumber_ok (y m d : Int) (w : World) (h1 : 1 ≤ y) (h2 : y ≤ 9999) (h3 : 1 ≤ m) (h4 : m ≤ 12) (h5 : 1 ≤ d) (h6 : d ≤ 31) :
    Calls Try.prog 68 #[.int .i64 y, .int .i64 m, .int .i64 d] w fun e w' => e = .returned (.int .i64 (first y + ahead y (m - 1).toNat + d)) ∧ w' = w := by
  have HG := (show Hid _ from first_cent ((y - 1) / 400))
  have f9 : first y ≤ 3652059 := by have := first_mono (show y ≤ 10000 by omega); rw [first_10000] at this; exact this
  go_enter Try.func68, Try.ntmps68
  go_wp2_with fail
  go_loop [7, 8] (fun t i => ∃ Y : Int, 1 ≤ Y ∧ Y ≤ y ∧ i = .int .i64 Y ∧ t = .int .i64 (first Y)) (fun _ i => y.toNat - (intOf i).toNat)
  case atStart =>
    have := HG.out
    refine ⟨1 + 400 * ((y - 1) / 400), by omega, by omega, ?_, ?_⟩
    · congr 1
    · congr 1; omega
  case round =>
    obtain ⟨Y, hk0, hk, rfl, rfl⟩ := hrel
    have f0 := first_mono hk0
    rw [first_1] at f0
    have f5 := first_mono hk
    have l1 := lp_lo Y
    have l2 := lp_hi Y
    have HF : Hid (first (Y + 1) = first Y + 365 + lp Y) := first_step Y
    by_cases hy : Y = y
    · subst hy
      go_wp2_with (first | (go_at_call 86; refine (rYear_ok _ _ (by omega)).mono ?_; rintro e w1 ⟨rfl, rfl⟩))
      go_loop [7, 9] (fun t i => ∃ k : Nat, (k : Int) ≤ m - 1 ∧ i = .int .i64 (k + 1) ∧ t = .int .i64 (first Y + ahead Y k)) (fun _ i => m.toNat - (intOf i).toNat)
      case atStart => exact ⟨0, by omega, rfl, by rw [ahead]; congr 1; omega⟩
      case round =>
        obtain ⟨k, hk, rfl, rfl⟩ := hrel
        have hm1 := mlen_lo Y (k + 1)
        have hm2 := mlen_hi Y (k + 1)
        have ha1 := ahead_mono Y (show 0 ≤ k by omega)
        have ha2 := ahead_mono Y (show k ≤ 12 by omega)
        rw [(ahead_tab Y).1] at ha1
        rw [(ahead_tab Y).2.2.2.2.2.2.2.2.2.2.2.2] at ha2
        go_wp2_with (first | (go_at_call 87; refine (rLength_ok Y _ _ (by omega)).mono ?_; rintro e w1 ⟨rfl, rfl⟩))
        · exact ⟨⟨k + 1, by omega, by go_num, by rw [ahead]; congr 1; omega⟩, by simp [intOf]; omega⟩
        · go_ret
          exact ⟨by rw [show m.toNat - 1 = k by omega]; rfl, rfl⟩
    · have hy2 : Y < y := by omega
      go_wp2_with (first | (go_at_call 86; refine (rYear_ok _ _ (by omega)).mono ?_; rintro e w1 ⟨rfl, rfl⟩))
      exact ⟨⟨Y + 1, by omega, by omega, rfl, by rw [HF.out]; congr 1; omega⟩, by simp [intOf]; omega⟩
end Go.Proofs.Ytmaikgebdegkgaa.cb
/- The law BasisParts: the document's parts, the errors, the walk. -/
namespace Go.Proofs.Ytmaikgebdegkgaa.cb
open Go.RowKit
set_option linter.unusedVariables false

theorem bIsDay_no (n : Int) (w : World) (h : ¬ (1 ≤ n ∧ n ≤ 3652059)) :
    Calls Try.prog 72 #[.int .i64 n] w fun e w' => e = .returned (.bool false) ∧ w' = w := by
  by_cases h1 : 1 ≤ n
  · have h2 : ¬ n ≤ 3652059 := by omega
    clear h
    go_enter Try.func72, Try.ntmps72
    go_wp2
    go_ret
    exact ⟨by simp, rfl⟩
  · clear h
    go_enter Try.func72, Try.ntmps72
    go_wp2
    go_ret
    exact ⟨rfl, rfl⟩
theorem check_arg (how f t : Int) (w : World) (h : how < 0 ∨ 3 < how ∨ ¬ (1 ≤ f ∧ f ≤ 3652059) ∨ ¬ (1 ≤ t ∧ t ≤ 3652059)) :
    Calls Try.prog 49 #[.int .i64 how, .int .i64 f, .int .i64 t] w fun e w' => e = .returned (.int .i64 1) ∧ w' = w := by
  by_cases c1 : how < 0
  · clear h
    go_enter Try.func49, Try.ntmps49
    go_wp2_with fail
    go_ret
    exact ⟨rfl, rfl⟩
  have c1' : decide (how < 0) = false := decide_eq_false c1
  by_cases c2 : 3 < how
  · clear h
    go_enter Try.func49, Try.ntmps49
    go_wp2_with fail
    go_ret
    exact ⟨rfl, rfl⟩
  have c2' : decide (3 < how) = false := decide_eq_false c2
  by_cases c3 : 1 ≤ f ∧ f ≤ 3652059
  · have c4 : ¬ (1 ≤ t ∧ t ≤ 3652059) := by omega
    have H4 : Hid (¬ (1 ≤ t ∧ t ≤ 3652059)) := c4
    clear h c4
    go_enter Try.func49, Try.ntmps49
    go_wp2_with fail
    refine (bIsDay_yes f _ c3.1 c3.2).mono ?_
    rintro e w1 ⟨rfl, rfl⟩
    go_wp2_with fail
    refine (bIsDay_no t _ H4.out).mono ?_
    rintro e w1 ⟨rfl, rfl⟩
    go_wp2_with fail
    go_ret
    exact ⟨rfl, rfl⟩
  · have H3 : Hid (¬ (1 ≤ f ∧ f ≤ 3652059)) := c3
    clear h c3
    go_enter Try.func49, Try.ntmps49
    go_wp2_with fail
    refine (bIsDay_no f _ H3.out).mono ?_
    rintro e w1 ⟨rfl, rfl⟩
    go_wp2_with fail
    go_ret
    exact ⟨rfl, rfl⟩
theorem check_date (how f t : Int) (w : World) (h1 : 0 ≤ how) (h2 : how ≤ 3) (f1 : 1 ≤ t) (f2 : t < f) (f3 : f ≤ 3652059) :
    Calls Try.prog 49 #[.int .i64 how, .int .i64 f, .int .i64 t] w fun e w' => e = .returned (.int .i64 9) ∧ w' = w := by
  have hd0 : decide (how < 0) = false := decide_eq_false (by omega)
  have hd1 : decide (3 < how) = false := decide_eq_false (by omega)
  go_enter Try.func49, Try.ntmps49
  go_wp2_with (first | (go_at_call 72; refine (bIsDay_yes _ _ (by omega) (by omega)).mono ?_; rintro e w1 ⟨rfl, rfl⟩))
  go_ret
  exact ⟨rfl, rfl⟩

theorem rCheck_arg (how f t : Int) (w : World) (h : how < 0 ∨ 3 < how ∨ ¬ (1 ≤ f ∧ f ≤ 3652059) ∨ ¬ (1 ≤ t ∧ t ≤ 3652059)) :
    Calls Try.prog 23 #[.int .i64 how, .int .i64 f, .int .i64 t] w fun e w' => e = .returned (.int .i64 1) ∧ w' = w := by
  by_cases c1 : how < 0
  · clear h
    go_enter Try.func23, Try.ntmps23
    go_wp2_with fail
    go_ret
    exact ⟨rfl, rfl⟩
  have c1' : decide (how < 0) = false := decide_eq_false c1
  by_cases c2 : 3 < how
  · clear h
    go_enter Try.func23, Try.ntmps23
    go_wp2_with fail
    go_ret
    exact ⟨rfl, rfl⟩
  have c2' : decide (3 < how) = false := decide_eq_false c2
  by_cases c3 : 1 ≤ f ∧ f ≤ 3652059
  · have c4 : ¬ (1 ≤ t ∧ t ≤ 3652059) := by omega
    have H4 : Hid (¬ (1 ≤ t ∧ t ≤ 3652059)) := c4
    clear h c4
    go_enter Try.func23, Try.ntmps23
    go_wp2_with fail
    refine (rIs_yes f _ c3.1 c3.2).mono ?_
    rintro e w1 ⟨rfl, rfl⟩
    go_wp2_with fail
    refine (rIs_no t _ H4.out).mono ?_
    rintro e w1 ⟨rfl, rfl⟩
    go_wp2_with fail
    go_ret
    exact ⟨rfl, rfl⟩
  · have H3 : Hid (¬ (1 ≤ f ∧ f ≤ 3652059)) := c3
    clear h c3
    go_enter Try.func23, Try.ntmps23
    go_wp2_with fail
    refine (rIs_no f _ H3.out).mono ?_
    rintro e w1 ⟨rfl, rfl⟩
    go_wp2_with fail
    go_ret
    exact ⟨rfl, rfl⟩
theorem rCheck_date (how f t : Int) (w : World) (h1 : 0 ≤ how) (h2 : how ≤ 3) (f1 : 1 ≤ t) (f2 : t < f) (f3 : f ≤ 3652059) :
    Calls Try.prog 23 #[.int .i64 how, .int .i64 f, .int .i64 t] w fun e w' => e = .returned (.int .i64 9) ∧ w' = w := by
  have hd0 : decide (how < 0) = false := decide_eq_false (by omega)
  have hd1 : decide (3 < how) = false := decide_eq_false (by omega)
  go_enter Try.func23, Try.ntmps23
  go_wp2_with (first | (go_at_call 38; refine (rIs_yes _ _ (by omega) (by omega)).mono ?_; rintro e w1 ⟨rfl, rfl⟩))
  go_ret
  exact ⟨rfl, rfl⟩

theorem rCheck_ok (how from' to : Int) (w : World) (h1 : 0 ≤ how) (h2 : how ≤ 3) (f1 : 1 ≤ from') (f2 : from' ≤ to) (f3 : to ≤ 3652059) :
    Calls Try.prog 23 #[.int .i64 how, .int .i64 from', .int .i64 to] w fun e w' => e = .returned (.int .i64 0) ∧ w' = w := by
  have hd0 : decide (how < 0) = false := decide_eq_false (by omega)
  have hd1 : decide (3 < how) = false := decide_eq_false (by omega)
  go_enter Try.func23, Try.ntmps23
  go_wp2_with (first | (go_at_call 38; refine (rIs_yes _ _ (by omega) (by omega)).mono ?_; rintro e w1 ⟨rfl, rfl⟩))
  go_ret
  exact ⟨rfl, rfl⟩
/-- within a year -/
theorem act_span {n y e z : Int} (h : InY n y) (h' : InY e z) (h1 : n ≤ e) (h2 : e ≤ first (y + 1) + 1) : act e z - act n y = (366 - lp y) * (e - n) := by
  obtain ⟨k, rfl⟩ : ∃ k : Nat, e = n + k := ⟨(e - n).toNat, by omega⟩
  clear h1
  induction k generalizing z with
  | zero =>
    rw [show n + ((0 : Nat) : Int) = n by omega] at *
    obtain rfl := h.uniq h'
    rw [show n - n = 0 by omega]; omega
  | succ k ih =>
    rw [show n + ((k + 1 : Nat) : Int) = n + k + 1 by omega] at *
    have hz : InY (n + k) y := ⟨by have := h.1; omega, by omega⟩
    have a := ih hz (by omega)
    have b := act_step hz h'
    rw [show n + (k : Int) + 1 - n = (n + k - n) + 1 by omega, Int.mul_add]
    omega
theorem rThirty_ok (f t y m d y' m' d' : Int) (w : World) (D : Date f y m d) (D' : Date t y' m' d') :
    Calls Try.prog 66 #[.int .i64 f, .int .i64 t] w fun e w' => e = .returned (.int .i64 (thi y' m' d' - thi y m d)) ∧ w' = w := by
  have y1 := D.ylo
  have y2 := D.yhi
  have m1 := D.mlo
  have m2 := D.mhi
  have d1 := D.dlo
  have d2 := D.d31
  have y1' := D'.ylo
  have y2' := D'.yhi
  have m1' := D'.mlo
  have m2' := D'.mhi
  have d1' := D'.dlo
  have d2' := D'.d31
  have H : Hid ((d ≤ 30 ∧ thi y m d = 360 * y + 30 * m + d ∨ d = 31 ∧ thi y m d = 360 * y + 30 * m + 30) ∧ (d' ≤ 30 ∧ thi y' m' d' = 360 * y' + 30 * m' + d' ∨ d' = 31 ∧ thi y' m' d' = 360 * y' + 30 * m' + 30)) := by
    constructor
    · unfold thi; omega
    · unfold thi; omega
  by_cases hd : d = 31 <;> by_cases hd' : d' = 31
  all_goals
    go_enter Try.func66, Try.ntmps66
    go_wp2_with fail
    refine (rCivil_ok f y m d _ D).mono ?_
    rintro e w1 ⟨rfl, rfl⟩
    go_wp2_with fail
    refine (rCivil_ok t y' m' d' _ D').mono ?_
    rintro e w1 ⟨rfl, rfl⟩
    go_wp2_with fail
    go_ret
    have := H.out
    refine ⟨?_, rfl⟩
    show Ending.returned (.int .i64 _) = Ending.returned (.int .i64 _)
    refine congrArg (fun x => Ending.returned (.int .i64 x)) ?_
    omega
theorem rPart_0 (f t : Int) (w : World) (h1 : 1 ≤ f) (h2 : f ≤ t) (h3 : t ≤ 3652059) :
    Calls Try.prog 43 #[.int .i64 0, .int .i64 f, .int .i64 t] w fun e w' => e = .returned (.tuple #[.int .i64 (t - f), .int .i64 360]) ∧ w' = w := by
  go_enter Try.func43, Try.ntmps43
  go_wp2_with fail
  refine bodyPost_ret (v := .tuple #[.int .i64 (t - f), .int .i64 360]) (by simp [results, Try.results43, go_sem]) rfl ⟨rfl, rfl⟩
theorem rPart_1 (f t : Int) (w : World) (h1 : 1 ≤ f) (h2 : f ≤ t) (h3 : t ≤ 3652059) :
    Calls Try.prog 43 #[.int .i64 1, .int .i64 f, .int .i64 t] w fun e w' => e = .returned (.tuple #[.int .i64 (t - f), .int .i64 365]) ∧ w' = w := by
  go_enter Try.func43, Try.ntmps43
  go_wp2_with fail
  refine bodyPost_ret (v := .tuple #[.int .i64 (t - f), .int .i64 365]) (by simp [results, Try.results43, go_sem]) rfl ⟨rfl, rfl⟩
theorem rPart_2 (f t y m d y' m' d' : Int) (w : World) (D : Date f y m d) (D' : Date t y' m' d') :
    Calls Try.prog 43 #[.int .i64 2, .int .i64 f, .int .i64 t] w fun e w' => e = .returned (.tuple #[.int .i64 (thi y' m' d' - thi y m d), .int .i64 360]) ∧ w' = w := by
  have t1 := thi_bounds D
  have t2 := thi_bounds D'
  go_enter Try.func43, Try.ntmps43
  go_wp2_with fail
  refine (rThirty_ok f t _ _ _ _ _ _ _ D D').mono ?_
  rintro e w1 ⟨rfl, rfl⟩
  go_wp2_with fail
  refine bodyPost_ret (v := .tuple #[.int .i64 (thi y' m' d' - thi y m d), .int .i64 360]) (by simp [results, Try.results43, go_sem]) rfl ⟨rfl, rfl⟩
set_option maxHeartbeats 400000 in
set_option maxRecDepth 100000 in
theorem rPart_3 (f t y m d y' m' d' : Int) (w : World) (D : Date f y m d) (D' : Date t y' m' d') (h2 : f ≤ t) :
    Calls Try.prog 43 #[.int .i64 3, .int .i64 f, .int .i64 t] w fun e w' => e = .returned (.tuple #[.int .i64 (act t y' - act f y), .int .i64 133590]) ∧ w' = w := by
  have b1 := D.bounds.1
  have b2 := D'.bounds.2
  have t1 := act_bounds D
  have t2 := act_bounds D'
  go_enter Try.func43, Try.ntmps43
  go_wp2_with fail
  go_loop [8, 9] (fun s i => ∃ A z : Int, f ≤ A ∧ A ≤ t ∧ InY A z ∧ i = .int .i64 A ∧ s = .int .i64 (act A z - act f y)) (fun _ i => t.toNat - (intOf i).toNat)
  case atStart => exact ⟨f, y, by omega, h2, D.inY, rfl, by congr 1; omega⟩
  case round =>
    obtain ⟨A, z, hA1, hA2, hz, rfl, rfl⟩ := hrel
    by_cases hAt : A = t
    · subst hAt
      obtain rfl := hz.uniq D'.inY
      go_wp2_with fail
      refine bodyPost_ret (v := .tuple #[.int .i64 (act A z - act f y), .int .i64 133590]) (by simp [results, Try.results43, go_sem]) rfl ⟨rfl, rfl⟩
    · have hlt : A < t := by omega
      obtain ⟨z0, m0, d0, D0⟩ := date_ex A (by omega) (by omega)
      obtain rfl := hz.uniq D0.inY
      have u1 := act_bounds D0
      have z1 := D0.ylo
      have z2 := D0.yhi
      have hf := first_mono (show z + 1 ≤ 10000 by omega)
      rw [first_10000] at hf
      have hA3 := hz.2
      have hA4 := hz.1
      have N : ∀ w, Calls Try.prog 68 #[.int .i64 z, .int .i64 12, .int .i64 31] w fun e w' => e = .returned (.int .i64 (first (z + 1))) ∧ w' = w := by
        intro w
        have := rNumber_ok z 12 31 w z1 z2 (by omega) (by omega) (by omega) (by omega)
        rw [show first z + ahead z ((12 : Int) - 1).toNat + 31 = first (z + 1) by rw [first_step, show ((12 : Int) - 1).toNat = 11 from rfl, (ahead_tab z).2.2.2.2.2.2.2.2.2.2.2.1]; omega] at this
        exact this
      have l1 := lp_lo z
      have l2 := lp_hi z
      obtain ⟨E, hE⟩ : ∃ E, E = min (first (z + 1) + 1) t := ⟨_, rfl⟩
      obtain ⟨zE, mE, dE, DE⟩ := date_ex E (by omega) (by omega)
      have hs := act_span hz DE.inY (by omega) (by omega)
      have u2 := act_bounds DE
      have hE' : (E = first (z + 1) + 1 ∧ first (z + 1) + 1 ≤ t) ∨ (E = t ∧ t < first (z + 1) + 1) := by omega
      clear hE
      by_cases hl : leap z
      · rw [lp_yes hl] at hs
        have HS : Hid (act E zE - act A z = (366 - 1) * (E - A)) := hs
        clear hs
        rcases hE' with ⟨hE, hq⟩ | ⟨hE, hq⟩
        all_goals
          subst hE
          go_wp2_with fail
          refine (rCivil_ok A z m0 d0 _ D0).mono ?_
          rintro e w1 ⟨rfl, rfl⟩
          go_wp2_with fail
          refine (N _).mono ?_
          rintro e w1 ⟨rfl, rfl⟩
          go_wp2_with fail
          refine (rLeap_ok z _ (by omega)).mono ?_
          rintro e w1 ⟨rfl, rfl⟩
          go_wp2_with fail
          have := HS.out
          exact ⟨⟨_, zE, by omega, by omega, DE.inY, rfl, by congr 1; omega⟩, by simp [intOf]; omega⟩
      · rw [lp_no hl] at hs
        have HS : Hid (act E zE - act A z = (366 - 0) * (E - A)) := hs
        clear hs
        rcases hE' with ⟨hE, hq⟩ | ⟨hE, hq⟩
        all_goals
          subst hE
          go_wp2_with fail
          refine (rCivil_ok A z m0 d0 _ D0).mono ?_
          rintro e w1 ⟨rfl, rfl⟩
          go_wp2_with fail
          refine (N _).mono ?_
          rintro e w1 ⟨rfl, rfl⟩
          go_wp2_with fail
          refine (rLeap_ok z _ (by omega)).mono ?_
          rintro e w1 ⟨rfl, rfl⟩
          go_wp2_with fail
          have := HS.out
          exact ⟨⟨_, zE, by omega, by omega, DE.inY, rfl, by congr 1; omega⟩, by simp [intOf]; omega⟩

theorem Part_err (how f t e : Int) (w : World) (he : 1 ≤ e) (C : ∀ w, Calls Try.prog 49 #[.int .i64 how, .int .i64 f, .int .i64 t] w fun r w' => r = .returned (.int .i64 e) ∧ w' = w) :
    Calls Try.prog 32 #[.int .i64 how, .int .i64 f, .int .i64 t] w fun r w' => r = .returned (.tuple #[.int .i64 0, .int .i64 0, .int .i64 e]) ∧ w' = w := by
  go_enter Try.func32, Try.ntmps32
  go_wp2_with fail
  refine (C _).mono ?_
  rintro e w1 ⟨rfl, rfl⟩
  go_wp2_with fail
  refine bodyPost_ret (v := .tuple #[.int .i64 0, .int .i64 0, .int .i64 e]) (by simp [results, Try.results32, go_sem]) rfl ⟨rfl, rfl⟩
end Go.Proofs.Ytmaikgebdegkgaa.cb
