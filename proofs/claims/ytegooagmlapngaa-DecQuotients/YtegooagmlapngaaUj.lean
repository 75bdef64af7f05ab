/- The document's whole numbers as such: In; the contracts of Sign, Order, Coef, Dec. -/
import Derived.Test.YtegooagmlapngaaUi
import Derived.Test.YtegooagmlapngaaPg
namespace Go.Proofs.Ytegooagmlapngaa
open Go.RowKit
set_option linter.unusedVariables false
attribute [local go_sem ↓] Go.wp_at_zero Go.wp_at_succ

/-- The value v is the whole number z. -/
structure In (w : World) (v : Value) (z : Int) : Prop where
  ex : ∃ m, Wn w v m z.natAbs ∧ (0 < z → m = false) ∧ (z < 0 → m = true)
theorem In.step {w w' : World} {v : Value} {z : Int} (h : In w v z) (k : Below w.heap.size w w') : In w' v z := by
  obtain ⟨m, n, a, b⟩ := h
  exact ⟨m, n.step k, a, b⟩
theorem In.drew {w : World} {v : Value} {z : Int} (h : In w v z) : In w.drew v z := h.step ((Below.refl _ _).drew)
theorem In.alloc {w : World} {v : Value} {z : Int} (h : In w v z) (o : Obj) : In (w.alloc o) v z := h.step ((Below.refl _ _).alloc (Nat.le_refl _) o)
theorem In.form {w : World} {v : Value} {z : Int} (h : In w v z) : ∃ m a n c, v = .agg #[.bool m, .slice a n c] ∧ Nm w (.slice a n c) z.natAbs ∧ (0 < z → m = false) ∧ (z < 0 → m = true) := by
  obtain ⟨m, ⟨s, rfl, hn⟩, a, b⟩ := h
  obtain ⟨x, y, c, rfl⟩ := hn.form
  exact ⟨m, x, y, c, rfl, hn, a, b⟩
theorem in_mk {w : World} {m : Bool} {s : Value} {z : Int} (h : Nm w s z.natAbs) (a : 0 < z → m = false) (b : z < 0 → m = true) : In w (.agg #[.bool m, s]) z := ⟨m, wn_mk h, a, b⟩
theorem made_in (n : Int) (w : World) (h0 : -9223372036854775808 ≤ n) (h1 : n ≤ 9223372036854775807) :
    Calls Try.prog 32 #[.int .i64 n] w fun e w' => (∃ v, e = .returned v ∧ In w' v n) ∧ Below w.heap.size w w' := by
  refine (made_ok n w h0 h1).mono ?_
  rintro e w1 ⟨⟨v, rfl, hv⟩, hb⟩
  exact ⟨⟨v, rfl, _, hv, fun h => by simp; omega, fun h => by simp [h]⟩, hb⟩
/-- Its size is small enough. -/
def Mi (z : Int) : Prop := Md z.natAbs
theorem prod_in (v u : Value) (y z : Int) (w : World) (h : In w v y) (h2 : In w u z) (hy : Mi y) (hz : Mi z) :
    Calls Try.prog 17 #[v, u] w fun e w' => (∃ r, e = .returned r ∧ In w' r (y * z)) ∧ Below w.heap.size w w' := by
  obtain ⟨m, hw, a, b⟩ := h
  obtain ⟨k, hw2, a2, b2⟩ := h2
  refine (product_ok v u m k _ _ w hw hw2 hy hz).mono ?_
  rintro e w1 ⟨⟨r, rfl, hr⟩, hb⟩
  refine ⟨⟨r, rfl, _, (by rw [Int.natAbs_mul]; exact hr), fun h => ?_, fun h => ?_⟩, hb⟩
  · rcases Int.lt_or_le y 0 with hy | hy
    · have hz' : z < 0 := by
        rcases Int.lt_or_le z 0 with hz | hz
        · exact hz
        · have := Int.mul_nonpos_of_nonpos_of_nonneg (Int.le_of_lt hy) hz; omega
      rw [b hy, b2 hz']; rfl
    · have hz' : 0 < z := by
        rcases Int.lt_or_le 0 z with hz | hz
        · exact hz
        · have := Int.mul_nonpos_of_nonneg_of_nonpos hy hz; omega
      have hy' : 0 < y := by
        rcases Int.lt_or_le 0 y with h1 | h1
        · exact h1
        · obtain rfl : y = 0 := by omega
          simp at h
      rw [a hy', a2 hz']; rfl
  · rcases Int.lt_or_le y 0 with hy | hy
    · have hz' : 0 < z := by
        rcases Int.lt_or_le 0 z with hz | hz
        · exact hz
        · have := Int.mul_nonneg_of_nonpos_of_nonpos (Int.le_of_lt hy) hz; omega
      rw [b hy, a2 hz']; rfl
    · have hz' : z < 0 := by
        rcases Int.lt_or_le z 0 with hz | hz
        · exact hz
        · have := Int.mul_nonneg hy hz; omega
      have hy' : 0 < y := by
        rcases Int.lt_or_le 0 y with h1 | h1
        · exact h1
        · obtain rfl : y = 0 := by omega
          simp at h
      rw [a hy', b2 hz']; rfl
theorem sum_in (v u : Value) (y z : Int) (w : World) (h : In w v y) (h2 : In w u z) (hy : Mi y) (hz : Mi z) :
    Calls Try.prog 33 #[v, u] w fun e w' => (∃ r, e = .returned r ∧ In w' r (y + z)) ∧ Below w.heap.size w w' := by
  obtain ⟨m, hw, a, b⟩ := h
  obtain ⟨k, hw2, a2, b2⟩ := h2
  by_cases hmk : k = m
  · subst hmk
    refine (sum_same v u k k _ _ w hw hw2 hy hz rfl).mono ?_
    rintro e w1 ⟨⟨r, rfl, hr⟩, hb⟩
    have e : y.natAbs + z.natAbs = (y + z).natAbs := by
      cases k
      · have : ¬ y < 0 := fun h => by have := b h; simp at this
        have : ¬ z < 0 := fun h => by have := b2 h; simp at this
        omega
      · have : ¬ 0 < y := fun h => by have := a h; simp at this
        have : ¬ 0 < z := fun h => by have := a2 h; simp at this
        omega
    refine ⟨⟨r, rfl, _, (by rw [← e]; exact hr), fun h => ?_, fun h => ?_⟩, hb⟩
    · rcases (show 0 < y ∨ 0 < z by omega) with h | h
      · exact a h
      · exact a2 h
    · rcases (show y < 0 ∨ z < 0 by omega) with h | h
      · exact b h
      · exact b2 h
  · have hmk' : (m == k) = false := by rw [beq_eq_false_iff_ne]; exact fun h => hmk h.symm
    have hcase : (¬ y < 0 ∧ ¬ 0 < z ∧ m = false ∧ k = true) ∨ (¬ 0 < y ∧ ¬ z < 0 ∧ m = true ∧ k = false) := by
      cases m <;> cases k
      · simp at hmk
      · left
        exact ⟨fun h => by have := b h; simp at this, fun h => by have := a2 h; simp at this, rfl, rfl⟩
      · right
        exact ⟨fun h => by have := a h; simp at this, fun h => by have := b2 h; simp at this, rfl, rfl⟩
      · simp at hmk
    rcases Nat.lt_or_ge y.natAbs z.natAbs with hlt | hge
    · refine (sum_lt v u m k _ _ w hw hw2 hy hz hmk' hlt).mono ?_
      rintro e w1 ⟨⟨r, rfl, hr⟩, hb⟩
      rcases hcase with ⟨c1, c2, rfl, rfl⟩ | ⟨c1, c2, rfl, rfl⟩
      · exact ⟨⟨r, rfl, _, (by rw [show (y + z).natAbs = z.natAbs - y.natAbs by omega]; exact hr), fun h => by omega, fun h => rfl⟩, hb⟩
      · exact ⟨⟨r, rfl, _, (by rw [show (y + z).natAbs = z.natAbs - y.natAbs by omega]; exact hr), fun h => rfl, fun h => by omega⟩, hb⟩
    · refine (sum_ge v u m k _ _ w hw hw2 hy hz hmk' hge).mono ?_
      rintro e w1 ⟨⟨r, rfl, hr⟩, hb⟩
      rcases hcase with ⟨c1, c2, rfl, rfl⟩ | ⟨c1, c2, rfl, rfl⟩
      · exact ⟨⟨r, rfl, _, (by rw [show (y + z).natAbs = y.natAbs - z.natAbs by omega]; exact hr), fun h => rfl, fun h => by omega⟩, hb⟩
      · exact ⟨⟨r, rfl, _, (by rw [show (y + z).natAbs = y.natAbs - z.natAbs by omega]; exact hr), fun h => by omega, fun h => rfl⟩, hb⟩
theorem sign_in (v : Value) (z : Int) (w : World) (h : In w v z) :
    Calls Try.prog 16 #[v] w fun e w' => e = .returned (.int .i64 (sgn z)) ∧ Below w.heap.size w w' := by
  obtain ⟨m, hw, a, b⟩ := h
  rcases (show z = 0 ∨ 0 < z ∨ z < 0 by omega) with rfl | hz | hz
  · exact sign_zero v m w hw
  · have hm := a hz
    subst hm
    have h := sign_some v false _ w hw (by omega)
    have e : sgn z = 1 := by unfold sgn; rw [if_neg (by omega), if_neg (by omega)]
    rw [e]
    exact h
  · have hm := b hz
    subst hm
    have h := sign_some v true _ w hw (by omega)
    have e : sgn z = -1 := by unfold sgn; rw [if_pos hz]
    rw [e]
    exact h
end Go.Proofs.Ytegooagmlapngaa
