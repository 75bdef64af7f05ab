/- money's sort: blocks that are sorted, in plain numbers. -/
import Derived.Test.YtbgglghapjfdeaaDoorSsf
namespace Go.Proofs.YtbgglghapjfdeaaDoor
open Go.RowKit
set_option linter.unusedVariables false

/-- blocks of cs are sorted up to a, those of bs from a on; blocks stand as they stood -/
def Mx (R f : Nat → Nat) (n bs cs a : Nat) : Prop := ∀ x y, x < y → y < n → (y < a → (x / cs = y / cs → bf R (f x) (f y)) ∧ (x / cs ≠ y / cs → f x < f y)) ∧ (a ≤ y → (x / bs = y / bs → bf R (f x) (f y)) ∧ (x / bs ≠ y / bs → f x < f y))
theorem div_at {k cs z : Nat} (h1 : k * cs ≤ z) (h2 : z < k * cs + cs) : z / cs = k := by
  refine Nat.div_eq_of_lt_le h1 ?_
  rw [Nat.add_mul]; omega
theorem div_cut {x y k bs : Nat} (hb : 0 < bs) (h1 : x < k * bs) (h2 : k * bs ≤ y) : x / bs ≠ y / bs := by
  have e1 : x / bs < k := (Nat.div_lt_iff_lt_mul hb).2 h1
  have e2 : k ≤ y / bs := (Nat.le_div_iff_mul_le hb).2 h2
  omega
/-- one block more -/
theorem Mx.step {R f g : Nat → Nat} {n bs cs a b j k : Nat} (h : Mx R f n bs cs a) (hb : 0 < bs) (hc : 0 < cs) (ha : a = k * cs) (ha' : a = j * bs) (hab : a ≤ b) (hbn' : b ≤ n) (hbc : b ≤ a + cs) (hbn : b = n ∨ ∃ l, b = l * bs) (p : Pm f g a b) (S : Srt R g a b) : Mx R g n bs cs b := by
  intro x y hxy hy
  refine ⟨fun hyb => ?_, fun hyb => ?_⟩
  · by_cases hya : y < a
    · rw [p.out x (by omega), p.out y (by omega)]; exact (h x y hxy hy).1 hya
    · have ey : y / cs = k := div_at (by omega) (by omega)
      by_cases hxa : x < a
      · refine ⟨fun e => absurd e (by rw [ha] at hxa; exact div_cut hc hxa (by omega)), fun _ => ?_⟩
        rw [p.out x (by omega)]
        refine p.all (P := fun v => f x < v) (fun u u1 u2 => ?_) y (by omega) hyb
        by_cases hun : u < n
        · refine ((h x u (by omega) hun).2 u1).2 (div_cut hb (k := j) (by omega) (by omega))
        · omega
      · have ex : x / cs = k := div_at (by omega) (by omega)
        exact ⟨fun _ => S x y (by omega) hxy hyb, fun e => absurd (ex.trans ey.symm) e⟩
  · obtain ⟨l, hl⟩ : ∃ l, b = l * bs := by
      rcases hbn with e | e
      · omega
      · exact e
    rw [p.out y (by omega)]
    by_cases hxa : x < a
    · rw [p.out x (by omega)]; exact (h x y hxy hy).2 (by omega)
    · by_cases hxb : x < b
      · refine ⟨fun e => absurd e (div_cut hb (k := l) (by omega) (by omega)), fun _ => ?_⟩
        refine p.all (P := fun v => v < f y) (fun u u1 u2 => ?_) x (by omega) hxb
        exact ((h u y (by omega) hy).2 (by omega)).2 (div_cut hb (k := l) (by omega) (by omega))
      · rw [p.out x (by omega)]; exact (h x y hxy hy).2 (by omega)
/-- sorted within a block of bs -/
theorem Mx.srt {R f : Nat → Nat} {n bs cs a j u v : Nat} (h : Mx R f n bs cs a) (hu : u = j * bs) (hau : a ≤ u) (hv : v ≤ u + bs) (hn : v ≤ n) : Srt R f u v := by
  intro x y h1 h2 h3
  refine ((h x y h2 (by omega)).2 (by omega)).1 ?_
  rw [div_at (k := j) (by omega) (by omega), div_at (k := j) (by omega) (by omega)]
/-- indices rise from block to block -/
theorem Mx.less {R f : Nat → Nat} {n bs cs a j m : Nat} (h : Mx R f n bs cs a) (hb : 0 < bs) (hm : m = j * bs) (ham : a ≤ m) : ∀ x y, a ≤ x → x < m → m ≤ y → y < n → f x < f y := fun x y h1 h2 h3 h4 =>
  ((h x y (by omega) h4).2 (by omega)).2 (div_cut hb (k := j) (by omega) (by omega))
/-- all blocks are done: the next size -/
theorem Mx.next {R f : Nat → Nat} {n bs cs ds : Nat} (h : Mx R f n bs cs n) : Mx R f n cs ds 0 := fun x y h1 h2 => ⟨fun h => by omega, fun _ => (h x y h1 h2).1 h2⟩
/-- one block holds all -/
theorem Mx.done {R f : Nat → Nat} {n bs cs : Nat} (h : Mx R f n bs cs 0) (hn : n ≤ bs) : Srt R f 0 n := h.srt (j := 0) (by omega) (Nat.le_refl _) (by omega) (Nat.le_refl _)
theorem Mx.start {R f : Nat → Nat} {n cs : Nat} (h : ∀ x y, x < y → y < n → f x < f y) : Mx R f n 1 cs 0 := fun x y h1 h2 => ⟨fun h => by omega, fun _ => ⟨fun e => by simp at e; omega, fun _ => h x y h1 h2⟩⟩
theorem Pm.bd {f g : Nat → Nat} {a b n : Nat} (p : Pm f g a b) (h2 : b ≤ n) (B : ∀ x, x < n → f x < n) (x : Nat) (hx : x < n) : g x < n :=
  (p.wide (Nat.zero_le _) h2).all (P := fun v => v < n) (fun x _ h => B x h) x (Nat.zero_le _) hx
end Go.Proofs.YtbgglghapjfdeaaDoor
