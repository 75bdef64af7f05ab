/- A stable sort of indices, in plain numbers: the order, permutations, rotations, merges. -/
import Derived.Test.YtbgglghapjfdeaaDoorIa
namespace Go.Proofs.YtbgglghapjfdeaaDoor
open Go.RowKit
set_option linter.unusedVariables false

/-- i comes ahead of j: its rest is greater, or it is the same and i stands ahead -/
def bf (R : Nat → Nat) (i j : Nat) : Prop := R j < R i ∨ R i = R j ∧ i < j
theorem bf.trans {R : Nat → Nat} {i j k : Nat} (h : bf R i j) (h' : bf R j k) : bf R i k := by unfold bf at *; omega
theorem bf_back {R : Nat → Nat} {i j : Nat} (h : i < j) (hr : R i < R j) : bf R j i := Or.inl hr
theorem bf_stay {R : Nat → Nat} {i j : Nat} (h : i < j) (hr : ¬ R i < R j) : bf R i j := by unfold bf; omega
/-- sorted from a to b -/
def Srt (R f : Nat → Nat) (a b : Nat) : Prop := ∀ x y, a ≤ x → x < y → y < b → bf R (f x) (f y)
def Mem (f : Nat → Nat) (a b v : Nat) : Prop := ∃ x, a ≤ x ∧ x < b ∧ f x = v
/-- the same from a to b, in another order; the same elsewhere -/
structure Pm (f g : Nat → Nat) (a b : Nat) : Prop where
  out : ∀ x, x < a ∨ b ≤ x → g x = f x
  mem : ∀ v, Mem f a b v ↔ Mem g a b v
theorem Pm.refl (f : Nat → Nat) (a b : Nat) : Pm f f a b := ⟨fun _ _ => rfl, fun _ => Iff.rfl⟩
theorem Pm.trans {f g h : Nat → Nat} {a b : Nat} (p : Pm f g a b) (q : Pm g h a b) : Pm f h a b := ⟨fun x hx => (q.out x hx).trans (p.out x hx), fun v => (p.mem v).trans (q.mem v)⟩
theorem Pm.wide {f g : Nat → Nat} {a b a' b' : Nat} (p : Pm f g a b) (ha : a' ≤ a) (hb : b ≤ b') : Pm f g a' b' := by
  refine ⟨fun x hx => p.out x (by omega), fun v => ⟨?_, ?_⟩⟩
  · rintro ⟨x, h1, h2, rfl⟩
    by_cases hx : a ≤ x ∧ x < b
    · obtain ⟨y, y1, y2, y3⟩ := (p.mem (f x)).1 ⟨x, hx.1, hx.2, rfl⟩
      exact ⟨y, by omega, by omega, y3⟩
    · exact ⟨x, h1, h2, p.out x (by omega)⟩
  · rintro ⟨x, h1, h2, rfl⟩
    by_cases hx : a ≤ x ∧ x < b
    · obtain ⟨y, y1, y2, y3⟩ := (p.mem (g x)).2 ⟨x, hx.1, hx.2, rfl⟩
      exact ⟨y, by omega, by omega, y3⟩
    · exact ⟨x, h1, h2, (p.out x (by omega)).symm⟩
/-- what holds of all from a to b holds still -/
theorem Pm.all {f g : Nat → Nat} {a b : Nat} (p : Pm f g a b) {P : Nat → Prop} (h : ∀ x, a ≤ x → x < b → P (f x)) (x : Nat) (h1 : a ≤ x) (h2 : x < b) : P (g x) := by
  obtain ⟨y, y1, y2, y3⟩ := (p.mem (g x)).2 ⟨x, h1, h2, rfl⟩
  rw [← y3]; exact h y y1 y2
def swp (f : Nat → Nat) (i j : Nat) : Nat → Nat := fun x => if x = i then f j else if x = j then f i else f x
theorem swp_pm (f : Nat → Nat) {a b i j : Nat} (h1 : a ≤ i) (h2 : i < b) (h3 : a ≤ j) (h4 : j < b) : Pm f (swp f i j) a b := by
  refine ⟨fun x hx => ?_, fun v => ⟨?_, ?_⟩⟩
  · simp only [swp]; rw [if_neg (by omega), if_neg (by omega)]
  · rintro ⟨x, x1, x2, rfl⟩
    by_cases hi : x = i
    · subst hi; refine ⟨j, h3, h4, ?_⟩; simp only [swp]; split
      · rename_i e; rw [e]
      · simp
    · by_cases hj : x = j
      · subst hj; exact ⟨i, h1, h2, by simp [swp]⟩
      · exact ⟨x, x1, x2, by simp [swp, hi, hj]⟩
  · rintro ⟨x, x1, x2, rfl⟩
    simp only [swp]; split
    · exact ⟨j, h3, h4, rfl⟩
    · split
      · exact ⟨i, h1, h2, rfl⟩
      · exact ⟨x, x1, x2, rfl⟩
/-- the cells of a row of indices -/
def row (f : Nat → Nat) (n : Nat) : List Value := (List.range n).map fun i => Value.int .i64 (f i : Int)
theorem row_len (f : Nat → Nat) (n : Nat) : (row f n).length = n := by simp [row]
theorem row_get (f : Nat → Nat) {n i : Nat} (h : i < n) : (row f n)[i]? = some (.int .i64 (f i : Int)) := by simp [row, h]
theorem row_swp (f : Nat → Nat) {n i j : Nat} (hi : i < n) (hj : j < n) : ((row f n).set i (.int .i64 (f j : Int))).set j (.int .i64 (f i : Int)) = row (swp f i j) n := by
  refine List.ext_getElem? fun k => ?_
  by_cases hk : k < n
  · rw [row_get _ hk]
    simp only [List.getElem?_set, row_len, List.length_set, swp]
    by_cases e1 : j = k
    · subst e1
      rw [if_pos rfl, if_pos hk]
      by_cases e2 : j = i
      · rw [if_pos e2, e2]
      · rw [if_neg e2, if_pos rfl]
    · rw [if_neg e1]
      by_cases e2 : i = k
      · subst e2; rw [if_pos rfl, if_pos hk, if_pos rfl]
      · rw [if_neg e2, row_get _ hk, if_neg (fun e => e2 e.symm), if_neg (fun e => e1 e.symm)]
  · rw [List.getElem?_eq_none (by simp [row_len]; omega), List.getElem?_eq_none (by simp [row_len]; omega)]
/-- two ranges of n exchanged -/
def sr (f : Nat → Nat) (a b n : Nat) : Nat → Nat := fun x => if a ≤ x ∧ x < a + n then f (x - a + b) else if b ≤ x ∧ x < b + n then f (x - b + a) else f x
/-- from a to b turned about m -/
def rot (f : Nat → Nat) (a m b : Nat) : Nat → Nat := fun x => if a ≤ x ∧ x < b then (if x < a + (b - m) then f (x + (m - a)) else f (x - (b - m))) else f x
theorem sr_zero (f : Nat → Nat) (a b : Nat) : sr f a b 0 = f := by
  funext x; simp only [sr]; rw [if_neg (by omega), if_neg (by omega)]
theorem sr_next (f : Nat → Nat) {a b i n : Nat} (h : a + n ≤ b) (hi : i < n) : swp (sr f a b i) (a + i) (b + i) = sr f a b (i + 1) := by
  funext x; simp only [sr, swp]
  repeat' split
  all_goals first | rfl | (exfalso; omega) | (congr 1; omega)
theorem rot_left (c : Nat → Nat) {i j m : Nat} (hj : 0 < j) (h : j < i) (hm : i ≤ m) : rot (sr c (m - i) m j) (m - (i - j)) m (m + j) = rot c (m - i) m (m + j) := by
  funext x; simp only [sr, rot]
  repeat' split
  all_goals first | rfl | (exfalso; omega) | (congr 1; omega)
theorem rot_right (c : Nat → Nat) {i j m : Nat} (hi : 0 < i) (h : i < j) (hm : i ≤ m) : rot (sr c (m - i) (m + j - i) i) (m - i) m (m + (j - i)) = rot c (m - i) m (m + j) := by
  funext x; simp only [sr, rot]
  repeat' split
  all_goals first | rfl | (exfalso; omega) | (congr 1; omega)
theorem rot_same (c : Nat → Nat) {i m : Nat} (hm : i ≤ m) : sr c (m - i) m i = rot c (m - i) m (m + i) := by
  funext x; simp only [sr, rot]
  repeat' split
  all_goals first | rfl | (exfalso; omega) | (congr 1; omega)
theorem rot_none1 (f : Nat → Nat) (a b : Nat) : rot f a a b = f := by
  funext x; simp only [rot]
  repeat' split
  all_goals first | rfl | (exfalso; omega) | (congr 1; omega)
theorem rot_none2 (f : Nat → Nat) (a b : Nat) : rot f a b b = f := by
  funext x; simp only [rot]
  repeat' split
  all_goals first | rfl | (exfalso; omega) | (congr 1; omega)
theorem rot_up (f : Nat → Nat) {a k : Nat} (h : a ≤ k) : swp (rot f a (a + 1) (k + 1)) k (k + 1) = rot f a (a + 1) (k + 2) := by
  funext x; simp only [rot, swp]
  repeat' split
  all_goals first | rfl | (exfalso; omega) | (congr 1; omega)
theorem rot_down (f : Nat → Nat) {m k : Nat} (h : k + 1 ≤ m) : swp (rot f (k + 1) m (m + 1)) (k + 1) k = rot f k m (m + 1) := by
  funext x; simp only [rot, swp]
  repeat' split
  all_goals first | rfl | (exfalso; omega) | (congr 1; omega)
theorem rot_pm (f : Nat → Nat) {s m e : Nat} (h1 : s ≤ m) (h2 : m ≤ e) : Pm f (rot f s m e) s e := by
  refine ⟨fun x hx => ?_, fun v => ⟨?_, ?_⟩⟩
  · simp only [rot]; rw [if_neg (by omega)]
  · rintro ⟨x, x1, x2, rfl⟩
    by_cases hx : x < m
    · refine ⟨x + (e - m), by omega, by omega, ?_⟩
      simp only [rot]; rw [if_pos (by omega), if_neg (by omega)]; congr 1; omega
    · refine ⟨x - (m - s), by omega, by omega, ?_⟩
      simp only [rot]; rw [if_pos (by omega), if_pos (by omega)]; congr 1; omega
  · rintro ⟨x, x1, x2, rfl⟩
    simp only [rot]; rw [if_pos (by omega)]; split
    · exact ⟨_, by omega, by omega, rfl⟩
    · exact ⟨_, by omega, by omega, rfl⟩
theorem rot_a (f : Nat → Nat) {s m e x : Nat} (h : x < s) : rot f s m e x = f x := by simp only [rot]; rw [if_neg (by omega)]
theorem rot_b (f : Nat → Nat) {s m e x : Nat} (h0 : m ≤ e) (h1 : s ≤ x) (h2 : x < s + (e - m)) (h3 : s ≤ m) : rot f s m e x = f (x + (m - s)) := by simp only [rot]; rw [if_pos (by omega), if_pos (by omega)]
theorem rot_c (f : Nat → Nat) {s m e x : Nat} (h0 : s ≤ m) (h1 : s + (e - m) ≤ x) (h2 : x < e) : rot f s m e x = f (x - (e - m)) := by simp only [rot]; rw [if_pos (by omega), if_neg (by omega)]
theorem rot_d (f : Nat → Nat) {s m e x : Nat} (h : e ≤ x) : rot f s m e x = f x := by simp only [rot]; rw [if_neg (by omega)]
/-- turned, and sorted -/
theorem rot_srt {R f : Nat → Nat} {a s m e b : Nat} (h1 : a ≤ s) (h2 : s ≤ m) (h3 : m ≤ e) (h4 : e ≤ b) (S1 : Srt R f a m) (S2 : Srt R f m b)
    (A : ∀ x y, a ≤ x → x < s → m ≤ y → y < e → bf R (f x) (f y)) (B : ∀ x y, m ≤ x → x < e → s ≤ y → y < m → bf R (f x) (f y))
    (C : ∀ x y, s ≤ x → x < m → e ≤ y → y < b → bf R (f x) (f y)) (D : ∀ x y, a ≤ x → x < s → e ≤ y → y < b → bf R (f x) (f y)) : Srt R (rot f s m e) a b := by
  intro x y hx hxy hy
  by_cases x1 : x < s
  · rw [rot_a f x1]
    by_cases y1 : y < s
    · rw [rot_a f y1]; exact S1 _ _ hx hxy (by omega)
    · by_cases y2 : y < s + (e - m)
      · rw [rot_b f h3 (by omega) y2 h2]; exact A _ _ hx x1 (by omega) (by omega)
      · by_cases y3 : y < e
        · rw [rot_c f h2 (by omega) y3]; exact S1 _ _ hx (by omega) (by omega)
        · rw [rot_d f (by omega)]; exact D _ _ hx x1 (by omega) hy
  · by_cases x2 : x < s + (e - m)
    · rw [rot_b f h3 (by omega) x2 h2]
      by_cases y2 : y < s + (e - m)
      · rw [rot_b f h3 (by omega) y2 h2]; exact S2 _ _ (by omega) (by omega) (by omega)
      · by_cases y3 : y < e
        · rw [rot_c f h2 (by omega) y3]; exact B _ _ (by omega) (by omega) (by omega) (by omega)
        · rw [rot_d f (by omega)]; exact S2 _ _ (by omega) (by omega) hy
    · by_cases x3 : x < e
      · rw [rot_c f h2 (by omega) x3]
        by_cases y3 : y < e
        · rw [rot_c f h2 (by omega) y3]; exact S1 _ _ (by omega) (by omega) (by omega)
        · rw [rot_d f (by omega)]; exact C _ _ (by omega) (by omega) (by omega) hy
      · rw [rot_d f (by omega), rot_d f (by omega)]; exact S2 _ _ (by omega) hxy hy
/-- the two halves of a merge -/
structure Hal (R g : Nat → Nat) (a s mid e b : Nat) : Prop where
  s1 : Srt R g a s
  s2 : Srt R g s mid
  s3 : Srt R g mid e
  s4 : Srt R g e b
  l1 : ∀ x y, a ≤ x → x < s → s ≤ y → y < mid → g x < g y
  l2 : ∀ x y, mid ≤ x → x < e → e ≤ y → y < b → g x < g y
  half : ∀ x y, a ≤ x → x < mid → mid ≤ y → y < b → bf R (g x) (g y)
theorem rot_hal {R f : Nat → Nat} {a s m e b mid : Nat} (h1 : a ≤ s) (h2 : s ≤ m) (h3 : m ≤ e) (h4 : e ≤ b) (hm : s + e = mid + m) (S1 : Srt R f a m) (S2 : Srt R f m b)
    (L : ∀ x y, a ≤ x → x < m → m ≤ y → y < b → f x < f y) (P1 : a < s → e < b → bf R (f (s - 1)) (f e)) (P2 : s < m → m < e → bf R (f (e - 1)) (f s)) : Hal R (rot f s m e) a s mid e b := by
  have Q1 : ∀ x y, a ≤ x → x < s → e ≤ y → y < b → bf R (f x) (f y) := by
    intro x y x1 x2 y1 y2
    have c := P1 (by omega) (by omega)
    have c1 : bf R (f x) (f e) := by
      by_cases e1 : x = s - 1
      · rw [e1]; exact c
      · exact (S1 x (s - 1) x1 (by omega) (by omega)).trans c
    by_cases e2 : y = e
    · rw [e2]; exact c1
    · exact c1.trans (S2 e y h3 (by omega) y2)
  have Q2 : ∀ x y, m ≤ x → x < e → s ≤ y → y < m → bf R (f x) (f y) := by
    intro x y x1 x2 y1 y2
    have c := P2 (by omega) (by omega)
    have c1 : bf R (f x) (f s) := by
      by_cases e1 : x = e - 1
      · rw [e1]; exact c
      · exact (S2 x (e - 1) x1 (by omega) (by omega)).trans c
    by_cases e2 : y = s
    · rw [e2]; exact c1
    · exact c1.trans (S1 s y h1 (by omega) y2)
  have em : s + (e - m) = mid := by omega
  refine ⟨?_, ?_, ?_, ?_, ?_, ?_, ?_⟩
  · intro x y x1 x2 x3; rw [rot_a f (by omega), rot_a f (by omega)]; exact S1 _ _ x1 x2 (by omega)
  · intro x y x1 x2 x3; rw [rot_b f h3 (by omega) (by omega) h2, rot_b f h3 (by omega) (by omega) h2]; exact S2 _ _ (by omega) (by omega) (by omega)
  · intro x y x1 x2 x3; rw [rot_c f h2 (by omega) (by omega), rot_c f h2 (by omega) (by omega)]; exact S1 _ _ (by omega) (by omega) (by omega)
  · intro x y x1 x2 x3; rw [rot_d f (by omega), rot_d f (by omega)]; exact S2 _ _ (by omega) (by omega) (by omega)
  · intro x y x1 x2 x3 x4; rw [rot_a f (by omega), rot_b f h3 (by omega) (by omega) h2]; exact L _ _ (by omega) (by omega) (by omega) (by omega)
  · intro x y x1 x2 x3 x4; rw [rot_c f h2 (by omega) (by omega), rot_d f (by omega)]; exact L _ _ (by omega) (by omega) (by omega) (by omega)
  · intro x y x1 x2 y1 y2
    by_cases x3 : x < s
    · rw [rot_a f x3]
      by_cases y3 : y < e
      · rw [rot_c f h2 (by omega) y3]; exact S1 _ _ x1 (by omega) (by omega)
      · rw [rot_d f (by omega)]; exact Q1 _ _ x1 x3 (by omega) y2
    · rw [rot_b f h3 (by omega) (by omega) h2]
      by_cases y3 : y < e
      · rw [rot_c f h2 (by omega) y3]; exact Q2 _ _ (by omega) (by omega) (by omega) (by omega)
      · rw [rot_d f (by omega)]; exact S2 _ _ (by omega) (by omega) y2
/-- two sorted halves are sorted -/
theorem srt_join {R g h k : Nat → Nat} {a mid b : Nat} (h1 : a ≤ mid) (h2 : mid ≤ b) (half : ∀ x y, a ≤ x → x < mid → mid ≤ y → y < b → bf R (g x) (g y)) (p : Pm g h a mid) (S : Srt R h a mid) (q : Pm h k mid b) (T : Srt R k mid b) : Srt R k a b ∧ Pm g k a b := by
  refine ⟨fun x y x1 x2 y2 => ?_, (p.wide (Nat.le_refl _) h2).trans (q.wide h1 (Nat.le_refl _))⟩
  by_cases e1 : y < mid
  · rw [q.out x (by omega), q.out y (by omega)]; exact S _ _ x1 x2 e1
  · by_cases e2 : mid ≤ x
    · exact T _ _ e2 x2 y2
    · rw [q.out x (by omega)]
      have c1 : ∀ z, mid ≤ z → z < b → bf R (h x) (h z) := by
        intro z z1 z2
        rw [p.out z (by omega)]
        exact p.all (P := fun v => bf R v (g z)) (fun u u1 u2 => half u z u1 u2 z1 z2) x x1 (by omega)
      exact q.all (P := fun v => bf R (h x) v) c1 y (by omega) y2
theorem Srt.none {R f : Nat → Nat} {a b : Nat} (h : b ≤ a + 1) : Srt R f a b := fun x y _ _ _ => by omega
end Go.Proofs.YtbgglghapjfdeaaDoor
