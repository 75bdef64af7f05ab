/- money's sort: a rotation; the comparison; insertion in plain numbers. -/
import Derived.Test.YtbgglghapjfdeaaDoorSsb
namespace Go.Proofs.YtbgglghapjfdeaaDoor
open Go.RowKit
set_option linter.unusedVariables false

set_option maxHeartbeats 4000000 in
set_option maxRecDepth 100000 in
theorem rotc_ok (q n a m b : Nat) (f : Nat → Nat) (cv : Value) (w : World) (V : VA w q (row f n) 3) (h1 : a < m) (h2 : m < b) (h3 : b ≤ n) (h4 : n ≤ 1000000) :
    Calls Tryd.prog 57 #[.slice (some ⟨q, 0, none⟩) n n, .int .i64 (a : Int), .int .i64 (m : Int), .int .i64 (b : Int), cv] w fun e w' => e = .returned (.tuple #[]) ∧ VA w' q (row (rot f a m b) n) 3 ∧ Qx q w w' := by
  have HV0 := (show Hid _ from V)
  clear V
  go_enter Tryd.func57, Tryd.ntmps57
  go_wp2_with fail
  go_loopw [10, 11] (fun i j wr => ∃ (I J : Nat) (c : Nat → Nat), 0 < I ∧ 0 < J ∧ I ≤ m ∧ m + J ≤ n ∧ i = .int .i64 (I : Int) ∧ j = .int .i64 (J : Int) ∧ Hid (rot c (m - I) m (m + J) = rot f a m b) ∧ Hid (VA wr q (row c n) 3) ∧ Hid (Qx q w wr)) (fun i j _ => (intOf i).toNat + (intOf j).toNat)
  case atStart => exact ⟨m - a, b - m, f, by omega, by omega, by omega, by omega, by go_num, by go_num, by rw [show m - (m - a) = a by omega, show m + (b - m) = b by omega]; exact rfl, HV0.out, Qx.refl _ _⟩
  case round =>
    obtain ⟨I, J, c, hI, hJ, hIm, hJn, rfl, rfl, HR, HV, HU⟩ := hrel
    clear HV0
    obtain ⟨A, hA⟩ : ∃ A : Nat, m - I = A := ⟨_, rfl⟩
    have HAE := (show Hid _ from hA)
    have HA : Hid ((A : Int) = (m : Int) - (I : Int)) := by show _ = _; omega
    by_cases hij : I = J
    · subst hij
      clear hA
      go_wp2_with fail
      have e1 := HA.out
      rw [← e1]
      refine (swr_ok q n A m I c cv _ HV.out (by have := HAE.out; omega) hJn h4).mono ?_
      rintro e w1 ⟨rfl, v1, u1⟩
      have HV1 := (show Hid _ from v1)
      have HU1 := (show Hid _ from HU.out.trans u1)
      clear v1 u1 e1
      go_wp2_with fail
      refine bodyPost_end (v := .tuple #[]) (by simp [results, Tryd.results57, go_sem]) rfl ⟨rfl, ?_, HU1.out⟩
      rw [← HR.out, ← rot_same c hIm, HAE.out]
      exact HV1.out
    have d0 : ((I : Int) != (J : Int)) = true := by simp; omega
    clear hA
    by_cases hlt : J < I
    · have d1 : ¬ (I : Int) ≤ (J : Int) := by omega
      go_wp2_with fail
      have e1 := HA.out
      rw [← e1]
      refine (swr_ok q n A m J c cv _ HV.out (by have := HAE.out; omega) hJn h4).mono ?_
      rintro e w1 ⟨rfl, v1, u1⟩
      have HV1 := (show Hid _ from v1)
      have HU1 := (show Hid _ from HU.out.trans u1)
      clear v1 u1 e1
      go_wp2_with fail
      refine ⟨⟨I - J, J, _, by omega, hJ, by omega, hJn, by go_num, rfl, ?_, HV1.out, HU1.out⟩, by simp [intOf]; omega⟩
      show rot _ _ _ _ = _
      rw [← HR.out, ← rot_left c hJ hlt hIm, HAE.out]
    · have d1 : (I : Int) ≤ (J : Int) := by omega
      obtain ⟨B, hB⟩ : ∃ B : Nat, m + J - I = B := ⟨_, rfl⟩
      have HBE := (show Hid _ from hB)
      have HB : Hid ((B : Int) = (m : Int) + (J : Int) - (I : Int)) := by show _ = _; omega
      clear hB
      go_wp2_with fail
      have e1 := HA.out
      have e2 := HB.out
      rw [← e2, ← e1]
      refine (swr_ok q n A B I c cv _ HV.out (by have := HAE.out; have := HBE.out; omega) (by have := HBE.out; omega) h4).mono ?_
      rintro e w1 ⟨rfl, v1, u1⟩
      have HV1 := (show Hid _ from v1)
      have HU1 := (show Hid _ from HU.out.trans u1)
      clear v1 u1 e1 e2
      go_wp2_with fail
      refine ⟨⟨I, J - I, _, hI, by omega, hIm, by omega, rfl, by go_num, ?_, HV1.out, HU1.out⟩, by simp [intOf]; omega⟩
      show rot _ _ _ _ = _
      rw [← HR.out, ← rot_right c hI (by omega) hIm, HAE.out, HBE.out]
/-- the comparison, in worlds that hold what it reads -/
structure Cmpr (q n bx : Nat) (R : Nat → Nat) (C : World → Prop) : Prop where
  keep : ∀ w w', C w → Qx q w w' → C w'
  call : ∀ (x y : Nat) (w : World), x < n → y < n → C w → Calls Tryd.prog 44 #[.int .i64 (x : Int), .int .i64 (y : Int), .pointer (some ⟨bx, 0, none⟩)] w fun e w' => (∃ c : Int, e = .returned (.int .i64 c) ∧ (c < 0 ↔ R y < R x)) ∧ Below w.heap.size w w'
/-- insertion: the element that stood at i is at j now -/
structure Ins (R f c : Nat → Nat) (a i j : Nat) : Prop where
  pm : Pm f c a (i + 1)
  pos : c j = f i
  srt : ∀ x y, a ≤ x → x < y → y ≤ i → x ≠ j → y ≠ j → bf R (c x) (c y)
  up : ∀ y, j < y → y ≤ i → bf R (f i) (c y)
  lo : ∀ x, a ≤ x → x ≤ i → x ≠ j → c x < f i
theorem Ins.start {R f g : Nat → Nat} {a i : Nat} (h : a ≤ i) (p : Pm f g a i) (S : Srt R g a i) (I : ∀ x, a ≤ x → x < i → f x < f i) : Ins R f g a i i :=
  ⟨p.wide (Nat.le_refl _) (by omega), p.out i (by omega), fun x y h1 h2 h3 h4 h5 => S x y h1 h2 (by omega), fun y h1 h2 => by omega, fun x h1 h2 h3 => p.all (P := fun v => v < f i) I x h1 (by omega)⟩
theorem Ins.swap {R f c : Nat → Nat} {a i j k : Nat} (h : Ins R f c a i j) (hk : j = k + 1) (ha : a ≤ k) (hj : j ≤ i) (hr : R (c k) < R (c j)) : Ins R f (swp c j k) a i k := by
  have hp := h.pos
  have ej : swp c j k j = c k := by simp [swp]
  have ek : swp c j k k = c j := by simp only [swp]; rw [if_neg (by omega)]; simp
  have eo : ∀ x, x ≠ j → x ≠ k → swp c j k x = c x := fun x h1 h2 => by simp [swp, h1, h2]
  refine ⟨h.pm.trans (swp_pm c (by omega) (by omega) ha (by omega)), by rw [ek, hp], ?_, ?_, ?_⟩
  · intro x y h1 h2 h3 h4 h5
    by_cases e1 : x = j
    · subst e1; rw [ej, eo y (by omega) h5]; exact h.srt k y ha (by omega) h3 (by omega) (by omega)
    · by_cases e2 : y = j
      · subst e2; rw [ej, eo x e1 h4]; exact h.srt x k h1 (by omega) (by omega) e1 (by omega)
      · rw [eo x e1 h4, eo y e2 h5]; exact h.srt x y h1 h2 h3 e1 e2
  · intro y h1 h2
    by_cases e2 : y = j
    · subst e2; rw [ej, ← hp]; exact Or.inl hr
    · rw [eo y e2 (by omega)]; exact h.up y (by omega) h2
  · intro x h1 h2 h3
    by_cases e1 : x = j
    · subst e1; rw [ej]; exact h.lo k ha (by omega) (by omega)
    · rw [eo x e1 h3]; exact h.lo x h1 h2 e1
theorem Ins.done {R f c : Nat → Nat} {a i j : Nat} (h : Ins R f c a i j) (hj : j ≤ i) (hd : ∀ k, j = k + 1 → a ≤ k → ¬ R (c k) < R (c j)) : Srt R c a (i + 1) := by
  intro x y h1 h2 h3
  by_cases e1 : x = j
  · subst e1; rw [h.pos]; exact h.up y h2 (by omega)
  · by_cases e2 : y = j
    · subst e2
      obtain ⟨k, hk⟩ : ∃ k, y = k + 1 := ⟨y - 1, by omega⟩
      have hn := hd k hk (by omega)
      have c1 : bf R (c k) (c y) := by
        rw [h.pos]; rw [h.pos] at hn
        exact bf_stay (h.lo k (by omega) (by omega) (by omega)) hn
      by_cases e3 : x = k
      · rw [e3]; exact c1
      · exact (h.srt x k h1 (by omega) (by omega) e1 (by omega)).trans c1
    · exact h.srt x y h1 h2 (by omega) e1 e2
end Go.Proofs.YtbgglghapjfdeaaDoor
