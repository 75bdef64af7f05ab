/- The contract of the quotient and the rest of two wide numbers, bit by bit (package dec). -/
import Derived.Test.YtlgcbbnnldlooaaDoorWj
namespace Go.Proofs.YtlgcbbnnldlooaaDoor
open Go.RowKit
set_option linter.unusedVariables false
attribute [local go_sem] ext_cell ext_frozen ext_drew ext_of_drew ext_of_drewN ext_setCell ext_lt ext_lt1 ext_lt2 ext_lt3 lt_n2 lt_n3 lt_n4 lt_n5 lt_n6

theorem Row5.word {w : World} {b M M' j : Nat} (h : Row5 w b 0 M) (hj : j < 5) (he : ∀ i, i ≠ j → wd M' i = wd M i) : Row5 (w.setCell ⟨b, j, none⟩ (.int .u64 (wd M' j))) b 0 M' := by
  have hc : ∀ i, i < 5 → (w.setCell ⟨b, j, none⟩ (.int .u64 (wd M' j))).cell? ⟨b, i, none⟩ = some (.int .u64 (wd M' i)) := by
    intro i hi
    by_cases c : i = j
    · subst c; exact World.cell?_setCell_same _ _ _ (h.nth i hi)
    · rw [World.cell?_setCell_other _ _ _ _ (ne_addr (Ne.symm c)), he i c]; exact h.nth i hi
  have hf : ∀ i, i < 5 → (w.setCell ⟨b, j, none⟩ (.int .u64 (wd M' j))).frozen? ⟨b, i, none⟩ = false := by
    intro i hi; rw [World.frozen?_setCell]; exact h.nthf i hi
  exact ⟨hc 0 (by decide), hc 1 (by decide), hc 2 (by decide), hc 3 (by decide), hc 4 (by decide), hf 0 (by decide), hf 1 (by decide), hf 2 (by decide), hf 3 (by decide), hf 4 (by decide)⟩

/-- What the call's own blocks hold. -/
structure Six (w wr : World) (q m d Q R : Nat) : Prop where
  r0 : Row5 wr w.heap.size 0 m
  r1 : Row5 wr (w.heap.size + 1) 0 d
  r2 : Row5 wr (w.heap.size + 1 + 1) 0 0
  r3 : Row5 wr (w.heap.size + 1 + 1 + 1) 0 0
  r4 : Row5 wr q 0 Q
  r5 : Row5 wr (q + 1) 0 R
  lo : w.heap.size + 1 + 1 + 1 < q
  hi : q + 1 < wr.heap.size
  bel : Below w.heap.size w wr
theorem Six.below {w wr w' : World} {q m d Q R : Nat} (h : Six w wr q m d Q R) (hb : Below wr.heap.size wr w') : Six w w' q m d Q R := by
  obtain ⟨r0, r1, r2, r3, r4, r5, lo, hi, bel⟩ := h
  have := hb.size
  exact ⟨r0.below hb (by omega), r1.below hb (by omega), r2.below hb (by omega), r3.below hb (by omega), r4.below hb (by omega), r5.below hb (by omega), lo, by omega, bel.trans (hb.mono (by omega))⟩
theorem Six.ext {w wr : World} {q m d Q R : Nat} (h : Six w wr q m d Q R) (x : World) : Six w (ext wr x) q m d Q R := h.below (below_ext (Below.refl _ _) (Nat.le_refl _) x)
theorem Six.rest {w wr : World} {q m d Q R : Nat} (h : Six w wr q m d Q R) (R' : Nat) : Six w (set5 wr (q + 1) 0 R') q m d Q R' := by
  obtain ⟨r0, r1, r2, r3, r4, r5, lo, hi, bel⟩ := h
  exact ⟨r0.laid_other (by omega) 0 _, r1.laid_other (by omega) 0 _, r2.laid_other (by omega) 0 _, r3.laid_other (by omega) 0 _, r4.laid_other (by omega) 0 _, r5.laid _, lo, by rw [size_set5]; exact hi, below_set5 bel (by omega) 0 _⟩
theorem Six.quo {w wr : World} {q m d Q R Q' j : Nat} (h : Six w wr q m d Q R) (hj : j < 5) (he : ∀ i, i ≠ j → wd Q' i = wd Q i) : Six w (wr.setCell ⟨q, j, none⟩ (.int .u64 (wd Q' j))) q m d Q' R := by
  obtain ⟨r0, r1, r2, r3, r4, r5, lo, hi, bel⟩ := h
  exact ⟨r0.setCell (by simp <;> omega) _, r1.setCell (by simp <;> omega) _, r2.setCell (by simp <;> omega) _, r3.setCell (by simp <;> omega) _, r4.word hj he, r5.setCell (by simp <;> omega) _, lo, by rw [World.size_setCell]; exact hi, bel.setCell (by simp <;> omega) _⟩
theorem Six.congr {w wr : World} {q m d Q R Q' R' : Nat} (h : Six w wr q m d Q R) (e1 : Q = Q') (e2 : R = R') : Six w wr q m d Q' R' := e1 ▸ e2 ▸ h

end Go.Proofs.YtlgcbbnnldlooaaDoor
