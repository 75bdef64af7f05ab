/- Five words in memory: what is kept of them, and what is laid. -/
import Derived.Test.YtlgcbbnnldlooaaDoorWd
namespace Go.Proofs.YtlgcbbnnldlooaaDoor
open Go.RowKit
set_option linter.unusedVariables false

/-- Block b of the world w holds the five words of n from cell o on, and they may be written. -/
structure Row5 (w : World) (b o n : Nat) : Prop where
  c0 : w.cell? ⟨b, o, none⟩ = some (.int .u64 (wd n 0))
  c1 : w.cell? ⟨b, o + 1, none⟩ = some (.int .u64 (wd n 1))
  c2 : w.cell? ⟨b, o + 2, none⟩ = some (.int .u64 (wd n 2))
  c3 : w.cell? ⟨b, o + 3, none⟩ = some (.int .u64 (wd n 3))
  c4 : w.cell? ⟨b, o + 4, none⟩ = some (.int .u64 (wd n 4))
  f0 : w.frozen? ⟨b, o, none⟩ = false
  f1 : w.frozen? ⟨b, o + 1, none⟩ = false
  f2 : w.frozen? ⟨b, o + 2, none⟩ = false
  f3 : w.frozen? ⟨b, o + 3, none⟩ = false
  f4 : w.frozen? ⟨b, o + 4, none⟩ = false

theorem Row5.below {w w' : World} {b o n k : Nat} (h : Row5 w b o n) (hb : Below k w w') (hk : b < k) : Row5 w' b o n := by
  have hc : ∀ j, w'.cell? ⟨b, j, none⟩ = w.cell? ⟨b, j, none⟩ := fun j => hb.cell (p := ⟨b, j, none⟩) hk
  have hf : ∀ j, w'.frozen? ⟨b, j, none⟩ = w.frozen? ⟨b, j, none⟩ := fun j => hb.frozen (p := ⟨b, j, none⟩) hk
  obtain ⟨c0, c1, c2, c3, c4, f0, f1, f2, f3, f4⟩ := h
  constructor <;> simp only [hc, hf] <;> assumption


theorem Row5.drew {w : World} {b o n : Nat} (h : Row5 w b o n) : Row5 w.drew b o n := ⟨h.c0, h.c1, h.c2, h.c3, h.c4, h.f0, h.f1, h.f2, h.f3, h.f4⟩
theorem Row5.drewN {w : World} {b o n : Nat} (h : Row5 w b o n) (k : Nat) : Row5 (w.drewN k) b o n := ⟨h.c0, h.c1, h.c2, h.c3, h.c4, h.f0, h.f1, h.f2, h.f3, h.f4⟩

theorem Row5.keep {w w' : World} {b o n : Nat} (h : Row5 w b o n) (e : w'.heap[b]? = w.heap[b]?) : Row5 w' b o n := by
  have hc : ∀ j, w'.cell? ⟨b, j, none⟩ = w.cell? ⟨b, j, none⟩ := fun j => World.cell?_of_block (w := w) (w' := w') (a := ⟨b, j, none⟩) e
  have hf : ∀ j, w'.frozen? ⟨b, j, none⟩ = w.frozen? ⟨b, j, none⟩ := fun j => World.frozen?_of_block (w := w) (w' := w') (a := ⟨b, j, none⟩) e
  obtain ⟨c0, c1, c2, c3, c4, f0, f1, f2, f3, f4⟩ := h
  constructor <;> simp only [hc, hf] <;> assumption

theorem undrew {w w' : World} (h : Below w.drew.heap.size w.drew w') : Below w.heap.size w w' := ⟨h.os, h.tape, h.output, h.size, h.block⟩

theorem Row5.zero {w : World} {b n : Nat} (h : Row5 w b 0 n) :
    w.cell? ⟨b, 0, none⟩ = some (.int .u64 (wd n 0)) ∧ w.cell? ⟨b, 1, none⟩ = some (.int .u64 (wd n 1)) ∧ w.cell? ⟨b, 2, none⟩ = some (.int .u64 (wd n 2)) ∧
    w.cell? ⟨b, 3, none⟩ = some (.int .u64 (wd n 3)) ∧ w.cell? ⟨b, 4, none⟩ = some (.int .u64 (wd n 4)) ∧
    w.frozen? ⟨b, 0, none⟩ = false ∧ w.frozen? ⟨b, 1, none⟩ = false ∧ w.frozen? ⟨b, 2, none⟩ = false ∧ w.frozen? ⟨b, 3, none⟩ = false ∧ w.frozen? ⟨b, 4, none⟩ = false :=
  ⟨h.c0, h.c1, h.c2, h.c3, h.c4, h.f0, h.f1, h.f2, h.f3, h.f4⟩

theorem Row5.nth {w : World} {b n : Nat} (h : Row5 w b 0 n) (k : Nat) (hk : k < 5) : w.cell? ⟨b, k, none⟩ = some (.int .u64 (wd n k)) := by
  obtain ⟨c0, c1, c2, c3, c4, -, -, -, -, -⟩ := h.zero
  match k, hk with
  | 0, _ => exact c0
  | 1, _ => exact c1
  | 2, _ => exact c2
  | 3, _ => exact c3
  | 4, _ => exact c4
theorem Row5.nthf {w : World} {b n : Nat} (h : Row5 w b 0 n) (k : Nat) (hk : k < 5) : w.frozen? ⟨b, k, none⟩ = false := by
  obtain ⟨-, -, -, -, -, c0, c1, c2, c3, c4⟩ := h.zero
  match k, hk with
  | 0, _ => exact c0
  | 1, _ => exact c1
  | 2, _ => exact c2
  | 3, _ => exact c3
  | 4, _ => exact c4

theorem Row5.setCell {w : World} {b o n : Nat} (h : Row5 w b o n) {p : Addr} (hp : p.block ≠ b) (v : Value) : Row5 (w.setCell p v) b o n := by
  have hc : ∀ j, (w.setCell p v).cell? ⟨b, j, none⟩ = w.cell? ⟨b, j, none⟩ := fun j => World.cell?_setCell_other _ _ _ _ (by intro e; apply hp; rw [e])
  obtain ⟨c0, c1, c2, c3, c4, f0, f1, f2, f3, f4⟩ := h
  constructor <;> simp only [hc, World.frozen?_setCell] <;> assumption

/-- The five words of n laid into block b from cell o on. -/
def set5 (w : World) (b o n : Nat) : World :=
  ((((w.setCell ⟨b, o, none⟩ (.int .u64 (wd n 0))).setCell ⟨b, o + 1, none⟩ (.int .u64 (wd n 1))).setCell ⟨b, o + 2, none⟩ (.int .u64 (wd n 2))).setCell ⟨b, o + 3, none⟩ (.int .u64 (wd n 3))).setCell ⟨b, o + 4, none⟩ (.int .u64 (wd n 4))

theorem ne_addr {b i j : Nat} (h : i ≠ j) : (⟨b, i, none⟩ : Addr) ≠ ⟨b, j, none⟩ := by
  intro e; apply h; exact congrArg Addr.off e

theorem Row5.laid {w : World} {b o k : Nat} (h : Row5 w b o k) (n : Nat) : Row5 (set5 w b o n) b o n := by
  obtain ⟨c0, c1, c2, c3, c4, f0, f1, f2, f3, f4⟩ := h
  have s : ∀ (u : World) (i : Nat) (v x : Value), u.cell? ⟨b, i, none⟩ = some x → (u.setCell ⟨b, i, none⟩ v).cell? ⟨b, i, none⟩ = some v := fun u i v x hx => World.cell?_setCell_same _ _ _ hx
  have t : ∀ (u : World) (i j : Nat) (v : Value), i ≠ j → (u.setCell ⟨b, i, none⟩ v).cell? ⟨b, j, none⟩ = u.cell? ⟨b, j, none⟩ := fun u i j v hij => World.cell?_setCell_other _ _ _ _ (ne_addr hij)
  unfold set5
  constructor
  · rw [t _ _ _ _ (by omega), t _ _ _ _ (by omega), t _ _ _ _ (by omega), t _ _ _ _ (by omega), s _ _ _ _ c0]
  · rw [t _ _ _ _ (by omega), t _ _ _ _ (by omega), t _ _ _ _ (by omega), s _ _ _ _ (by rw [t _ _ _ _ (by omega)]; exact c1)]
  · rw [t _ _ _ _ (by omega), t _ _ _ _ (by omega), s _ _ _ _ (by rw [t _ _ _ _ (by omega), t _ _ _ _ (by omega)]; exact c2)]
  · rw [t _ _ _ _ (by omega), s _ _ _ _ (by rw [t _ _ _ _ (by omega), t _ _ _ _ (by omega), t _ _ _ _ (by omega)]; exact c3)]
  · rw [s _ _ _ _ (by rw [t _ _ _ _ (by omega), t _ _ _ _ (by omega), t _ _ _ _ (by omega), t _ _ _ _ (by omega)]; exact c4)]
  all_goals (simp only [World.frozen?_setCell]; assumption)

theorem Row5.laid_other {w : World} {b o n : Nat} (h : Row5 w b o n) {b' : Nat} (hb : b' ≠ b) (o' n' : Nat) : Row5 (set5 w b' o' n') b o n :=
  ((((h.setCell (p := ⟨b', o', none⟩) hb _).setCell (p := ⟨b', o' + 1, none⟩) hb _).setCell (p := ⟨b', o' + 2, none⟩) hb _).setCell (p := ⟨b', o' + 3, none⟩) hb _).setCell (p := ⟨b', o' + 4, none⟩) hb _
theorem size_set5 (w : World) (b o n : Nat) : (set5 w b o n).heap.size = w.heap.size := by simp [set5]
theorem below_set5 {k : Nat} {w w' : World} (h : Below k w w') {b : Nat} (hb : k ≤ b) (o n : Nat) : Below k w (set5 w' b o n) :=
  ((((h.setCell (p := ⟨b, o, none⟩) hb _).setCell (p := ⟨b, o + 1, none⟩) hb _).setCell (p := ⟨b, o + 2, none⟩) hb _).setCell (p := ⟨b, o + 3, none⟩) hb _).setCell (p := ⟨b, o + 4, none⟩) hb _
theorem wd_zero (i : Nat) : wd 0 i = 0 := by simp [wd]
theorem Row5.congr {w : World} {b o n n' : Nat} (h : Row5 w b o n) (e : n = n') : Row5 w b o n' := e ▸ h
/-- A call's own blocks behind another call. -/
theorem bcell {W w1 : World} (hb : Below W.heap.size W w1) : (∀ b o, b < W.heap.size → w1.cell? ⟨b, o, none⟩ = W.cell? ⟨b, o, none⟩) ∧ (∀ b o, b < W.heap.size → w1.frozen? ⟨b, o, none⟩ = W.frozen? ⟨b, o, none⟩) :=
  ⟨fun b o h => hb.cell (p := ⟨b, o, none⟩) h, fun b o h => hb.frozen (p := ⟨b, o, none⟩) h⟩
end Go.Proofs.YtlgcbbnnldlooaaDoor
