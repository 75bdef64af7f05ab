/- The contract of Quo (package dec). -/
import Derived.Test.YtlgcbbnnldlooaaDoorPb
namespace Go.Proofs.YtlgcbbnnldlooaaDoor
open Go.RowKit
set_option linter.unusedVariables false
attribute [local go_sem] ext_cell ext_frozen ext_drew ext_of_drew ext_of_drewN ext_setCell ext_lt ext_lt1 ext_lt2 ext_lt3 lt_n2 lt_n3 lt_n4 lt_n5 lt_n6 ext_ext

/-- Block b of w holds a number with a sign. -/
structure Num6 (w : World) (b : Nat) (neg : Bool) (n : Nat) : Prop where
  c0 : w.cell? ⟨b, 0, none⟩ = some (.bool neg)
  c1 : w.cell? ⟨b, 1, none⟩ = some (.int .u64 (wd n 0))
  c2 : w.cell? ⟨b, 2, none⟩ = some (.int .u64 (wd n 1))
  c3 : w.cell? ⟨b, 3, none⟩ = some (.int .u64 (wd n 2))
  c4 : w.cell? ⟨b, 4, none⟩ = some (.int .u64 (wd n 3))
  c5 : w.cell? ⟨b, 5, none⟩ = some (.int .u64 (wd n 4))
/-- Block b of w holds a decimal, and may be written. -/
structure Dec3 (w : World) (b : Nat) (h l s : Int) : Prop where
  c0 : w.cell? ⟨b, 0, none⟩ = some (.int .i64 h)
  c1 : w.cell? ⟨b, 1, none⟩ = some (.int .u64 l)
  c2 : w.cell? ⟨b, 2, none⟩ = some (.int .i64 s)
  f0 : w.frozen? ⟨b, 0, none⟩ = false
  f1 : w.frozen? ⟨b, 1, none⟩ = false
  f2 : w.frozen? ⟨b, 2, none⟩ = false
theorem Num6.keep {w w' : World} {b n : Nat} {neg : Bool} (h : Num6 w b neg n) (e : w'.heap[b]? = w.heap[b]?) : Num6 w' b neg n := by
  have hc : ∀ j, w'.cell? ⟨b, j, none⟩ = w.cell? ⟨b, j, none⟩ := fun j => World.cell?_of_block (w := w) (w' := w') (a := ⟨b, j, none⟩) e
  obtain ⟨c0, c1, c2, c3, c4, c5⟩ := h
  constructor <;> simp only [hc] <;> assumption
theorem Dec3.keep {w w' : World} {b : Nat} {h l s : Int} (d : Dec3 w b h l s) (e : w'.heap[b]? = w.heap[b]?) : Dec3 w' b h l s := by
  have hc : ∀ j, w'.cell? ⟨b, j, none⟩ = w.cell? ⟨b, j, none⟩ := fun j => World.cell?_of_block (w := w) (w' := w') (a := ⟨b, j, none⟩) e
  have hf : ∀ j, w'.frozen? ⟨b, j, none⟩ = w.frozen? ⟨b, j, none⟩ := fun j => World.frozen?_of_block (w := w) (w' := w') (a := ⟨b, j, none⟩) e
  obtain ⟨c0, c1, c2, f0, f1, f2⟩ := d
  constructor <;> simp only [hc, hf] <;> assumption
/-- A number laid into block b. -/
def set6 (w : World) (b : Nat) (neg : Bool) (n : Nat) : World := ((((((w.setCell ⟨b, 0, none⟩ (.bool neg)).setCell ⟨b, 1, none⟩ (.int .u64 (wd (n) 0))).setCell ⟨b, 2, none⟩ (.int .u64 (wd (n) 1))).setCell ⟨b, 3, none⟩ (.int .u64 (wd (n) 2))).setCell ⟨b, 4, none⟩ (.int .u64 (wd (n) 3))).setCell ⟨b, 5, none⟩ (.int .u64 (wd (n) 4)))
theorem set6_other (w : World) (b : Nat) (neg : Bool) (n : Nat) {k : Nat} (h : k ≠ b) : (set6 w b neg n).heap[k]? = w.heap[k]? := by
  unfold set6
  iterate 6 rw [Below.heap_setCell _ _ _ _ (by exact h)]
theorem set6_size (w : World) (b : Nat) (neg : Bool) (n : Nat) : (set6 w b neg n).heap.size = w.heap.size := by simp [set6]
theorem set6_below {k : Nat} {a w : World} (h : Below k a w) {b : Nat} (hb : k ≤ b) (neg : Bool) (n : Nat) : Below k a (set6 w b neg n) :=
  (((((h.setCell (p := ⟨b, 0, none⟩) hb _).setCell (p := ⟨b, 1, none⟩) hb _).setCell (p := ⟨b, 2, none⟩) hb _).setCell (p := ⟨b, 3, none⟩) hb _).setCell (p := ⟨b, 4, none⟩) hb _).setCell (p := ⟨b, 5, none⟩) hb _
theorem set6_num {w : World} {b : Nat} (h : w.heap[b]? = some (.cells #[.bool false, .int .u64 0, .int .u64 0, .int .u64 0, .int .u64 0, .int .u64 0] 87)) (neg : Bool) (n : Nat) : Num6 (set6 w b neg n) b neg n := by
  have c : ∀ i v, #[Value.bool false, .int .u64 0, .int .u64 0, .int .u64 0, .int .u64 0, .int .u64 0][i]? = some v → w.cell? ⟨b, i, none⟩ = some v := fun i v hv => by rw [block_cell h i]; exact hv
  have c0 := c 0 _ rfl
  have c1 := c 1 _ rfl
  have c2 := c 2 _ rfl
  have c3 := c 3 _ rfl
  have c4 := c 4 _ rfl
  have c5 := c 5 _ rfl
  have s : ∀ (u : World) (i : Nat) (v x : Value), u.cell? ⟨b, i, none⟩ = some x → (u.setCell ⟨b, i, none⟩ v).cell? ⟨b, i, none⟩ = some v := fun u i v x hx => World.cell?_setCell_same _ _ _ hx
  have t : ∀ (u : World) (i j : Nat) (v : Value), i ≠ j → (u.setCell ⟨b, i, none⟩ v).cell? ⟨b, j, none⟩ = u.cell? ⟨b, j, none⟩ := fun u i j v hij => World.cell?_setCell_other _ _ _ _ (ne_addr hij)
  unfold set6
  constructor
  · rw [t _ _ _ _ (by omega), t _ _ _ _ (by omega), t _ _ _ _ (by omega), t _ _ _ _ (by omega), t _ _ _ _ (by omega)]; exact s _ _ _ _ c0
  · rw [t _ _ _ _ (by omega), t _ _ _ _ (by omega), t _ _ _ _ (by omega), t _ _ _ _ (by omega)]; exact s _ _ _ _ (by rw [t _ _ _ _ (by omega)]; exact c1)
  · rw [t _ _ _ _ (by omega), t _ _ _ _ (by omega), t _ _ _ _ (by omega)]; exact s _ _ _ _ (by rw [t _ _ _ _ (by omega), t _ _ _ _ (by omega)]; exact c2)
  · rw [t _ _ _ _ (by omega), t _ _ _ _ (by omega)]; exact s _ _ _ _ (by rw [t _ _ _ _ (by omega), t _ _ _ _ (by omega), t _ _ _ _ (by omega)]; exact c3)
  · rw [t _ _ _ _ (by omega)]; exact s _ _ _ _ (by rw [t _ _ _ _ (by omega), t _ _ _ _ (by omega), t _ _ _ _ (by omega), t _ _ _ _ (by omega)]; exact c4)
  · exact s _ _ _ _ (by rw [t _ _ _ _ (by omega), t _ _ _ _ (by omega), t _ _ _ _ (by omega), t _ _ _ _ (by omega), t _ _ _ _ (by omega)]; exact c5)

/-- What lies there behind 'x, y := numberOf(a), numberOf(b)'. -/
structure Two (w w4 : World) (b1 b2 : Nat) (ca cb : Int) (sa sb : Nat) : Prop where
  a : Dec3 w4 w.heap.size (dhi ca) (dlo ca) sa
  b : Dec3 w4 (w.heap.size + 1) (dhi cb) (dlo cb) sb
  r : Dec3 w4 (w.heap.size + 1 + 1) 0 0 0
  x : Num6 w4 b1 (decide (ca < 0)) ca.natAbs
  y : Num6 w4 b2 (decide (cb < 0)) cb.natAbs
  n1 : w.heap.size + 1 + 1 < b1
  n2 : w.heap.size + 1 + 1 < b2
  s1 : b1 < w4.heap.size
  s2 : b2 < w4.heap.size
  bel : Below w.heap.size w w4

theorem Two.step {w w4 w5 : World} {b1 b2 : Nat} {ca cb : Int} {sa sb : Nat} (h : Two w w4 b1 b2 ca cb sa sb) (k : Below w4.heap.size w4 w5) : Two w w5 b1 b2 ca cb sa sb := by
  obtain ⟨a, b, r, x, y, n1, n2, s1, s2, bel⟩ := h
  have := k.size
  exact ⟨a.keep (k.block _ (by omega)), b.keep (k.block _ (by omega)), r.keep (k.block _ (by omega)), x.keep (k.block _ s1), y.keep (k.block _ s2), n1, n2, by omega, by omega, bel.trans (k.mono (by omega))⟩
theorem two_of {w w0 w3 : World} {b1 b2 : Nat} {ca cb : Int} {sa sb : Nat} (hz : w.heap.size + 1 + 1 < w0.heap.size) (a : Dec3 w0 w.heap.size (dhi ca) (dlo ca) sa) (b : Dec3 w0 (w.heap.size + 1) (dhi cb) (dlo cb) sb) (r : Dec3 w0 (w.heap.size + 1 + 1) 0 0 0) (bel : Below w.heap.size w w0)
    (hl : Later w0 w3) (h1 : w0.heap.size ≤ b1) (h2 : w0.heap.size ≤ b2) (hne : b1 ≠ b2) (hO1 : w3.heap[b1]? = some (.cells #[.bool false, .int .u64 0, .int .u64 0, .int .u64 0, .int .u64 0, .int .u64 0] 87)) (hO2 : w3.heap[b2]? = some (.cells #[.bool false, .int .u64 0, .int .u64 0, .int .u64 0, .int .u64 0, .int .u64 0] 87)) :
    Two w (set6 (set6 w3 b1 (decide (ca < 0)) ca.natAbs) b2 (decide (cb < 0)) cb.natAbs) b1 b2 ca cb sa sb := by
  have e : ∀ k, k < w0.heap.size → (set6 (set6 w3 b1 (decide (ca < 0)) ca.natAbs) b2 (decide (cb < 0)) cb.natAbs).heap[k]? = w0.heap[k]? := fun k hk => by
    rw [set6_other _ _ _ _ (by omega), set6_other _ _ _ _ (by omega)]; exact hl.block k hk
  have l1 := block_lt hO1
  have l2 := block_lt hO2
  refine ⟨a.keep (e _ (by omega)), b.keep (e _ (by omega)), r.keep (e _ hz), (set6_num hO1 _ _).keep (set6_other _ _ _ _ hne), set6_num (by rw [set6_other _ _ _ _ (Ne.symm hne)]; exact hO2) _ _, by omega, by omega, by rw [set6_size, set6_size]; exact l1, by rw [set6_size, set6_size]; exact l2, ?_⟩
  exact set6_below (set6_below (bel.trans (Below.mono hl (by omega))) (by omega) _ _) (by omega) _ _

theorem sgn_zero (c : Int) : sgn c = 0 ↔ c = 0 := by unfold sgn; split <;> (try split) <;> omega

theorem pow_le18 {u : Nat} (h : u ≤ 18) : 10 ^ u ≤ 10 ^ 18 := Nat.pow_le_pow_right (by decide) h
theorem pow_le36 {u : Nat} (h : u ≤ 36) : 10 ^ u ≤ 10 ^ 36 := Nat.pow_le_pow_right (by decide) h
theorem rquo_le (neg : Bool) (n d : Nat) (shift : Int) (mode : Nat) : rquo neg n d shift mode ≤ rnum n shift + 1 := by
  unfold rquo
  have := Nat.div_le_self (rnum n shift) (rden d shift)
  split <;> omega
theorem quo_bounds {ca cb : Int} {sa sb t mode : Nat} (neg : Bool) (ia : InR ca) (ib : InR cb) (hsa : (sa : Int) ≤ 18) (hsb : (sb : Int) ≤ 18) (ht : (t : Int) ≤ 18) (h0 : ¬ cb = 0) :
    rnum ca.natAbs ((t : Int) + sb - sa) < B ^ 5 ∧ 0 < rden cb.natAbs ((t : Int) + sb - sa) ∧ 2 * rden cb.natAbs ((t : Int) + sb - sa) ≤ B ^ 5 ∧ rquo neg ca.natAbs cb.natAbs ((t : Int) + sb - sa) mode < B ^ 5 := by
  have e1 : rnum ca.natAbs ((t : Int) + sb - sa) ≤ 2 ^ 127 * 10 ^ 36 := by
    unfold rnum; exact Nat.mul_le_mul (Nat.le_of_lt (natAbs_lt ia)) (pow_le36 (by omega))
  have e2 : rden cb.natAbs ((t : Int) + sb - sa) ≤ 2 ^ 127 * 10 ^ 18 := by
    unfold rden; exact Nat.mul_le_mul (Nat.le_of_lt (natAbs_lt ib)) (pow_le18 (by omega))
  refine ⟨Nat.lt_of_le_of_lt e1 (by decide), ?_, Nat.le_trans (Nat.mul_le_mul_left 2 e2) (by decide), ?_⟩
  · unfold rden; exact Nat.mul_pos (by omega) (Nat.pow_pos (by decide))
  · exact Nat.lt_of_le_of_lt (Nat.le_trans (rquo_le _ _ _ _ _) (Nat.add_le_add_right e1 1)) (by decide)

end Go.Proofs.YtlgcbbnnldlooaaDoor
