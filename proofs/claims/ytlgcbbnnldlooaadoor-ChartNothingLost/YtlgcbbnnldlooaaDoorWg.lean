/- The contract of the product of two wide numbers (package dec). -/
import Derived.Test.YtlgcbbnnldlooaaDoorWe
import Derived.Test.YtlgcbbnnldlooaaDoorEx
import Derived.Laws.IdiomCopy
import Derived.Deep.RegionWith
namespace Go.Proofs.YtlgcbbnnldlooaaDoor
open Go.RowKit
set_option linter.unusedVariables false
attribute [local go_sem] ext_cell ext_frozen ext_drew ext_of_drew ext_of_drewN ext_setCell ext_lt ext_lt1 ext_lt2 ext_lt3 lt_n2 lt_n3 lt_n4 lt_n5 lt_n6

theorem info_u64 : (Tryd.prog.info? 35).map (·.size) = some 1 := by kernel_rfl
/-- 'copy(product[1:], product[:4])' where product holds five words. -/
theorem run_copy5 (w : World) (b n : Nat) (h : Row5 w b 0 n) :
    (Builtin.copy_ #[27, 27] 3 #[.slice (some ⟨b, 1, none⟩) 4 4, .slice (some ⟨b, 0, none⟩) 4 5]).run Tryd.prog w =
      .ok (.int .i64 4) ((((w.setCell ⟨b, 1, none⟩ (.int .u64 (wd n 0))).setCell ⟨b, 2, none⟩ (.int .u64 (wd n 1))).setCell ⟨b, 3, none⟩ (.int .u64 (wd n 2))).setCell ⟨b, 4, none⟩ (.int .u64 (wd n 3))) := by
  obtain ⟨c0, c1, c2, c3, c4, f0, f1, f2, f3, f4⟩ := h.zero
  rw [run_copy_cells (P := Tryd.prog) w _ _ _ 35 b 1 4 4 ⟨b, 0, none⟩ 4 5 [.int .u64 (wd n 0), .int .u64 (wd n 1), .int .u64 (wd n 2), .int .u64 (wd n 3)] Tryd.underlying27 info_u64 (by simp)]
  · rfl
  · intro j v hj
    match j, hj with
    | 0, hj => simp at hj; subst hj; simpa [Addr.add] using c0
    | 1, hj => simp at hj; subst hj; simpa [Addr.add] using c1
    | 2, hj => simp at hj; subst hj; simpa [Addr.add] using c2
    | 3, hj => simp at hj; subst hj; simpa [Addr.add] using c3
  · intro j hj
    match j, hj with
    | 0, hj => simp [c1]
    | 1, hj => simp [c2]
    | 2, hj => simp [c3]
    | 3, hj => simp [c4]
  · intro j hj
    match j, hj with
    | 0, hj => simp [f1]
    | 1, hj => simp [f2]
    | 2, hj => simp [f3]
    | 3, hj => simp [f4]
  · intro v hv
    simp at hv
    rcases hv with rfl | rfl | rfl | rfl <;> rfl

theorem wd_up0 (n : Nat) : wd (n * B) 0 = 0 := by simp [wd]
theorem wd_up (n i : Nat) : wd (n * B) (i + 1) = wd n i := by
  unfold wd
  rw [Nat.pow_succ, ← Nat.div_div_eq_div_mul, Nat.div_div_eq_div_mul, Nat.mul_comm (B ^ i) B, ← Nat.div_div_eq_div_mul, Nat.mul_div_cancel _ B_pos]
/-- The words moved up by one, and nought below. -/
theorem Row5.up {w : World} {b n : Nat} (h : Row5 w b 0 n) :
    Row5 (((((w.setCell ⟨b, 1, none⟩ (.int .u64 (wd n 0))).setCell ⟨b, 2, none⟩ (.int .u64 (wd n 1))).setCell ⟨b, 3, none⟩ (.int .u64 (wd n 2))).setCell ⟨b, 4, none⟩ (.int .u64 (wd n 3))).setCell ⟨b, 0, none⟩ (.int .u64 0)) b 0 (n * B) := by
  obtain ⟨c0, c1, c2, c3, c4, f0, f1, f2, f3, f4⟩ := h.zero
  have s : ∀ (u : World) (i : Nat) (v x : Value), u.cell? ⟨b, i, none⟩ = some x → (u.setCell ⟨b, i, none⟩ v).cell? ⟨b, i, none⟩ = some v := fun u i v x hx => World.cell?_setCell_same _ _ _ hx
  have t : ∀ (u : World) (i j : Nat) (v : Value), i ≠ j → (u.setCell ⟨b, i, none⟩ v).cell? ⟨b, j, none⟩ = u.cell? ⟨b, j, none⟩ := fun u i j v hij => World.cell?_setCell_other _ _ _ _ (ne_addr hij)
  constructor
  · rw [wd_up0, s _ _ _ _ (by rw [t _ _ _ _ (by omega), t _ _ _ _ (by omega), t _ _ _ _ (by omega), t _ _ _ _ (by omega)]; exact c0)]
  · rw [wd_up, t _ _ _ _ (by omega), t _ _ _ _ (by omega), t _ _ _ _ (by omega), t _ _ _ _ (by omega)]; exact s _ _ _ _ c1
  · rw [wd_up, t _ _ _ _ (by omega), t _ _ _ _ (by omega), t _ _ _ _ (by omega)]; exact s _ _ _ _ (by rw [t _ _ _ _ (by omega)]; exact c2)
  · rw [wd_up, t _ _ _ _ (by omega), t _ _ _ _ (by omega)]; exact s _ _ _ _ (by rw [t _ _ _ _ (by omega), t _ _ _ _ (by omega)]; exact c3)
  · rw [wd_up, t _ _ _ _ (by omega)]; exact s _ _ _ _ (by rw [t _ _ _ _ (by omega), t _ _ _ _ (by omega), t _ _ _ _ (by omega)]; exact c4)
  all_goals (simp only [World.frozen?_setCell]; assumption)

def up5 (w : World) (b n : Nat) : World := (((((w.setCell ⟨b, 1, none⟩ (.int .u64 (wd n 0))).setCell ⟨b, 2, none⟩ (.int .u64 (wd n 1))).setCell ⟨b, 3, none⟩ (.int .u64 (wd n 2))).setCell ⟨b, 4, none⟩ (.int .u64 (wd n 3))).setCell ⟨b, 0, none⟩ (.int .u64 0))
theorem Row5.up5 {w : World} {b n : Nat} (h : Row5 w b 0 n) : Row5 (up5 w b n) b 0 (n * B) := h.up
theorem Row5.up_other {w : World} {b o n : Nat} (h : Row5 w b o n) {b' : Nat} (hb : b' ≠ b) (n' : Nat) : Row5 (YtlgcbbnnldlooaaDoor.up5 w b' n') b o n :=
  ((((h.setCell (p := ⟨b', 1, none⟩) hb _).setCell (p := ⟨b', 2, none⟩) hb _).setCell (p := ⟨b', 3, none⟩) hb _).setCell (p := ⟨b', 4, none⟩) hb _).setCell (p := ⟨b', 0, none⟩) hb _
theorem size_up5 (w : World) (b n : Nat) : (YtlgcbbnnldlooaaDoor.up5 w b n).heap.size = w.heap.size := by simp [YtlgcbbnnldlooaaDoor.up5]
theorem below_up5 {k : Nat} {w w' : World} (h : Below k w w') {b : Nat} (hb : k ≤ b) (n : Nat) : Below k w (YtlgcbbnnldlooaaDoor.up5 w' b n) :=
  ((((h.setCell (p := ⟨b, 1, none⟩) hb _).setCell (p := ⟨b, 2, none⟩) hb _).setCell (p := ⟨b, 3, none⟩) hb _).setCell (p := ⟨b, 4, none⟩) hb _).setCell (p := ⟨b, 0, none⟩) hb _

/-- What the round leaves. -/
theorem times_rel {w w2 x : World} {m n P k : Nat} (hk : k ≤ 4) (HP : P * B + m * wn n k = m * (n / B ^ k)) (U0 : Row5 w2 w.heap.size 0 m) (U1 : Row5 w2 (w.heap.size + 1) 0 n) (U2 : Row5 w2 (w.heap.size + 1 + 1) 0 0)
    (U3 : Row5 w2 (w.heap.size + 1 + 1 + 1) 0 (P * B)) (hsz2 : w.heap.size + 1 + 1 + 1 < w2.heap.size) (hbel2 : Below w.heap.size w w2) :
    ∃ (j : Nat) (z : Int), j ≤ 5 ∧ Hid (z + 1 = j) ∧ Value.int .i64 ((k : Int) - 1) = .int .i64 z ∧ Row5 (ext (((((w2.setCell ⟨w.heap.size + 1 + 1 + 1, 0, none⟩ (.int .u64 (wd (P * B + m * wn n k) 0))).setCell ⟨w.heap.size + 1 + 1 + 1, 1, none⟩ (.int .u64 (wd (P * B + m * wn n k) 1))).setCell ⟨w.heap.size + 1 + 1 + 1, 2, none⟩ (.int .u64 (wd (P * B + m * wn n k) 2))).setCell ⟨w.heap.size + 1 + 1 + 1, 3, none⟩ (.int .u64 (wd (P * B + m * wn n k) 3))).setCell ⟨w.heap.size + 1 + 1 + 1, 4, none⟩ (.int .u64 (wd (P * B + m * wn n k) 4))) x) w.heap.size 0 m ∧
      Row5 (ext (((((w2.setCell ⟨w.heap.size + 1 + 1 + 1, 0, none⟩ (.int .u64 (wd (P * B + m * wn n k) 0))).setCell ⟨w.heap.size + 1 + 1 + 1, 1, none⟩ (.int .u64 (wd (P * B + m * wn n k) 1))).setCell ⟨w.heap.size + 1 + 1 + 1, 2, none⟩ (.int .u64 (wd (P * B + m * wn n k) 2))).setCell ⟨w.heap.size + 1 + 1 + 1, 3, none⟩ (.int .u64 (wd (P * B + m * wn n k) 3))).setCell ⟨w.heap.size + 1 + 1 + 1, 4, none⟩ (.int .u64 (wd (P * B + m * wn n k) 4))) x) (w.heap.size + 1) 0 n ∧
      Row5 (ext (((((w2.setCell ⟨w.heap.size + 1 + 1 + 1, 0, none⟩ (.int .u64 (wd (P * B + m * wn n k) 0))).setCell ⟨w.heap.size + 1 + 1 + 1, 1, none⟩ (.int .u64 (wd (P * B + m * wn n k) 1))).setCell ⟨w.heap.size + 1 + 1 + 1, 2, none⟩ (.int .u64 (wd (P * B + m * wn n k) 2))).setCell ⟨w.heap.size + 1 + 1 + 1, 3, none⟩ (.int .u64 (wd (P * B + m * wn n k) 3))).setCell ⟨w.heap.size + 1 + 1 + 1, 4, none⟩ (.int .u64 (wd (P * B + m * wn n k) 4))) x) (w.heap.size + 1 + 1) 0 0 ∧
      Row5 (ext (((((w2.setCell ⟨w.heap.size + 1 + 1 + 1, 0, none⟩ (.int .u64 (wd (P * B + m * wn n k) 0))).setCell ⟨w.heap.size + 1 + 1 + 1, 1, none⟩ (.int .u64 (wd (P * B + m * wn n k) 1))).setCell ⟨w.heap.size + 1 + 1 + 1, 2, none⟩ (.int .u64 (wd (P * B + m * wn n k) 2))).setCell ⟨w.heap.size + 1 + 1 + 1, 3, none⟩ (.int .u64 (wd (P * B + m * wn n k) 3))).setCell ⟨w.heap.size + 1 + 1 + 1, 4, none⟩ (.int .u64 (wd (P * B + m * wn n k) 4))) x) (w.heap.size + 1 + 1 + 1) 0 (m * (n / B ^ j)) ∧
      w.heap.size + 1 + 1 + 1 < (ext (((((w2.setCell ⟨w.heap.size + 1 + 1 + 1, 0, none⟩ (.int .u64 (wd (P * B + m * wn n k) 0))).setCell ⟨w.heap.size + 1 + 1 + 1, 1, none⟩ (.int .u64 (wd (P * B + m * wn n k) 1))).setCell ⟨w.heap.size + 1 + 1 + 1, 2, none⟩ (.int .u64 (wd (P * B + m * wn n k) 2))).setCell ⟨w.heap.size + 1 + 1 + 1, 3, none⟩ (.int .u64 (wd (P * B + m * wn n k) 3))).setCell ⟨w.heap.size + 1 + 1 + 1, 4, none⟩ (.int .u64 (wd (P * B + m * wn n k) 4))) x).heap.size ∧ Below w.heap.size w (ext (((((w2.setCell ⟨w.heap.size + 1 + 1 + 1, 0, none⟩ (.int .u64 (wd (P * B + m * wn n k) 0))).setCell ⟨w.heap.size + 1 + 1 + 1, 1, none⟩ (.int .u64 (wd (P * B + m * wn n k) 1))).setCell ⟨w.heap.size + 1 + 1 + 1, 2, none⟩ (.int .u64 (wd (P * B + m * wn n k) 2))).setCell ⟨w.heap.size + 1 + 1 + 1, 3, none⟩ (.int .u64 (wd (P * B + m * wn n k) 3))).setCell ⟨w.heap.size + 1 + 1 + 1, 4, none⟩ (.int .u64 (wd (P * B + m * wn n k) 4))) x) := by
  have K : ∀ {b o y : Nat}, Row5 (set5 w2 (w.heap.size + 1 + 1 + 1) 0 (P * B + m * wn n k)) b o y → b < w2.heap.size → Row5 (ext (set5 w2 (w.heap.size + 1 + 1 + 1) 0 (P * B + m * wn n k)) x) b o y :=
    fun h hb => h.keep (ext_get _ _ _ (by rw [size_set5]; exact hb))
  refine ⟨k, (k : Int) - 1, by omega, by show (k : Int) - 1 + 1 = k; omega, rfl, K (U0.laid_other (by omega) 0 _) (by omega), K (U1.laid_other (by omega) 0 _) (by omega), K (U2.laid_other (by omega) 0 _) (by omega), (K (U3.laid _) hsz2).congr HP, ?_, ?_⟩
  · rw [ext_size, World.size_setCell, World.size_setCell, World.size_setCell, World.size_setCell, World.size_setCell]; omega
  · exact below_ext (below_set5 hbel2 (by omega) 0 _) (by rw [size_set5]; omega) x

end Go.Proofs.YtlgcbbnnldlooaaDoor
