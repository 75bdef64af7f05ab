/- The contract of the product of two wide numbers (package dec). -/
import Derived.Test.YtkndnpkpdchbiaaDoorWe
import Derived.Test.YtkndnpkpdchbiaaDoorEx
import Derived.Laws.IdiomCopy
import Derived.Deep.RegionWith
namespace Go.Proofs.YtkndnpkpdchbiaaDoor
open Go.RowKit
set_option linter.unusedVariables false
attribute [local go_sem] ext_cell ext_frozen ext_drew ext_of_drew ext_of_drewN ext_setCell ext_lt ext_lt1 ext_lt2 ext_lt3 lt_n2 lt_n3 lt_n4 lt_n5 lt_n6

theorem info_u64 : (Tryd.prog.info? 33).map (·.size) = some 1 := by kernel_rfl
/-- 'copy(product[1:], product[:4])' where product holds five words. -/
theorem run_copy5 (w : World) (b n : Nat) (h : Row5 w b 0 n) :
    (Builtin.copy_ #[57, 57] 3 #[.slice (some ⟨b, 1, none⟩) 4 4, .slice (some ⟨b, 0, none⟩) 4 5]).run Tryd.prog w =
      .ok (.int .i64 4) ((((w.setCell ⟨b, 1, none⟩ (.int .u64 (wd n 0))).setCell ⟨b, 2, none⟩ (.int .u64 (wd n 1))).setCell ⟨b, 3, none⟩ (.int .u64 (wd n 2))).setCell ⟨b, 4, none⟩ (.int .u64 (wd n 3))) := by
  obtain ⟨c0, c1, c2, c3, c4, f0, f1, f2, f3, f4⟩ := h.zero
  rw [run_copy_cells (P := Tryd.prog) w _ _ _ 33 b 1 4 4 ⟨b, 0, none⟩ 4 5 [.int .u64 (wd n 0), .int .u64 (wd n 1), .int .u64 (wd n 2), .int .u64 (wd n 3)] Tryd.underlying57 info_u64 (by simp)]
  · rfl
  · intro j v hj
    match j, hj with
    | 0, hj => simp at hj; subst hj; simpa [Addr.add] using c0
    | 1, hj => simp at hj; subst hj; simpa [Addr.add] using c1
    | 2, hj => simp at hj; subst hj; simpa [Addr.add] using c2
    | 3, hj => simp at hj; subst hj; simpa [Addr.add] using c3
  · intro j hj
    match j, hj with
    | 0, hj => simp [c1]
    | 1, hj => simp [c2]
    | 2, hj => simp [c3]
    | 3, hj => simp [c4]
  · intro j hj
    match j, hj with
    | 0, hj => simp [f1]
    | 1, hj => simp [f2]
    | 2, hj => simp [f3]
    | 3, hj => simp [f4]
  · intro v hv
    simp at hv
    rcases hv with rfl | rfl | rfl | rfl <;> rfl

theorem wd_up0 (n : Nat) : wd (n * B) 0 = 0 := by simp [wd]
theorem wd_up (n i : Nat) : wd (n * B) (i + 1) = wd n i := by
  unfold wd
  rw [Nat.pow_succ, ← Nat.div_div_eq_div_mul, Nat.div_div_eq_div_mul, Nat.mul_comm (B ^ i) B, ← Nat.div_div_eq_div_mul, Nat.mul_div_cancel _ B_pos]
/-- The words moved up by one, and nought below. -/
theorem Row5.up {w : World} {b n : Nat} (h : Row5 w b 0 n) :
    Row5 (((((w.setCell ⟨b, 1, none⟩ (.int .u64 (wd n 0))).setCell ⟨b, 2, none⟩ (.int .u64 (wd n 1))).setCell ⟨b, 3, none⟩ (.int .u64 (wd n 2))).setCell ⟨b, 4, none⟩ (.int .u64 (wd n 3))).setCell ⟨b, 0, none⟩ (.int .u64 0)) b 0 (n * B) := by
  obtain ⟨c0, c1, c2, c3, c4, f0, f1, f2, f3, f4⟩ := h.zero
  have s : ∀ (u : World) (i : Nat) (v x : Value), u.cell? ⟨b, i, none⟩ = some x → (u.setCell ⟨b, i, none⟩ v).cell? ⟨b, i, none⟩ = some v := fun u i v x hx => World.cell?_setCell_same _ _ _ hx
  have t : ∀ (u : World) (i j : Nat) (v : Value), i ≠ j → (u.setCell ⟨b, i, none⟩ v).cell? ⟨b, j, none⟩ = u.cell? ⟨b, j, none⟩ := fun u i j v hij => World.cell?_setCell_other _ _ _ _ (ne_addr hij)
  constructor
  · rw [wd_up0, s _ _ _ _ (by rw [t _ _ _ _ (by omega), t _ _ _ _ (by omega), t _ _ _ _ (by omega), t _ _ _ _ (by omega)]; exact c0)]
  · rw [wd_up, t _ _ _ _ (by omega), t _ _ _ _ (by omega), t _ _ _ _ (by omega), t _ _ _ _ (by omega)]; exact s _ _ _ _ c1
  · rw [wd_up, t _ _ _ _ (by omega), t _ _ _ _ (by omega), t _ _ _ _ (by omega)]; exact s _ _ _ _ (by rw [t _ _ _ _ (by omega)]; exact c2)
  · rw [wd_up, t _ _ _ _ (by omega), t _ _ _ _ (by omega)]; exact s _ _ _ _ (by rw [t _ _ _ _ (by omega), t _ _ _ _ (by omega)]; exact c3)
  · rw [wd_up, t _ _ _ _ (by omega)]; exact s _ _ _ _ (by rw [t _ _ _ _ (by omega), t _ _ _ _ (by omega), t _ _ _ _ (by omega)]; exact c4)
  all_goals (simp only [World.frozen?_setCell]; assumption)

def up5 (w : World) (b n : Nat) : World := (((((w.setCell ⟨b, 1, none⟩ (.int .u64 (wd n 0))).setCell ⟨b, 2, none⟩ (.int .u64 (wd n 1))).setCell ⟨b, 3, none⟩ (.int .u64 (wd n 2))).setCell ⟨b, 4, none⟩ (.int .u64 (wd n 3))).setCell ⟨b, 0, none⟩ (.int .u64 0))
theorem Row5.up5 {w : World} {b n : Nat} (h : Row5 w b 0 n) : Row5 (up5 w b n) b 0 (n * B) := h.up
theorem Row5.up_other {w : World} {b o n : Nat} (h : Row5 w b o n) {b' : Nat} (hb : b' ≠ b) (n' : Nat) : Row5 (YtkndnpkpdchbiaaDoor.up5 w b' n') b o n :=
  ((((h.setCell (p := ⟨b', 1, none⟩) hb _).setCell (p := ⟨b', 2, none⟩) hb _).setCell (p := ⟨b', 3, none⟩) hb _).setCell (p := ⟨b', 4, none⟩) hb _).setCell (p := ⟨b', 0, none⟩) hb _
theorem size_up5 (w : World) (b n : Nat) : (YtkndnpkpdchbiaaDoor.up5 w b n).heap.size = w.heap.size := by simp [YtkndnpkpdchbiaaDoor.up5]
theorem below_up5 {k : Nat} {w w' : World} (h : Below k w w') {b : Nat} (hb : k ≤ b) (n : Nat) : Below k w (YtkndnpkpdchbiaaDoor.up5 w' b n) :=
  ((((h.setCell (p := ⟨b, 1, none⟩) hb _).setCell (p := ⟨b, 2, none⟩) hb _).setCell (p := ⟨b, 3, none⟩) hb _).setCell (p := ⟨b, 4, none⟩) hb _).setCell (p := ⟨b, 0, none⟩) hb _

/-- What the round leaves. -/
theorem times_rel {w w2 x : World} {m n P k : Nat} (hk : k ≤ 4) (HP : P * B + m * wn n k = m * (n / B ^ k)) (U0 : Row5 w2 w.heap.size 0 m) (U1 : Row5 w2 (w.heap.size + 1) 0 n) (U2 : Row5 w2 (w.heap.size + 1 + 1) 0 0)
    (U3 : Row5 w2 (w.heap.size + 1 + 1 + 1) 0 (P * B)) (hsz2 : w.heap.size + 1 + 1 + 1 < w2.heap.size) (hbel2 : Below w.heap.size w w2) :
    ∃ (j : Nat) (z : Int), j ≤ 5 ∧ Hid (z + 1 = j) ∧ Value.int .i64 ((k : Int) - 1) = .int .i64 z ∧ Row5 (ext (((((w2.setCell ⟨w.heap.size + 1 + 1 + 1, 0, none⟩ (.int .u64 (wd (P * B + m * wn n k) 0))).setCell ⟨w.heap.size + 1 + 1 + 1, 1, none⟩ (.int .u64 (wd (P * B + m * wn n k) 1))).setCell ⟨w.heap.size + 1 + 1 + 1, 2, none⟩ (.int .u64 (wd (P * B + m * wn n k) 2))).setCell ⟨w.heap.size + 1 + 1 + 1, 3, none⟩ (.int .u64 (wd (P * B + m * wn n k) 3))).setCell ⟨w.heap.size + 1 + 1 + 1, 4, none⟩ (.int .u64 (wd (P * B + m * wn n k) 4))) x) w.heap.size 0 m ∧
      Row5 (ext (((((w2.setCell ⟨w.heap.size + 1 + 1 + 1, 0, none⟩ (.int .u64 (wd (P * B + m * wn n k) 0))).setCell ⟨w.heap.size + 1 + 1 + 1, 1, none⟩ (.int .u64 (wd (P * B + m * wn n k) 1))).setCell ⟨w.heap.size + 1 + 1 + 1, 2, none⟩ (.int .u64 (wd (P * B + m * wn n k) 2))).setCell ⟨w.heap.size + 1 + 1 + 1, 3, none⟩ (.int .u64 (wd (P * B + m * wn n k) 3))).setCell ⟨w.heap.size + 1 + 1 + 1, 4, none⟩ (.int .u64 (wd (P * B + m * wn n k) 4))) x) (w.heap.size + 1) 0 n ∧
      Row5 (ext (((((w2.setCell ⟨w.heap.size + 1 + 1 + 1, 0, none⟩ (.int .u64 (wd (P * B + m * wn n k) 0))).setCell ⟨w.heap.size + 1 + 1 + 1, 1, none⟩ (.int .u64 (wd (P * B + m * wn n k) 1))).setCell ⟨w.heap.size + 1 + 1 + 1, 2, none⟩ (.int .u64 (wd (P * B + m * wn n k) 2))).setCell ⟨w.heap.size + 1 + 1 + 1, 3, none⟩ (.int .u64 (wd (P * B + m * wn n k) 3))).setCell ⟨w.heap.size + 1 + 1 + 1, 4, none⟩ (.int .u64 (wd (P * B + m * wn n k) 4))) x) (w.heap.size + 1 + 1) 0 0 ∧
      Row5 (ext (((((w2.setCell ⟨w.heap.size + 1 + 1 + 1, 0, none⟩ (.int .u64 (wd (P * B + m * wn n k) 0))).setCell ⟨w.heap.size + 1 + 1 + 1, 1, none⟩ (.int .u64 (wd (P * B + m * wn n k) 1))).setCell ⟨w.heap.size + 1 + 1 + 1, 2, none⟩ (.int .u64 (wd (P * B + m * wn n k) 2))).setCell ⟨w.heap.size + 1 + 1 + 1, 3, none⟩ (.int .u64 (wd (P * B + m * wn n k) 3))).setCell ⟨w.heap.size + 1 + 1 + 1, 4, none⟩ (.int .u64 (wd (P * B + m * wn n k) 4))) x) (w.heap.size + 1 + 1 + 1) 0 (m * (n / B ^ j)) ∧
      w.heap.size + 1 + 1 + 1 < (ext (((((w2.setCell ⟨w.heap.size + 1 + 1 + 1, 0, none⟩ (.int .u64 (wd (P * B + m * wn n k) 0))).setCell ⟨w.heap.size + 1 + 1 + 1, 1, none⟩ (.int .u64 (wd (P * B + m * wn n k) 1))).setCell ⟨w.heap.size + 1 + 1 + 1, 2, none⟩ (.int .u64 (wd (P * B + m * wn n k) 2))).setCell ⟨w.heap.size + 1 + 1 + 1, 3, none⟩ (.int .u64 (wd (P * B + m * wn n k) 3))).setCell ⟨w.heap.size + 1 + 1 + 1, 4, none⟩ (.int .u64 (wd (P * B + m * wn n k) 4))) x).heap.size ∧ Below w.heap.size w (ext (((((w2.setCell ⟨w.heap.size + 1 + 1 + 1, 0, none⟩ (.int .u64 (wd (P * B + m * wn n k) 0))).setCell ⟨w.heap.size + 1 + 1 + 1, 1, none⟩ (.int .u64 (wd (P * B + m * wn n k) 1))).setCell ⟨w.heap.size + 1 + 1 + 1, 2, none⟩ (.int .u64 (wd (P * B + m * wn n k) 2))).setCell ⟨w.heap.size + 1 + 1 + 1, 3, none⟩ (.int .u64 (wd (P * B + m * wn n k) 3))).setCell ⟨w.heap.size + 1 + 1 + 1, 4, none⟩ (.int .u64 (wd (P * B + m * wn n k) 4))) x) := by
  have K : ∀ {b o y : Nat}, Row5 (set5 w2 (w.heap.size + 1 + 1 + 1) 0 (P * B + m * wn n k)) b o y → b < w2.heap.size → Row5 (ext (set5 w2 (w.heap.size + 1 + 1 + 1) 0 (P * B + m * wn n k)) x) b o y :=
    fun h hb => h.keep (ext_get _ _ _ (by rw [size_set5]; exact hb))
  refine ⟨k, (k : Int) - 1, by omega, by show (k : Int) - 1 + 1 = k; omega, rfl, K (U0.laid_other (by omega) 0 _) (by omega), K (U1.laid_other (by omega) 0 _) (by omega), K (U2.laid_other (by omega) 0 _) (by omega), (K (U3.laid _) hsz2).congr HP, ?_, ?_⟩
  · rw [ext_size, World.size_setCell, World.size_setCell, World.size_setCell, World.size_setCell, World.size_setCell]; omega
  · exact below_ext (below_set5 hbel2 (by omega) 0 _) (by rw [size_set5]; omega) x

set_option maxHeartbeats 1000000 in
set_option maxRecDepth 100000 in
theorem times_any (m n : Nat) (a0 a1 a2 a3 a4 b0 b1 b2 b3 b4 : Int) (w : World) (ha : IsW m a0 a1 a2 a3 a4) (hb : IsW n b0 b1 b2 b3 b4) (hn : n < B ^ 5) :
    Calls Tryd.prog 40 #[.agg #[.int .u64 a0, .int .u64 a1, .int .u64 a2, .int .u64 a3, .int .u64 a4], .agg #[.int .u64 b0, .int .u64 b1, .int .u64 b2, .int .u64 b3, .int .u64 b4]] w
      fun e w' => e = .returned (.agg #[.int .u64 (wd (m * n) 0), .int .u64 (wd (m * n) 1), .int .u64 (wd (m * n) 2), .int .u64 (wd (m * n) 3), .int .u64 (wd (m * n) 4)]) ∧ Below w.heap.size w w' := by
  obtain ⟨rfl, rfl, rfl, rfl, rfl⟩ := ha
  obtain ⟨rfl, rfl, rfl, rfl, rfl⟩ := hb
  go_enter Tryd.func40, Tryd.ntmps40
  go_wp2
  go_loopw [6] (fun i wr => ∃ (k : Nat) (z : Int), k ≤ 5 ∧ Hid (z + 1 = k) ∧ i = .int .i64 z ∧ Row5 wr w.heap.size 0 m ∧ Row5 wr (w.heap.size + 1) 0 n ∧ Row5 wr (w.heap.size + 1 + 1) 0 0 ∧ Row5 wr (w.heap.size + 1 + 1 + 1) 0 (m * (n / B ^ k)) ∧ w.heap.size + 1 + 1 + 1 < wr.heap.size ∧ Below w.heap.size w wr)
    (fun i _ => (intOf i + 1).toNat)
  case atStart =>
    refine ⟨5, 4, by omega, rfl, rfl, ?_, ?_, ?_, ?_, ?_, ?_⟩
    · constructor <;> simp [go_sem]
    · constructor <;> simp [go_sem]
    · constructor <;> simp [go_sem, wd_zero]
    · rw [Nat.div_eq_of_lt hn, Nat.mul_zero]
      constructor <;> simp [go_sem, wd_zero]
    · simp
    · repeat (first | exact Below.refl _ _ | refine Below.drew ?_ | refine below_drewN ?_ _ | refine bel_alloc ?_ _ | refine bel_ext ?_ _ | (refine Below.setCell ?_ ?_ _; rotate_left; (simp <;> omega)))
  case round =>
    obtain ⟨k1, z, hk, hkz, rfl, R0, R1, R2, R3, hsz, hbel⟩ := hrel
    have hk1 := hkz.out
    clear hkz
    by_cases hz0 : 0 ≤ z
    · obtain ⟨k, rfl⟩ := Int.eq_ofNat_of_zero_le hz0
      obtain rfl : k1 = k + 1 := by omega
      have hk5 : (k : Int) < 5 := by omega
      clear hk1
      have hcp := fun x => run_copy5 (ext wr x) _ _ (R3.keep (ext_get wr x _ (show w.heap.size + 1 + 1 + 1 < wr.heap.size by omega)))
      have U3 := R3.up5
      have U0 := R0.up_other (b' := w.heap.size + 1 + 1 + 1) (by omega) (m * (n / B ^ (k + 1)))
      have U1 := R1.up_other (b' := w.heap.size + 1 + 1 + 1) (by omega) (m * (n / B ^ (k + 1)))
      have U2 := R2.up_other (b' := w.heap.size + 1 + 1 + 1) (by omega) (m * (n / B ^ (k + 1)))
      have hz := size_up5 wr (w.heap.size + 1 + 1 + 1) (m * (n / B ^ (k + 1)))
      have hbel2 := below_up5 hbel (b := w.heap.size + 1 + 1 + 1) (by omega) (m * (n / B ^ (k + 1)))
      obtain ⟨c0, c1, c2, c3, c4, f0, f1, f2, f3, f4⟩ := R3.zero
      have HP : Hid (m * (n / B ^ (k + 1)) * B + m * wn n k = m * (n / B ^ k)) := by
        show m * (n / B ^ (k + 1)) * B + m * wn n k = m * (n / B ^ k)
        rw [top_split n k, Nat.mul_add, Nat.mul_comm B, Nat.mul_assoc]
      generalize m * (n / B ^ (k + 1)) = P at *
      have HZ := (show Hid _ from hz)
      clear hz
      go_wp2
      refine wp_region_ext 2 (by kernel_rfl) (by kernel_rfl) ?_
      iterate 2 (refine wpQuiet_step (fun K hK => ?_); go_simp; first | (refine hK _ ?_; clear hK K) | (apply Exists.intro; refine ⟨fun xq => ?_, hK _ ?_⟩; (fail); clear hK K))
      refine wpQuiet_nil ?_
      intro xq
      simp only [List.drop_succ_cons, List.drop_zero]
      go_wp2
      rw [show (((((wr.setCell ⟨w.heap.size + 1 + 1 + 1, 1, none⟩ (.int .u64 (wd P 0))).setCell ⟨w.heap.size + 1 + 1 + 1, 2, none⟩ (.int .u64 (wd P 1))).setCell ⟨w.heap.size + 1 + 1 + 1, 3, none⟩ (.int .u64 (wd P 2))).setCell ⟨w.heap.size + 1 + 1 + 1, 4, none⟩ (.int .u64 (wd P 3))).setCell ⟨w.heap.size + 1 + 1 + 1, 0, none⟩ (.int .u64 0)) = up5 wr (w.heap.size + 1 + 1 + 1) P from rfl]
      clear hcp c0 c1 c2 c3 c4 f0 f1 f2 f3 f4 R0 R1 R2 R3 hbel
      have hsz1 : w.heap.size + 1 + 1 + 1 < (up5 wr (w.heap.size + 1 + 1 + 1) P).heap.size := by have := HZ.out; omega
      clear HZ hsz
      generalize up5 wr (w.heap.size + 1 + 1 + 1) P = w1 at *
      have T0 := U0.keep (ext_get w1 xq _ (by omega))
      have T1 := U1.keep (ext_get w1 xq _ (by omega))
      have T2 := U2.keep (ext_get w1 xq _ (by omega))
      have T3 := U3.keep (ext_get w1 xq _ (by omega))
      have hbel3 := below_ext hbel2 (by omega) xq
      have hsz2 : w.heap.size + 1 + 1 + 1 < (ext w1 xq).heap.size := by rw [ext_size]; omega
      clear U0 U1 U2 U3 hbel2 hsz1
      generalize ext w1 xq = w2 at *
      have h0 : w.heap.size < w2.heap.size := by omega
      have h1 : w.heap.size + 1 < w2.heap.size := by omega
      have HU2 := (show Hid _ from T2)
      clear T2
      obtain ⟨c0, c1, c2, c3, c4, f0, f1, f2, f3, f4⟩ := T3.zero
      obtain ⟨a0, a1, a2, a3, a4, -, -, -, -, -⟩ := T0.zero
      have b0 := T1.nth k (by omega)
      refine wp_region_ext 7 (by kernel_rfl) (by kernel_rfl) ?_
      iterate 7 (refine wpQuiet_step (fun K hK => ?_); go_simp; first | (refine hK _ ?_; clear hK K) | (apply Exists.intro; refine ⟨fun xq => ?_, hK _ ?_⟩; (first | (go_at_call 57; exact calls_ext (timesWord_any m (wn n k) _ _ _ _ _ _ (IsW.self _) (wn_lt _ _))) | (go_at_call 56; exact calls_ext (plus_any (P * B) (m * wn n k) _ _ _ _ _ _ _ _ _ _ _ (IsW.self _) (IsW.self _)))); clear hK K))
      refine wpQuiet_nil ?_
      intro xq
      simp only [List.drop_succ_cons, List.drop_zero]
      go_wp2
      go_roundw
      case rel => exact times_rel (x := xq) (by omega) HP.out T0 T1 HU2.out T3 hsz2 hbel3
      case measure => simp [intOf]
    · obtain rfl : k1 = 0 := by omega
      clear hk1
      obtain ⟨c0, c1, c2, c3, c4, f0, f1, f2, f3, f4⟩ := R3.zero
      obtain ⟨d0, d1, d2, d3, d4, g0, g1, g2, g3, g4⟩ := R2.zero
      rw [Nat.pow_zero, Nat.div_one] at c0 c1 c2 c3 c4
      go_wp2
      refine bodyPost_ret (v := .agg _) (by simp [results, Tryd.results40, go_sem, d0, d1, d2, d3, d4]) rfl ⟨rfl, ?_⟩
      exact below_set5 hbel (by omega) 0 _
end Go.Proofs.YtkndnpkpdchbiaaDoor
