/- texts of the model: Wg Na Nb Nc Nd Ne -/
import Derived.Test.YtjkiplndbcmmbaaGreatDoorX09
import Derived.Test.YtjkiplndbcmmbaaGreatDoorX02
import Derived.Laws.IdiomCopy
import Derived.Deep.RegionWith
import Derived.Test.YtjkiplndbcmmbaaGreatDoorX11
import Derived.Test.YtjkiplndbcmmbaaGreatDoorX10
import Derived.ChangeKeysEq
set_option linter.unusedVariables false
set_option linter.unusedSimpArgs false
set_option maxHeartbeats 16000000
namespace Go.Proofs.YtjkiplndbcmmbaaGreatDoor
open Go.RowKit
attribute [local go_sem] au ao av aj ag ak aJ aA aB aC aS aT aU aV aW
theorem p4 : (Tryz.prog.info? 23).map (·.size) = some 1 := by kernel_rfl
theorem nJ (w : World) (b n : Nat) (h : Row5 w b 0 n) :
  (Builtin.copy_ #[58, 58] 3 #[.slice (some ⟨b, 1, none⟩) 4 4, .slice (some ⟨b, 0, none⟩) 4 5]).run Tryz.prog w =
   .ok (.int .i64 4) ((((w.setCell ⟨b, 1, none⟩ (.int .u64 (wd n 0))).setCell ⟨b, 2, none⟩ (.int .u64 (wd n 1))).setCell ⟨b, 3, none⟩ (.int .u64 (wd n 2))).setCell ⟨b, 4, none⟩ (.int .u64 (wd n 3))) := by
 obtain ⟨c0, c1, c2, c3, c4, f0, f1, f2, f3, f4⟩ := h.zero
 rw [run_copy_cells (P := Tryz.prog) w _ _ _ 23 b 1 4 4 ⟨b, 0, none⟩ 4 5 [.int .u64 (wd n 0), .int .u64 (wd n 1), .int .u64 (wd n 2), .int .u64 (wd n 3)] Tryz.underlying58 p4 (by simp)]
 ·rfl
 ·intro j v hj
  match j, hj with
  | 0, hj => simp at hj; subst hj; simpa [Addr.add] using c0
  | 1, hj => simp at hj; subst hj; simpa [Addr.add] using c1
  | 2, hj => simp at hj; subst hj; simpa [Addr.add] using c2
  | 3, hj => simp at hj; subst hj; simpa [Addr.add] using c3
 ·intro j hj
  match j, hj with
  | 0, hj => simp [c1]
  | 1, hj => simp [c2]
  | 2, hj => simp [c3]
  | 3, hj => simp [c4]
 ·intro j hj
  match j, hj with
  | 0, hj => simp [f1]
  | 1, hj => simp [f2]
  | 2, hj => simp [f3]
  | 3, hj => simp [f4]
 ·intro v hv
  simp at hv
  rcases hv with rfl | rfl | rfl | rfl <;> rfl
theorem uX (n : Nat) : wd (n * B) 0 = 0 := by simp [wd]
theorem mJ (n i : Nat) : wd (n * B) (i + 1) = wd n i := by
 unfold wd
 rw [Nat.pow_succ, ← Nat.div_div_eq_div_mul, Nat.div_div_eq_div_mul, Nat.mul_comm (B ^ i) B, ← Nat.div_div_eq_div_mul, Nat.mul_div_cancel _ bB]
theorem Row5.up {w : World} {b n : Nat} (h : Row5 w b 0 n) :
  Row5 (((((w.setCell ⟨b, 1, none⟩ (.int .u64 (wd n 0))).setCell ⟨b, 2, none⟩ (.int .u64 (wd n 1))).setCell ⟨b, 3, none⟩ (.int .u64 (wd n 2))).setCell ⟨b, 4, none⟩ (.int .u64 (wd n 3))).setCell ⟨b, 0, none⟩ (.int .u64 0)) b 0 (n * B) := by
 obtain ⟨c0, c1, c2, c3, c4, f0, f1, f2, f3, f4⟩ := h.zero
 have s : ∀ (u : World) (i : Nat) (v x : Value), u.cell? ⟨b, i, none⟩ = some x → (u.setCell ⟨b, i, none⟩ v).cell? ⟨b, i, none⟩ = some v := fun u i v x hx => World.cell?_setCell_same _ _ _ hx
 have t : ∀ (u : World) (i j : Nat) (v : Value), i ≠ j → (u.setCell ⟨b, i, none⟩ v).cell? ⟨b, j, none⟩ = u.cell? ⟨b, j, none⟩ := fun u i j v hij => World.cell?_setCell_other _ _ _ _ (eg hij)
 constructor
 ·rw [uX, s _ _ _ _ (by rw [t _ _ _ _ (by omega), t _ _ _ _ (by omega), t _ _ _ _ (by omega), t _ _ _ _ (by omega)]; exact c0)]
 ·rw [mJ, t _ _ _ _ (by omega), t _ _ _ _ (by omega), t _ _ _ _ (by omega), t _ _ _ _ (by omega)]; exact s _ _ _ _ c1
 ·rw [mJ, t _ _ _ _ (by omega), t _ _ _ _ (by omega), t _ _ _ _ (by omega)]; exact s _ _ _ _ (by rw [t _ _ _ _ (by omega)]; exact c2)
 ·rw [mJ, t _ _ _ _ (by omega), t _ _ _ _ (by omega)]; exact s _ _ _ _ (by rw [t _ _ _ _ (by omega), t _ _ _ _ (by omega)]; exact c3)
 ·rw [mJ, t _ _ _ _ (by omega)]; exact s _ _ _ _ (by rw [t _ _ _ _ (by omega), t _ _ _ _ (by omega), t _ _ _ _ (by omega)]; exact c4)
 all_goals (simp only [World.frozen?_setCell]; assumption)
def up5 (w : World) (b n : Nat) : World := (((((w.setCell ⟨b, 1, none⟩ (.int .u64 (wd n 0))).setCell ⟨b, 2, none⟩ (.int .u64 (wd n 1))).setCell ⟨b, 3, none⟩ (.int .u64 (wd n 2))).setCell ⟨b, 4, none⟩ (.int .u64 (wd n 3))).setCell ⟨b, 0, none⟩ (.int .u64 0))
theorem Row5.up5 {w : World} {b n : Nat} (h : Row5 w b 0 n) : Row5 (up5 w b n) b 0 (n * B) := h.up
theorem Row5.up_other {w : World} {b o n : Nat} (h : Row5 w b o n) {b' : Nat} (hb : b' ≠ b) (n' : Nat) : Row5 (YtjkiplndbcmmbaaGreatDoor.up5 w b' n') b o n :=
 ((((h.setCell (p := ⟨b', 1, none⟩) hb _).setCell (p := ⟨b', 2, none⟩) hb _).setCell (p := ⟨b', 3, none⟩) hb _).setCell (p := ⟨b', 4, none⟩) hb _).setCell (p := ⟨b', 0, none⟩) hb _
theorem qi (w : World) (b n : Nat) : (YtjkiplndbcmmbaaGreatDoor.up5 w b n).heap.size = w.heap.size := by simp [YtjkiplndbcmmbaaGreatDoor.up5]
theorem mQ {k : Nat} {w w' : World} (h : Below k w w') {b : Nat} (hb : k ≤ b) (n : Nat) : Below k w (YtjkiplndbcmmbaaGreatDoor.up5 w' b n) :=
 ((((h.setCell (p := ⟨b, 1, none⟩) hb _).setCell (p := ⟨b, 2, none⟩) hb _).setCell (p := ⟨b, 3, none⟩) hb _).setCell (p := ⟨b, 4, none⟩) hb _).setCell (p := ⟨b, 0, none⟩) hb _
theorem nR {w w2 x : World} {m n P k : Nat} (hk : k ≤ 4) (HP : P * B + m * wn n k = m * (n / B ^ k)) (U0 : Row5 w2 w.heap.size 0 m) (U1 : Row5 w2 (w.heap.size + 1) 0 n) (U2 : Row5 w2 (w.heap.size + 1 + 1) 0 0)
  (U3 : Row5 w2 (w.heap.size + 1 + 1 + 1) 0 (P * B)) (hsz2 : w.heap.size + 1 + 1 + 1 < w2.heap.size) (hbel2 : Below w.heap.size w w2) :
  ∃ (j : Nat) (z : Int), j ≤ 5 ∧ Hid (z + 1 = j) ∧ Value.int .i64 ((k : Int) - 1) = .int .i64 z ∧ Row5 (ext (((((w2.setCell ⟨w.heap.size + 1 + 1 + 1, 0, none⟩ (.int .u64 (wd (P * B + m * wn n k) 0))).setCell ⟨w.heap.size + 1 + 1 + 1, 1, none⟩ (.int .u64 (wd (P * B + m * wn n k) 1))).setCell ⟨w.heap.size + 1 + 1 + 1, 2, none⟩ (.int .u64 (wd (P * B + m * wn n k) 2))).setCell ⟨w.heap.size + 1 + 1 + 1, 3, none⟩ (.int .u64 (wd (P * B + m * wn n k) 3))).setCell ⟨w.heap.size + 1 + 1 + 1, 4, none⟩ (.int .u64 (wd (P * B + m * wn n k) 4))) x) w.heap.size 0 m ∧
   Row5 (ext (((((w2.setCell ⟨w.heap.size + 1 + 1 + 1, 0, none⟩ (.int .u64 (wd (P * B + m * wn n k) 0))).setCell ⟨w.heap.size + 1 + 1 + 1, 1, none⟩ (.int .u64 (wd (P * B + m * wn n k) 1))).setCell ⟨w.heap.size + 1 + 1 + 1, 2, none⟩ (.int .u64 (wd (P * B + m * wn n k) 2))).setCell ⟨w.heap.size + 1 + 1 + 1, 3, none⟩ (.int .u64 (wd (P * B + m * wn n k) 3))).setCell ⟨w.heap.size + 1 + 1 + 1, 4, none⟩ (.int .u64 (wd (P * B + m * wn n k) 4))) x) (w.heap.size + 1) 0 n ∧
   Row5 (ext (((((w2.setCell ⟨w.heap.size + 1 + 1 + 1, 0, none⟩ (.int .u64 (wd (P * B + m * wn n k) 0))).setCell ⟨w.heap.size + 1 + 1 + 1, 1, none⟩ (.int .u64 (wd (P * B + m * wn n k) 1))).setCell ⟨w.heap.size + 1 + 1 + 1, 2, none⟩ (.int .u64 (wd (P * B + m * wn n k) 2))).setCell ⟨w.heap.size + 1 + 1 + 1, 3, none⟩ (.int .u64 (wd (P * B + m * wn n k) 3))).setCell ⟨w.heap.size + 1 + 1 + 1, 4, none⟩ (.int .u64 (wd (P * B + m * wn n k) 4))) x) (w.heap.size + 1 + 1) 0 0 ∧
   Row5 (ext (((((w2.setCell ⟨w.heap.size + 1 + 1 + 1, 0, none⟩ (.int .u64 (wd (P * B + m * wn n k) 0))).setCell ⟨w.heap.size + 1 + 1 + 1, 1, none⟩ (.int .u64 (wd (P * B + m * wn n k) 1))).setCell ⟨w.heap.size + 1 + 1 + 1, 2, none⟩ (.int .u64 (wd (P * B + m * wn n k) 2))).setCell ⟨w.heap.size + 1 + 1 + 1, 3, none⟩ (.int .u64 (wd (P * B + m * wn n k) 3))).setCell ⟨w.heap.size + 1 + 1 + 1, 4, none⟩ (.int .u64 (wd (P * B + m * wn n k) 4))) x) (w.heap.size + 1 + 1 + 1) 0 (m * (n / B ^ j)) ∧
   w.heap.size + 1 + 1 + 1 < (ext (((((w2.setCell ⟨w.heap.size + 1 + 1 + 1, 0, none⟩ (.int .u64 (wd (P * B + m * wn n k) 0))).setCell ⟨w.heap.size + 1 + 1 + 1, 1, none⟩ (.int .u64 (wd (P * B + m * wn n k) 1))).setCell ⟨w.heap.size + 1 + 1 + 1, 2, none⟩ (.int .u64 (wd (P * B + m * wn n k) 2))).setCell ⟨w.heap.size + 1 + 1 + 1, 3, none⟩ (.int .u64 (wd (P * B + m * wn n k) 3))).setCell ⟨w.heap.size + 1 + 1 + 1, 4, none⟩ (.int .u64 (wd (P * B + m * wn n k) 4))) x).heap.size ∧ Below w.heap.size w (ext (((((w2.setCell ⟨w.heap.size + 1 + 1 + 1, 0, none⟩ (.int .u64 (wd (P * B + m * wn n k) 0))).setCell ⟨w.heap.size + 1 + 1 + 1, 1, none⟩ (.int .u64 (wd (P * B + m * wn n k) 1))).setCell ⟨w.heap.size + 1 + 1 + 1, 2, none⟩ (.int .u64 (wd (P * B + m * wn n k) 2))).setCell ⟨w.heap.size + 1 + 1 + 1, 3, none⟩ (.int .u64 (wd (P * B + m * wn n k) 3))).setCell ⟨w.heap.size + 1 + 1 + 1, 4, none⟩ (.int .u64 (wd (P * B + m * wn n k) 4))) x) := by
 have K : ∀ {b o y : Nat}, Row5 (set5 w2 (w.heap.size + 1 + 1 + 1) 0 (P * B + m * wn n k)) b o y → b < w2.heap.size → Row5 (ext (set5 w2 (w.heap.size + 1 + 1 + 1) 0 (P * B + m * wn n k)) x) b o y :=
  fun h hb => h.keep (cF _ _ _ (by rw [fH]; exact hb))
 refine ⟨k, (k : Int) - 1, by omega, by show (k : Int) - 1 + 1 = k; omega, rfl, K (U0.laid_other (by omega) 0 _) (by omega), K (U1.laid_other (by omega) 0 _) (by omega), K (U2.laid_other (by omega) 0 _) (by omega), (K (U3.laid _) hsz2).congr HP, ?_, ?_⟩
 ·rw [bn, World.size_setCell, World.size_setCell, World.size_setCell, World.size_setCell, World.size_setCell]; omega
 ·exact cG (cM hbel2 (by omega) 0 _) (by rw [fH]; omega) x
set_option maxRecDepth 100000 in
theorem nQ (m n : Nat) (a0 a1 a2 a3 a4 b0 b1 b2 b3 b4 : Int) (w : World) (ha : IsW m a0 a1 a2 a3 a4) (hb : IsW n b0 b1 b2 b3 b4) (hn : n < B ^ 5) :
  Calls Tryz.prog 185 #[.agg #[.int .u64 a0, .int .u64 a1, .int .u64 a2, .int .u64 a3, .int .u64 a4], .agg #[.int .u64 b0, .int .u64 b1, .int .u64 b2, .int .u64 b3, .int .u64 b4]] w
   fun e w' => e = .returned (.agg #[.int .u64 (wd (m * n) 0), .int .u64 (wd (m * n) 1), .int .u64 (wd (m * n) 2), .int .u64 (wd (m * n) 3), .int .u64 (wd (m * n) 4)]) ∧ Below w.heap.size w w' := by
 obtain ⟨rfl, rfl, rfl, rfl, rfl⟩ := ha
 obtain ⟨rfl, rfl, rfl, rfl, rfl⟩ := hb
 go_enter Tryz.func185, Tryz.ntmps185
 go_wp2
 go_loopw [6] (fun i wr => ∃ (k : Nat) (z : Int), k ≤ 5 ∧ Hid (z + 1 = k) ∧ i = .int .i64 z ∧ Row5 wr w.heap.size 0 m ∧ Row5 wr (w.heap.size + 1) 0 n ∧ Row5 wr (w.heap.size + 1 + 1) 0 0 ∧ Row5 wr (w.heap.size + 1 + 1 + 1) 0 (m * (n / B ^ k)) ∧ w.heap.size + 1 + 1 + 1 < wr.heap.size ∧ Below w.heap.size w wr)
  (fun i _ => (intOf i + 1).toNat)
 case atStart =>
  refine ⟨5, 4, by omega, rfl, rfl, ?_, ?_, ?_, ?_, ?_, ?_⟩
  ·constructor <;> simp [go_sem]
  ·constructor <;> simp [go_sem]
  ·constructor <;> simp [go_sem, aN]
  ·rw [Nat.div_eq_of_lt hn, Nat.mul_zero]
   constructor <;> simp [go_sem, aN]
  ·simp
  ·repeat (first | exact Below.refl _ _ | refine Below.drew ?_ | refine below_drewN ?_ _ | refine ac ?_ _ | refine ae ?_ _ | (refine Below.setCell ?_ ?_ _; rotate_left; (simp <;> omega)))
 case round =>
  obtain ⟨k1, z, hk, hkz, rfl, R0, R1, R2, R3, hsz, hbel⟩ := hrel
  have hk1 := hkz.out
  clear hkz
  by_cases hz0 : 0 ≤ z
  ·obtain ⟨k, rfl⟩ := Int.eq_ofNat_of_zero_le hz0
   obtain rfl : k1 = k + 1 := by omega
   have hk5 : (k : Int) < 5 := by omega
   clear hk1
   have hcp := fun x => nJ (ext wr x) _ _ (R3.keep (cF wr x _ (show w.heap.size + 1 + 1 + 1 < wr.heap.size by omega)))
   have U3 := R3.up5
   have U0 := R0.up_other (b' := w.heap.size + 1 + 1 + 1) (by omega) (m * (n / B ^ (k + 1)))
   have U1 := R1.up_other (b' := w.heap.size + 1 + 1 + 1) (by omega) (m * (n / B ^ (k + 1)))
   have U2 := R2.up_other (b' := w.heap.size + 1 + 1 + 1) (by omega) (m * (n / B ^ (k + 1)))
   have hz := qi wr (w.heap.size + 1 + 1 + 1) (m * (n / B ^ (k + 1)))
   have hbel2 := mQ hbel (b := w.heap.size + 1 + 1 + 1) (by omega) (m * (n / B ^ (k + 1)))
   obtain ⟨c0, c1, c2, c3, c4, f0, f1, f2, f3, f4⟩ := R3.zero
   have HP : Hid (m * (n / B ^ (k + 1)) * B + m * wn n k = m * (n / B ^ k)) := by
    show m * (n / B ^ (k + 1)) * B + m * wn n k = m * (n / B ^ k)
    rw [cj n k, Nat.mul_add, Nat.mul_comm B, Nat.mul_assoc]
   generalize m * (n / B ^ (k + 1)) = P at *
   have HZ : Hid _ := hz
   clear hz
   go_wp2
   refine bi 2 (by kernel_rfl) (by kernel_rfl) ?_
   iterate 2 (refine wpQuiet_step (fun K hK => ?_); go_simp; first | (refine hK _ ?_; clear hK K) | (apply Exists.intro; refine ⟨fun xq => ?_, hK _ ?_⟩; (fail); clear hK K))
   refine wpQuiet_nil ?_
   intro xq
   simp only [List.drop_succ_cons, List.drop_zero]
   go_wp2
   rw [show (((((wr.setCell ⟨w.heap.size + 1 + 1 + 1, 1, none⟩ (.int .u64 (wd P 0))).setCell ⟨w.heap.size + 1 + 1 + 1, 2, none⟩ (.int .u64 (wd P 1))).setCell ⟨w.heap.size + 1 + 1 + 1, 3, none⟩ (.int .u64 (wd P 2))).setCell ⟨w.heap.size + 1 + 1 + 1, 4, none⟩ (.int .u64 (wd P 3))).setCell ⟨w.heap.size + 1 + 1 + 1, 0, none⟩ (.int .u64 0)) = up5 wr (w.heap.size + 1 + 1 + 1) P from rfl]
   clear hcp c0 c1 c2 c3 c4 f0 f1 f2 f3 f4 R0 R1 R2 R3 hbel
   have hsz1 : w.heap.size + 1 + 1 + 1 < (up5 wr (w.heap.size + 1 + 1 + 1) P).heap.size := by have := HZ.out; omega
   clear HZ hsz
   generalize up5 wr (w.heap.size + 1 + 1 + 1) P = w1 at *
   have T0 := U0.keep (cF w1 xq _ (by omega))
   have T1 := U1.keep (cF w1 xq _ (by omega))
   have T2 := U2.keep (cF w1 xq _ (by omega))
   have T3 := U3.keep (cF w1 xq _ (by omega))
   have hbel3 := cG hbel2 (by omega) xq
   have hsz2 : w.heap.size + 1 + 1 + 1 < (ext w1 xq).heap.size := by rw [bn]; omega
   clear U0 U1 U2 U3 hbel2 hsz1
   generalize ext w1 xq = w2 at *
   have h0 : w.heap.size < w2.heap.size := by omega
   have h1 : w.heap.size + 1 < w2.heap.size := by omega
   have HU2 : Hid _ := T2
   clear T2
   obtain ⟨c0, c1, c2, c3, c4, f0, f1, f2, f3, f4⟩ := T3.zero
   obtain ⟨a0, a1, a2, a3, a4, -, -, -, -, -⟩ := T0.zero
   have b0 := T1.nth k (by omega)
   refine bi 7 (by kernel_rfl) (by kernel_rfl) ?_
   iterate 7 (refine wpQuiet_step (fun K hK => ?_); go_simp; first | (refine hK _ ?_; clear hK K) | (apply Exists.intro; refine ⟨fun xq => ?_, hK _ ?_⟩; (first | (go_at_call 148; exact aR (eD m (wn n k) _ _ _ _ _ _ (IsW.self _) (kC _ _))) | (go_at_call 102; exact aR (bE (P * B) (m * wn n k) _ _ _ _ _ _ _ _ _ _ _ (IsW.self _) (IsW.self _)))); clear hK K))
   refine wpQuiet_nil ?_
   intro xq
   simp only [List.drop_succ_cons, List.drop_zero]
   go_wp2
   go_roundw
   case rel => exact nR (x := xq) (by omega) HP.out T0 T1 HU2.out T3 hsz2 hbel3
   case measure => simp [intOf]
  ·obtain rfl : k1 = 0 := by omega
   clear hk1
   obtain ⟨c0, c1, c2, c3, c4, f0, f1, f2, f3, f4⟩ := R3.zero
   obtain ⟨d0, d1, d2, d3, d4, g0, g1, g2, g3, g4⟩ := R2.zero
   rw [Nat.pow_zero, Nat.div_one] at c0 c1 c2 c3 c4
   go_wp2
   refine bodyPost_ret (v := .agg _) (by simp [results, Tryz.results185, go_sem, d0, d1, d2, d3, d4]) rfl ⟨rfl, ?_⟩
   exact cM hbel (by omega) 0 _
def dhi (c : Int) : Int := c / 18446744073709551616
def dlo (c : Int) : Int := c % 18446744073709551616
theorem mZ (h l : Int) (hl : 0 ≤ l) (hl2 : l ≤ 18446744073709551615) : dhi (h * 18446744073709551616 + l) = h ∧ dlo (h * 18446744073709551616 + l) = l := by unfold dhi dlo; omega
structure IsD (c h l : Int) : Prop where
 eh : h = dhi c
 el : l = dlo c
theorem IsD.self (c : Int) : IsD c (dhi c) (dlo c) := ⟨rfl, rfl⟩
def M127 : Int := 170141183460469231731687303715884105728
theorem bV : M127 = 170141183460469231731687303715884105728 := rfl
structure InR (c : Int) : Prop where
 lo : -M127 < c
 hi : c < M127
theorem kY (c : Int) : 0 ≤ dlo c ∧ dlo c ≤ 18446744073709551615 := by unfold dlo; omega
theorem tV {c : Int} (h : InR c) : -9223372036854775808 ≤ dhi c ∧ dhi c ≤ 9223372036854775807 := by
 have := h.lo; have := h.hi; rw [bV] at *; unfold dhi; omega
theorem lZ (c : Int) : dhi c < 0 ↔ c < 0 := by unfold dhi; omega
theorem uH (c : Int) : (0 + 18446744073709551616 - dlo c - 0) % 18446744073709551616 = dlo (-c) := by unfold dlo; omega
def oborrow (c : Int) : Int := if 0 < dlo c + 0 then 1 else 0
theorem gT (c : Int) : 0 ≤ oborrow c ∧ oborrow c ≤ 1 := by unfold oborrow; split <;> omega
def ohi (c : Int) : Int := (0 + 18446744073709551616 - IntKind.u64.wrap (dhi c) - oborrow c) % 18446744073709551616
def orest (c : Int) : Int := if 0 < IntKind.u64.wrap (dhi c) + oborrow c then 1 else 0
theorem uG {c : Int} (h : InR c) : wrap64 (ohi c) = dhi (-c) := by
 have h1 := h.lo; have h2 := h.hi; rw [bV] at *
 unfold ohi oborrow
 rw [IntKind.wrap_u64]
 unfold wrap64 dhi dlo
 split <;> omega
theorem ju (x : Int) : IsWord (IntKind.u64.wrap x) := by rw [IntKind.wrap_u64]; constructor <;> omega
theorem kZ (c : Int) : IsWord (dlo c) := ⟨(kY c).1, (kY c).2⟩
set_option maxRecDepth 100000 in
theorem cg (c h l s : Int) (w : World) (hd : IsD c h l) (hc : InR c) :
  Calls Tryz.prog 67 #[.agg #[.int .i64 h, .int .u64 l, .int .i64 s]] w
   fun e w' => e = .returned (.agg #[.int .i64 (dhi (-c)), .int .u64 (dlo (-c)), .int .i64 s]) ∧ Below w.heap.size w w' := by
 obtain ⟨rfl, rfl⟩ := hd
 have r1 : ∀ w, (callFunc 103 #[.int .u64 0, .int .u64 (dlo c), .int .u64 0]).run Tryz.prog w = .ok (.value (.tuple #[.int .u64 (dlo (-c)), .int .u64 (oborrow c)])) w := by
  intro w
  rw [fG 0 (dlo c) 0 ⟨by omega, by omega⟩ (kZ c) (by omega) (by omega), uH]
  rfl
 have r2 : ∀ w, (callFunc 103 #[.int .u64 0, .int .u64 (IntKind.u64.wrap (dhi c)), .int .u64 (oborrow c)]).run Tryz.prog w = .ok (.value (.tuple #[.int .u64 (ohi c), .int .u64 (orest c)])) w := by
  intro w
  rw [fG 0 _ _ ⟨by omega, by omega⟩ (ju _) (gT c).1 (gT c).2]
  rfl
 have r3 := uG hc
 go_enter Tryz.func67, Tryz.ntmps67
 go_wp2
 refine bodyPost_ret (v := .agg _) (by simp [results, Tryz.results67, go_sem]) rfl ⟨rfl, ?_⟩
 repeat (first | exact Below.refl _ _ | refine Below.drew ?_ | refine below_drewN ?_ _ | refine ac ?_ _ | refine ae ?_ _ | (refine Below.setCell ?_ ?_ _; rotate_left; (simp <;> omega)))
theorem kA {n : Nat} (h : (n : Int) < 340282366920938463463374607431768211456) : wd n 0 = (n : Int) % 18446744073709551616 ∧ wd n 1 = (n : Int) / 18446744073709551616 ∧ wd n 2 = 0 ∧ wd n 3 = 0 ∧ wd n 4 = 0 := by
 have e2 : B ^ 2 = 340282366920938463463374607431768211456 := by rw [dI]
 have h3 : ∀ i, 2 ≤ i → n / B ^ i = 0 := fun i hi => Nat.div_eq_of_lt (Nat.lt_of_lt_of_le (by rw [e2]; omega : n < B ^ 2) (Nat.pow_le_pow_right bB hi))
 unfold wd
 refine ⟨?_, ?_, ?_, ?_, ?_⟩
 ·simp [dI]
 ·rw [Nat.pow_one, dI]; omega
 ·rw [h3 2 (by omega)]; simp
 ·rw [h3 3 (by omega)]; simp
 ·rw [h3 4 (by omega)]; simp
theorem kD {c : Int} (h0 : 0 ≤ c) (h : c < M127) : IntKind.u64.wrap (dhi c) = wd c.toNat 1 ∧ dlo c = wd c.toNat 0 ∧ wd c.toNat 2 = 0 ∧ wd c.toNat 3 = 0 ∧ wd c.toNat 4 = 0 := by
 rw [bV] at h
 obtain ⟨n, rfl⟩ := Int.eq_ofNat_of_zero_le h0
 obtain ⟨e0, e1, e2, e3, e4⟩ := kA (n := n) (by omega)
 rw [Int.toNat_natCast, e0, e1]
 refine ⟨?_, rfl, e2, e3, e4⟩
 rw [IntKind.wrap_u64]; unfold dhi; omega
set_option maxRecDepth 100000 in
theorem bg (c h l s : Int) (w : World) (hd : IsD c h l) (hc : InR c) :
  Calls Tryz.prog 66 #[.agg #[.int .i64 h, .int .u64 l, .int .i64 s]] w
   fun e w' => e = .returned (.agg #[.bool (decide (c < 0)), .int .u64 (wd (c.natAbs) 0), .int .u64 (wd (c.natAbs) 1), .int .u64 (wd (c.natAbs) 2), .int .u64 (wd (c.natAbs) 3), .int .u64 (wd (c.natAbs) 4)]) ∧ Below w.heap.size w w' := by
 obtain ⟨rfl, rfl⟩ := hd
 have h1 := hc.lo
 have h2 := hc.hi
 by_cases c0 : c < 0
 ·have t : dhi c < 0 := (lZ c).2 c0
  obtain ⟨e1, e0, e2, e3, e4⟩ := kD (c := -c) (by omega) (by omega)
  have ht : (-c).toNat = c.natAbs := by omega
  rw [ht] at e1 e0 e2 e3 e4
  have HE : Hid (wd c.natAbs 2 = 0 ∧ wd c.natAbs 3 = 0 ∧ wd c.natAbs 4 = 0) := ⟨e2, e3, e4⟩
  have H0 : Hid _ := e0
  clear e2 e3 e4 ht e0
  go_enter Tryz.func66, Tryz.ntmps66
  go_wp2_with (go_at_call 67; refine (cg c _ _ _ _ (IsD.self _) hc).mono ?_; rintro e w1 ⟨rfl, hb1⟩; obtain ⟨x, rfl⟩ := a9 hb1; clear hb1)
  refine bodyPost_ret (v := .agg #[.bool true, .int .u64 (dlo (-c)), .int .u64 (wd c.natAbs 1), .int .u64 0, .int .u64 0, .int .u64 0]) (by simp [results, Tryz.results66, go_sem]) rfl ⟨?_, ?_⟩
  ·obtain ⟨e2, e3, e4⟩ := HE.out
   rw [H0.out, e2, e3, e4, show decide (c < 0) = true by simp [c0]]
  ·repeat (first | exact Below.refl _ _ | refine Below.drew ?_ | refine below_drewN ?_ _ | refine ac ?_ _ | refine ae ?_ _ | (refine Below.setCell ?_ ?_ _; rotate_left; (simp <;> omega)))
 ·have t : ¬ dhi c < 0 := fun t => c0 ((lZ c).1 t)
  obtain ⟨e1, e0, e2, e3, e4⟩ := kD (c := c) (by omega) (by omega)
  have ht : c.toNat = c.natAbs := by omega
  rw [ht] at e1 e0 e2 e3 e4
  have HE : Hid (wd c.natAbs 2 = 0 ∧ wd c.natAbs 3 = 0 ∧ wd c.natAbs 4 = 0) := ⟨e2, e3, e4⟩
  have H0 : Hid _ := e0
  clear e2 e3 e4 ht e0
  go_enter Tryz.func66, Tryz.ntmps66
  go_wp2
  refine bodyPost_ret (v := .agg #[.bool false, .int .u64 (dlo c), .int .u64 (wd c.natAbs 1), .int .u64 0, .int .u64 0, .int .u64 0]) (by simp [results, Tryz.results66, go_sem]) rfl ⟨?_, ?_⟩
  ·obtain ⟨e2, e3, e4⟩ := HE.out
   rw [H0.out, e2, e3, e4, show decide (c < 0) = false by simp [c0]]
  ·repeat (first | exact Below.refl _ _ | refine Below.drew ?_ | refine below_drewN ?_ _ | refine ac ?_ _ | refine ae ?_ _ | (refine Below.setCell ?_ ?_ _; rotate_left; (simp <;> omega)))
def sv (neg : Bool) (n : Nat) : Int := if neg then -(n : Int) else n
theorem hJ (c : Int) : sv (decide (c < 0)) c.natAbs = c := by unfold sv; by_cases h : c < 0 <;> simp [h] <;> omega
theorem nz {n : Nat} (h : (n : Int) < M127) : dlo (n : Int) = wd n 0 ∧ dhi (n : Int) = wd n 1 ∧ wrap64 (wd n 1) = dhi (n : Int) := by
 rw [bV] at h
 obtain ⟨e0, e1, -, -, -⟩ := kA (n := n) (by omega)
 rw [e0, e1]
 refine ⟨rfl, rfl, ?_⟩
 unfold wrap64 dhi; omega
theorem tO (n : Nat) : bl n ≤ 127 ↔ (n : Int) < M127 := by
 rw [cN, bV]
 omega
set_option maxRecDepth 100000 in
theorem gy (neg : Bool) (n : Nat) (s : Int) (w : World) (hn5 : n < B ^ 5) (hn : (n : Int) < M127) :
  Calls Tryz.prog 59 #[.agg #[.bool neg, .int .u64 (wd (n) 0), .int .u64 (wd (n) 1), .int .u64 (wd (n) 2), .int .u64 (wd (n) 3), .int .u64 (wd (n) 4)], .int .i64 s] w
   fun e w' => e = .returned (.tuple #[.agg #[.int .i64 (dhi (sv neg n)), .int .u64 (dlo (sv neg n)), .int .i64 s], .int .i64 0]) ∧ Below w.heap.size w w' := by
 have hb : (bl n : Int) ≤ 127 := by have := (tO n).2 hn; omega
 obtain ⟨e0, e1, e2⟩ := nz hn
 have HE : Hid (dlo (n : Int) = wd n 0) := e0
 have hc : InR (n : Int) := ⟨by have := bV; omega, hn⟩
 clear e1
 cases neg
 ·have es : sv false n = (n : Int) := rfl
  rw [es]
  clear es hn hc e0
  go_enter Tryz.func59, Tryz.ntmps59
  go_wp2_with (go_at_call 94; refine (dL n _ _ _ _ _ _ (IsW.self _) hn5).mono ?_; rintro e w1 ⟨rfl, hb1⟩; obtain ⟨x, rfl⟩ := a9 hb1; clear hb1)
  refine bodyPost_ret (v := .tuple #[.agg #[.int .i64 (dhi n), .int .u64 (wd n 0), .int .i64 s], .int .i64 0]) (by simp [results, Tryz.results59, go_sem]) rfl ⟨by rw [HE.out], ?_⟩
  repeat (first | exact Below.refl _ _ | refine Below.drew ?_ | refine below_drewN ?_ _ | refine ac ?_ _ | refine ae ?_ _ | (refine Below.setCell ?_ ?_ _; rotate_left; (simp <;> omega)))
 ·have es : sv true n = -(n : Int) := rfl
  rw [es]
  have HD : Hid (IsD (n : Int) (dhi n) (wd n 0)) := ⟨rfl, e0.symm⟩
  have HC : Hid (InR (n : Int)) := hc
  clear e0 es hn hc
  go_enter Tryz.func59, Tryz.ntmps59
  go_wp2_with (first | (go_at_call 94; refine (dL n _ _ _ _ _ _ (IsW.self _) hn5).mono ?_; rintro e w1 ⟨rfl, hb1⟩; obtain ⟨x, rfl⟩ := a9 hb1; clear hb1) | (go_at_call 67; refine (cg (n : Int) _ _ _ _ HD.out HC.out).mono ?_; rintro e w1 ⟨rfl, hb1⟩; obtain ⟨y, rfl⟩ := a9 hb1; clear hb1))
  refine bodyPost_ret (v := .tuple #[.agg #[.int .i64 (dhi (-n)), .int .u64 (dlo (-n)), .int .i64 s], .int .i64 0]) (by simp [results, Tryz.results59, go_sem]) rfl ⟨rfl, ?_⟩
  repeat (first | exact Below.refl _ _ | refine Below.drew ?_ | refine below_drewN ?_ _ | refine ac ?_ _ | refine ae ?_ _ | (refine Below.setCell ?_ ?_ _; rotate_left; (simp <;> omega)))
theorem mc (a0 a1 a2 a3 a4 b0 b1 b2 b3 b4 : Int) (w : World) :
  (Op.equalIn 10000 123 (.agg #[.int .u64 a0, .int .u64 a1, .int .u64 a2, .int .u64 a3, .int .u64 a4]) (.agg #[.int .u64 b0, .int .u64 b1, .int .u64 b2, .int .u64 b3, .int .u64 b4])).run Tryz.prog w = .ok ((a0 == b0) && ((a1 == b1) && ((a2 == b2) && ((a3 == b3) && (a4 == b4))))) w := by
 obtain ⟨i, hi⟩ : ∃ i, Tryz.prog.info? 23 = some i := Option.isSome_iff_exists.1 (by kernel_rfl)
 rw [show (10000 : Nat) = 9999 + 1 from rfl, run_equalIn_array (P := Tryz.prog) w 9999 _ _ Tryz.underlying123 hi]
 have hc : Tryz.prog.cellsOf 23 = 1 := by kernel_rfl
 rw [hc]
 simp [Op.eqItems, List.range, List.range.loop, go_sem]
 by_cases h0 : a0 = b0 <;> by_cases h1 : a1 = b1 <;> by_cases h2 : a2 = b2 <;> by_cases h3 : a3 = b3 <;> by_cases h4 : a4 = b4 <;> simp [h0, h1, h2, h3, h4]
theorem gW {m n : Nat} (hm : m < B ^ 5) (hn : n < B ^ 5) : ((wd m 0 == wd n 0) && ((wd m 1 == wd n 1) && ((wd m 2 == wd n 2) && ((wd m 3 == wd n 3) && (wd m 4 == wd n 4))))) = decide (m = n) := by
 rw [Bool.eq_iff_iff]
 simp only [Bool.and_eq_true, beq_iff_eq, decide_eq_true_eq]
 constructor
 ·rintro ⟨e0, e1, e2, e3, e4⟩
  have f : ∀ i, wd m i = wd n i → wn m i = wn n i := fun i h => by rw [bM, bM] at h; omega
  have t4 := bC (jR hm hn) (f 4 e4)
  have t3 := bC t4 (f 3 e3)
  have t2 := bC t3 (f 2 e2)
  have t1 := bC t2 (f 1 e1)
  have t0 := bC t1 (f 0 e0)
  simpa using t0
 ·rintro rfl; simp
theorem bZ {n : Nat} (hn : n < B ^ 5) (w : World) :
  (Op.equalIn 10000 123 (.agg #[.int .u64 (wd (n) 0), .int .u64 (wd (n) 1), .int .u64 (wd (n) 2), .int .u64 (wd (n) 3), .int .u64 (wd (n) 4)]) (.agg #[.int .u64 0, .int .u64 0, .int .u64 0, .int .u64 0, .int .u64 0])).run Tryz.prog w = .ok (decide (n = 0)) w := by
 have h := mc (wd n 0) (wd n 1) (wd n 2) (wd n 3) (wd n 4) (wd 0 0) (wd 0 1) (wd 0 2) (wd 0 3) (wd 0 4) w
 rw [gW hn (Nat.pow_pos bB)] at h
 rw [aN, aN, aN, aN, aN] at h
 exact h
theorem mb {m n : Nat} (hm : m < B ^ 5) (hn : n < B ^ 5) (w : World) :
  (Op.equalIn 10000 123 (.agg #[.int .u64 (wd (m) 0), .int .u64 (wd (m) 1), .int .u64 (wd (m) 2), .int .u64 (wd (m) 3), .int .u64 (wd (m) 4)]) (.agg #[.int .u64 (wd (n) 0), .int .u64 (wd (n) 1), .int .u64 (wd (n) 2), .int .u64 (wd (n) 3), .int .u64 (wd (n) 4)])).run Tryz.prog w = .ok (decide (m = n)) w := by
 rw [mc, gW hm hn]
def sgn (c : Int) : Int := if c < 0 then -1 else if c = 0 then 0 else 1
set_option maxRecDepth 100000 in
theorem fm (neg : Bool) (n : Nat) (w : World) (hn : n < B ^ 5) :
  Calls Tryz.prog 68 #[.agg #[.bool neg, .int .u64 (wd (n) 0), .int .u64 (wd (n) 1), .int .u64 (wd (n) 2), .int .u64 (wd (n) 3), .int .u64 (wd (n) 4)]] w
   fun e w' => e = .returned (.int .i64 (sgn (sv neg n))) ∧ Below w.heap.size w w' := by
 have he := fun w => bZ hn w
 by_cases h0 : n = 0
 ·have hd : decide (n = 0) = true := by simp [h0]
  have fin : Hid (sgn (sv neg n) = 0) := by show _ = _; subst h0; cases neg <;> rfl
  clear h0 hn
  rw [fin.out]
  go_enter Tryz.func68, Tryz.ntmps68
  go_wp2
  go_ret
  refine ⟨rfl, ?_⟩
  repeat (first | exact Below.refl _ _ | refine Below.drew ?_ | refine below_drewN ?_ _ | refine ac ?_ _ | refine ae ?_ _ | (refine Below.setCell ?_ ?_ _; rotate_left; (simp <;> omega)))
 ·have hd : decide (n = 0) = false := by simp [h0]
  cases neg
  ·have fin : Hid (sgn (sv false n) = 1) := by show _ = _; unfold sgn sv; simp; omega
   clear h0 hn
   rw [fin.out]
   go_enter Tryz.func68, Tryz.ntmps68
   go_wp2
   go_ret
   refine ⟨rfl, ?_⟩
   repeat (first | exact Below.refl _ _ | refine Below.drew ?_ | refine below_drewN ?_ _ | refine ac ?_ _ | refine ae ?_ _ | (refine Below.setCell ?_ ?_ _; rotate_left; (simp <;> omega)))
  ·have fin : Hid (sgn (sv true n) = -1) := by show _ = _; unfold sgn sv; simp; omega
   clear h0 hn
   rw [fin.out]
   go_enter Tryz.func68, Tryz.ntmps68
   go_wp2
   go_ret
   refine ⟨rfl, ?_⟩
   repeat (first | exact Below.refl _ _ | refine Below.drew ?_ | refine below_drewN ?_ _ | refine ac ?_ _ | refine ae ?_ _ | (refine Below.setCell ?_ ?_ _; rotate_left; (simp <;> omega)))
def padd (a : Bool × Nat) (b : Bool × Nat) : Bool × Nat := if a.1 = b.1 then (a.1, a.2 + b.2) else if a.2 < b.2 then (b.1, b.2 - a.2) else (a.1, a.2 - b.2)
theorem sf (a b : Bool × Nat) : sv (padd a b).1 (padd a b).2 = sv a.1 a.2 + sv b.1 b.2 := by
 obtain ⟨s, m⟩ := a
 obtain ⟨t, n⟩ := b
 unfold padd sv
 cases s <;> cases t <;> simp <;> (try split) <;> (try simp) <;> omega
theorem se (a b : Bool × Nat) : (padd a b).2 ≤ a.2 + b.2 := by unfold padd; split <;> (try split) <;> simp <;> omega
set_option maxRecDepth 100000 in
theorem iJ (s t : Bool) (m n : Nat) (w : World) (hm : m < B ^ 5) (hn : n < B ^ 5) :
  Calls Tryz.prog 93 #[.agg #[.bool s, .int .u64 (wd (m) 0), .int .u64 (wd (m) 1), .int .u64 (wd (m) 2), .int .u64 (wd (m) 3), .int .u64 (wd (m) 4)], .agg #[.bool t, .int .u64 (wd (n) 0), .int .u64 (wd (n) 1), .int .u64 (wd (n) 2), .int .u64 (wd (n) 3), .int .u64 (wd (n) 4)]] w
   fun e w' => e = .returned (.agg #[.bool (padd (s, m) (t, n)).1, .int .u64 (wd ((padd (s, m) (t, n)).2) 0), .int .u64 (wd ((padd (s, m) (t, n)).2) 1), .int .u64 (wd ((padd (s, m) (t, n)).2) 2), .int .u64 (wd ((padd (s, m) (t, n)).2) 3), .int .u64 (wd ((padd (s, m) (t, n)).2) 4)]) ∧ Below w.heap.size w w' := by
 by_cases hs : s = t
 ·have hb : (s == t) = true := by simp [hs]
  have e : padd (s, m) (t, n) = (s, m + n) := by unfold padd; simp [hs]
  rw [e]
  clear e hs
  go_enter Tryz.func93, Tryz.ntmps93
  go_wp2
  refine bi 8 (by kernel_rfl) (by kernel_rfl) ?_
  iterate 8 (refine wpQuiet_step (fun K hK => ?_); go_simp; first | (refine hK _ ?_; clear hK K) | (apply Exists.intro; refine ⟨fun xq => ?_, hK _ ?_⟩; (go_at_call 102; exact aR (bE m n _ _ _ _ _ _ _ _ _ _ _ (IsW.self _) (IsW.self _))); clear hK K))
  refine wpQuiet_nil ?_
  intro xq
  simp only [List.drop_succ_cons, List.drop_zero]
  go_wp2
  refine bodyPost_ret (v := .agg _) (by simp [results, Tryz.results93, go_sem]) rfl ⟨rfl, ?_⟩
  repeat (first | exact Below.refl _ _ | refine Below.drew ?_ | refine below_drewN ?_ _ | refine ac ?_ _ | refine ae ?_ _ | (refine Below.setCell ?_ ?_ _; rotate_left; (simp <;> omega)))
 ·have hb : (s == t) = false := by simp [hs]
  by_cases hl : m < n
  ·have hd : decide (m < n) = true := by simp [hl]
   have e : padd (s, m) (t, n) = (t, n - m) := by unfold padd; simp [hs, hl]
   rw [e]
   clear e hs
   go_enter Tryz.func93, Tryz.ntmps93
   go_wp2_with (go_at_call 144; refine (bT m n _ _ _ _ _ _ _ _ _ _ _ (IsW.self _) (IsW.self _) hm hn).mono ?_; rintro e w1 ⟨rfl, hb1⟩; obtain ⟨x, rfl⟩ := a9 hb1; clear hb1)
   refine bi 8 (by kernel_rfl) (by kernel_rfl) ?_
   iterate 8 (refine wpQuiet_step (fun K hK => ?_); go_simp; first | (refine hK _ ?_; clear hK K) | (apply Exists.intro; refine ⟨fun xq => ?_, hK _ ?_⟩; (go_at_call 145; exact aR (fB n m _ _ _ _ _ _ _ _ _ _ _ (IsW.self _) (IsW.self _) (Nat.le_of_lt hl))); clear hK K))
   refine wpQuiet_nil ?_
   intro xq
   simp only [List.drop_succ_cons, List.drop_zero]
   go_wp2
   refine bodyPost_ret (v := .agg _) (by simp [results, Tryz.results93, go_sem]) rfl ⟨rfl, ?_⟩
   repeat (first | exact Below.refl _ _ | refine Below.drew ?_ | refine below_drewN ?_ _ | refine ac ?_ _ | refine ae ?_ _ | (refine Below.setCell ?_ ?_ _; rotate_left; (simp <;> omega)))
  ·have hd : decide (m < n) = false := by simp [hl]
   have e : padd (s, m) (t, n) = (s, m - n) := by unfold padd; simp [hs, hl]
   rw [e]
   have hl2 : n ≤ m := by omega
   clear e hs hl
   go_enter Tryz.func93, Tryz.ntmps93
   go_wp2_with (go_at_call 144; refine (bT m n _ _ _ _ _ _ _ _ _ _ _ (IsW.self _) (IsW.self _) hm hn).mono ?_; rintro e w1 ⟨rfl, hb1⟩; obtain ⟨x, rfl⟩ := a9 hb1; clear hb1)
   refine bi 8 (by kernel_rfl) (by kernel_rfl) ?_
   iterate 8 (refine wpQuiet_step (fun K hK => ?_); go_simp; first | (refine hK _ ?_; clear hK K) | (apply Exists.intro; refine ⟨fun xq => ?_, hK _ ?_⟩; (go_at_call 145; exact aR (fB m n _ _ _ _ _ _ _ _ _ _ _ (IsW.self _) (IsW.self _) hl2)); clear hK K))
   refine wpQuiet_nil ?_
   intro xq
   simp only [List.drop_succ_cons, List.drop_zero]
   go_wp2
   refine bodyPost_ret (v := .agg _) (by simp [results, Tryz.results93, go_sem]) rfl ⟨rfl, ?_⟩
   repeat (first | exact Below.refl _ _ | refine Below.drew ?_ | refine below_drewN ?_ _ | refine ac ?_ _ | refine ae ?_ _ | (refine Below.setCell ?_ ?_ _; rotate_left; (simp <;> omega)))
def up10 (n s t : Nat) : Nat := n * 10 ^ (t - s)
set_option maxRecDepth 100000 in
theorem dD (c h l : Int) (s t : Nat) (w : World) (hd : IsD c h l) (hc : InR c) (hs : (s : Int) ≤ 18) (ht : (t : Int) ≤ 18) (hst : (s : Int) ≤ (t : Int)) :
  Calls Tryz.prog 92 #[.agg #[.int .i64 h, .int .u64 l, .int .i64 s], .int .i64 t] w
   fun e w' => e = .returned (.agg #[.bool (decide (c < 0)), .int .u64 (wd (up10 c.natAbs s t) 0), .int .u64 (wd (up10 c.natAbs s t) 1), .int .u64 (wd (up10 c.natAbs s t) 2), .int .u64 (wd (up10 c.natAbs s t) 3), .int .u64 (wd (up10 c.natAbs s t) 4)]) ∧ Below w.heap.size w w' := by
 obtain ⟨rfl, rfl⟩ := hd
 obtain ⟨u, hu⟩ : ∃ u, u = t - s := ⟨_, rfl⟩
 have eu : (t : Int) - (s : Int) = (u : Int) := by omega
 have hu3 : u ≤ 1000 := by omega
 have hup : up10 c.natAbs s t = c.natAbs * 10 ^ u := by rw [hu]; rfl
 rw [hup]
 clear hu hup
 go_enter Tryz.func92, Tryz.ntmps92
 go_wp2_with (first | (go_at_call 66; refine (bg c _ _ _ _ (IsD.self _) hc).mono ?_; rintro e w1 ⟨rfl, hb1⟩; obtain ⟨x, rfl⟩ := a9 hb1; clear hb1) | (go_at_call 99; refine (fp c.natAbs u _ _ _ _ _ _ (IsW.self _) hu3).mono ?_; rintro e w1 ⟨rfl, hb1⟩; obtain ⟨y, rfl⟩ := a9 hb1; clear hb1))
 refine bodyPost_ret (v := .agg _) (by simp [results, Tryz.results92, go_sem]) rfl ⟨rfl, ?_⟩
 repeat (first | exact Below.refl _ _ | refine Below.drew ?_ | refine below_drewN ?_ _ | refine ac ?_ _ | refine ae ?_ _ | (refine Below.setCell ?_ ?_ _; rotate_left; (simp <;> omega)))
theorem bw {c : Int} (hc : InR c) : c.natAbs < 2 ^ 127 := by
 have := hc.lo; have := hc.hi; rw [bV] at *; omega
theorem fI {n u : Nat} (hn : n < 2 ^ 127) (hu : u ≤ 18) : n * 10 ^ u < B ^ 4 := by
 have h1 : 10 ^ u ≤ 10 ^ 18 := Nat.pow_le_pow_right (by decide) hu
 have h2 : n * 10 ^ u ≤ 2 ^ 127 * 10 ^ 18 := Nat.mul_le_mul (Nat.le_of_lt hn) h1
 exact Nat.lt_of_le_of_lt h2 (by decide)
theorem B45 {n : Nat} (h : n < B ^ 4) : n < B ^ 5 := Nat.lt_of_lt_of_le h (Nat.pow_le_pow_right bB (by decide))
def tot (ca : Int) (sa : Nat) (cb : Int) (sb : Nat) : Bool × Nat :=
 padd (decide (ca < 0), up10 ca.natAbs sa (max sa sb)) (decide (cb < 0), up10 cb.natAbs sb (max sa sb))
set_option maxRecDepth 100000 in
theorem qr (ca cb : Int) (sa sb : Nat) (w : World) (ia : InR ca) (ib : InR cb) (hsa : (sa : Int) ≤ 18) (hsb : (sb : Int) ≤ 18) (hc : (sa : Int) < (sb : Int)) :
  Calls Tryz.prog 58 #[.agg #[.int .i64 (dhi ca), .int .u64 (dlo ca), .int .i64 sa], .agg #[.int .i64 (dhi cb), .int .u64 (dlo cb), .int .i64 sb]] w
   fun e w' => e = .returned (.tuple #[.agg #[.bool (tot ca sa cb sb).1, .int .u64 (wd ((tot ca sa cb sb).2) 0), .int .u64 (wd ((tot ca sa cb sb).2) 1), .int .u64 (wd ((tot ca sa cb sb).2) 2), .int .u64 (wd ((tot ca sa cb sb).2) 3), .int .u64 (wd ((tot ca sa cb sb).2) 4)], .int .i64 ((max sa sb : Nat) : Int)]) ∧ Below w.heap.size w w' := by
 have HA : Hid (up10 ca.natAbs sa sb < B ^ 5) := B45 (fI (bw ia) (show sb - sa ≤ 18 by omega))
 have HB : Hid (up10 cb.natAbs sb sb < B ^ 5) := B45 (fI (bw ib) (show sb - sb ≤ 18 by omega))
 unfold tot
 have HT : max sa sb = sb := by omega
 rw [HT]
 clear HT
 go_enter Tryz.func58, Tryz.ntmps58
 go_wp2
 refine wp_region_any (by kernel_rfl) ?_
 refine wpAny_take (i := 7) rfl (by kernel_rfl) (by kernel_rfl) (by kernel_rfl) (fun _ _ _ h => h) (Or.inl ⟨rfl, fun _ => rfl⟩) ?_
 refine ii 8 [7] [0, 1, 2, 3, 4, 5, 6] (by kernel_rfl) (by kernel_rfl) rfl (iA _) ?_
 iterate 2 (refine wpQuiet_step (fun K hK => ?_); go_simp; refine hK _ ?_; clear hK K)
 refine wpQuiet_step (fun K hK => ?_)
 go_simp
 apply Exists.intro
 refine ⟨fun xq => ?_, hK _ ?_⟩
 ·exact aR (dD ca _ _ sa sb _ (IsD.self _) ia hsa hsb (Int.le_of_lt hc))
 clear hK K
 iterate 2 (refine wpQuiet_step (fun K hK => ?_); go_simp; refine hK _ ?_; clear hK K)
 refine wpQuiet_step (fun K hK => ?_)
 go_simp
 apply Exists.intro
 refine ⟨fun xq => ?_, hK _ ?_⟩
 ·exact aR (dD cb _ _ sb sb _ (IsD.self _) ib hsb hsb (Int.le_refl _))
 clear hK K
 refine wpQuiet_step (fun K hK => ?_)
 go_simp
 apply Exists.intro
 refine ⟨fun xq => ?_, hK _ ?_⟩
 ·exact aR (iJ _ _ _ _ _ HA.out HB.out)
 clear hK K
 refine wpQuiet_nil ?_
 intro xq
 simp only [List.drop_succ_cons, List.drop_zero]
 go_wp2
 refine bodyPost_ret (v := .tuple #[.agg _, .int .i64 _]) (by simp [results, Tryz.results58, go_sem]) rfl ⟨rfl, ?_⟩
 repeat (first | exact Below.refl _ _ | refine Below.drew ?_ | refine below_drewN ?_ _ | refine ac ?_ _ | refine ae ?_ _ | (refine Below.setCell ?_ ?_ _; rotate_left; (simp <;> omega)))
set_option maxRecDepth 100000 in
theorem qq (ca cb : Int) (sa sb : Nat) (w : World) (ia : InR ca) (ib : InR cb) (hsa : (sa : Int) ≤ 18) (hsb : (sb : Int) ≤ 18) (hc : (sb : Int) ≤ (sa : Int)) :
  Calls Tryz.prog 58 #[.agg #[.int .i64 (dhi ca), .int .u64 (dlo ca), .int .i64 sa], .agg #[.int .i64 (dhi cb), .int .u64 (dlo cb), .int .i64 sb]] w
   fun e w' => e = .returned (.tuple #[.agg #[.bool (tot ca sa cb sb).1, .int .u64 (wd ((tot ca sa cb sb).2) 0), .int .u64 (wd ((tot ca sa cb sb).2) 1), .int .u64 (wd ((tot ca sa cb sb).2) 2), .int .u64 (wd ((tot ca sa cb sb).2) 3), .int .u64 (wd ((tot ca sa cb sb).2) 4)], .int .i64 ((max sa sb : Nat) : Int)]) ∧ Below w.heap.size w w' := by
 have HA : Hid (up10 ca.natAbs sa sa < B ^ 5) := B45 (fI (bw ia) (show sa - sa ≤ 18 by omega))
 have HB : Hid (up10 cb.natAbs sb sa < B ^ 5) := B45 (fI (bw ib) (show sa - sb ≤ 18 by omega))
 unfold tot
 have HT : max sa sb = sa := by omega
 rw [HT]
 clear HT
 go_enter Tryz.func58, Tryz.ntmps58
 go_wp2
 refine wp_region_any (by kernel_rfl) ?_
 refine wpAny_take (i := 7) rfl (by kernel_rfl) (by kernel_rfl) (by kernel_rfl) (fun _ _ _ h => h) (Or.inl ⟨rfl, fun _ => rfl⟩) ?_
 refine ii 8 [7] [0, 1, 2, 3, 4, 5, 6] (by kernel_rfl) (by kernel_rfl) rfl (iA _) ?_
 iterate 2 (refine wpQuiet_step (fun K hK => ?_); go_simp; refine hK _ ?_; clear hK K)
 refine wpQuiet_step (fun K hK => ?_)
 go_simp
 apply Exists.intro
 refine ⟨fun xq => ?_, hK _ ?_⟩
 ·exact aR (dD ca _ _ sa sa _ (IsD.self _) ia hsa hsa (Int.le_refl _))
 clear hK K
 iterate 2 (refine wpQuiet_step (fun K hK => ?_); go_simp; refine hK _ ?_; clear hK K)
 refine wpQuiet_step (fun K hK => ?_)
 go_simp
 apply Exists.intro
 refine ⟨fun xq => ?_, hK _ ?_⟩
 ·exact aR (dD cb _ _ sb sa _ (IsD.self _) ib hsb hsa hc)
 clear hK K
 refine wpQuiet_step (fun K hK => ?_)
 go_simp
 apply Exists.intro
 refine ⟨fun xq => ?_, hK _ ?_⟩
 ·exact aR (iJ _ _ _ _ _ HA.out HB.out)
 clear hK K
 refine wpQuiet_nil ?_
 intro xq
 simp only [List.drop_succ_cons, List.drop_zero]
 go_wp2
 refine bodyPost_ret (v := .tuple #[.agg _, .int .i64 _]) (by simp [results, Tryz.results58, go_sem]) rfl ⟨rfl, ?_⟩
 repeat (first | exact Below.refl _ _ | refine Below.drew ?_ | refine below_drewN ?_ _ | refine ac ?_ _ | refine ae ?_ _ | (refine Below.setCell ?_ ?_ _; rotate_left; (simp <;> omega)))
theorem fJ (ca ha la cb hb lb : Int) (sa sb : Nat) (w : World) (da : IsD ca ha la) (db : IsD cb hb lb) (ia : InR ca) (ib : InR cb) (hsa : (sa : Int) ≤ 18) (hsb : (sb : Int) ≤ 18) :
  Calls Tryz.prog 58 #[.agg #[.int .i64 ha, .int .u64 la, .int .i64 sa], .agg #[.int .i64 hb, .int .u64 lb, .int .i64 sb]] w
   fun e w' => e = .returned (.tuple #[.agg #[.bool (tot ca sa cb sb).1, .int .u64 (wd ((tot ca sa cb sb).2) 0), .int .u64 (wd ((tot ca sa cb sb).2) 1), .int .u64 (wd ((tot ca sa cb sb).2) 2), .int .u64 (wd ((tot ca sa cb sb).2) 3), .int .u64 (wd ((tot ca sa cb sb).2) 4)], .int .i64 ((max sa sb : Nat) : Int)]) ∧ Below w.heap.size w w' := by
 obtain ⟨rfl, rfl⟩ := da
 obtain ⟨rfl, rfl⟩ := db
 rcases Int.lt_or_le (sa : Int) (sb : Int) with c | c
 ·exact qr ca cb sa sb w ia ib hsa hsb c
 ·exact qq ca cb sa sb w ia ib hsa hsb c
def away (neg : Bool) (q r d mode : Nat) : Bool :=
 if r = 0 then false else
 match mode with
 | 1 => true
 | 2 => neg
 | 3 => !neg
 | 4 => !decide (r + r < d)
 | 5 => decide (d < r + r)
 | 6 => decide (d < r + r) || (decide (r + r = d) && decide (q % 2 = 1))
 | _ => false
theorem po (q : Nat) : (bits .and .u64 (wd q 0) 1 == 1) = decide (q % 2 = 1) := by
 have h := jx q 0 0 (by decide)
 simp only [Int.pow_zero, Int.ediv_one, Nat.mul_zero, Nat.add_zero, Nat.pow_zero, Nat.div_one] at h
 rw [h, Bool.eq_iff_iff, beq_iff_eq, decide_eq_true_eq]
 omega
set_option maxRecDepth 100000 in
theorem mN (neg : Bool) (q d : Nat) (mode : Int) (w : World) :
  Calls Tryz.prog 101 #[.bool neg, .agg #[.int .u64 (wd (q) 0), .int .u64 (wd (q) 1), .int .u64 (wd (q) 2), .int .u64 (wd (q) 3), .int .u64 (wd (q) 4)], .agg #[.int .u64 (wd (0) 0), .int .u64 (wd (0) 1), .int .u64 (wd (0) 2), .int .u64 (wd (0) 3), .int .u64 (wd (0) 4)], .agg #[.int .u64 (wd (d) 0), .int .u64 (wd (d) 1), .int .u64 (wd (d) 2), .int .u64 (wd (d) 3), .int .u64 (wd (d) 4)], .int .i64 mode] w
   fun e w' => e = .returned (.bool false) ∧ Below w.heap.size w w' := by
 have he := fun w => bZ (n := 0) (Nat.pow_pos bB) w
 have hz : decide ((0 : Nat) = 0) = true := rfl
 rw [aN, aN, aN, aN, aN] at he
 rw [aN, aN, aN, aN, aN]
 go_enter Tryz.func101, Tryz.ntmps101
 go_wp2
 go_ret
 refine ⟨rfl, ?_⟩
 repeat (first | exact Below.refl _ _ | refine Below.drew ?_ | refine below_drewN ?_ _ | refine ac ?_ _ | refine ae ?_ _ | (refine Below.setCell ?_ ?_ _; rotate_left; (simp <;> omega)))
set_option maxRecDepth 100000 in
theorem tz (neg : Bool) (q r d : Nat) (w : World) (hq : q < B ^ 5) (hr : 2 * r < B ^ 5) (hd : d < B ^ 5) (h0 : ¬ r = 0) :
  Calls Tryz.prog 101 #[.bool neg, .agg #[.int .u64 (wd (q) 0), .int .u64 (wd (q) 1), .int .u64 (wd (q) 2), .int .u64 (wd (q) 3), .int .u64 (wd (q) 4)], .agg #[.int .u64 (wd (r) 0), .int .u64 (wd (r) 1), .int .u64 (wd (r) 2), .int .u64 (wd (r) 3), .int .u64 (wd (r) 4)], .agg #[.int .u64 (wd (d) 0), .int .u64 (wd (d) 1), .int .u64 (wd (d) 2), .int .u64 (wd (d) 3), .int .u64 (wd (d) 4)], .int .i64 0] w
   fun e w' => e = .returned (.bool false) ∧ Below w.heap.size w w' := by
 have hr1 : r < B ^ 5 := by omega
 have hr2 : r + r < B ^ 5 := by omega
 have he := fun w => bZ hr1 w
 have hz : decide (r = 0) = false := by simp [h0]
 clear h0 hr
 go_enter Tryz.func101, Tryz.ntmps101
 go_wp2_with (first | (go_at_call 102; refine (bE r r _ _ _ _ _ _ _ _ _ _ _ (IsW.self _) (IsW.self _)).mono ?_; rintro e w1 ⟨rfl, hb1⟩; obtain ⟨x, rfl⟩ := a9 hb1; clear hb1))
 go_ret
 refine ⟨rfl, ?_⟩
 repeat (first | exact Below.refl _ _ | refine Below.drew ?_ | refine below_drewN ?_ _ | refine ac ?_ _ | refine ae ?_ _ | (refine Below.setCell ?_ ?_ _; rotate_left; (simp <;> omega)))
set_option maxRecDepth 100000 in
theorem tA (neg : Bool) (q r d : Nat) (w : World) (hq : q < B ^ 5) (hr : 2 * r < B ^ 5) (hd : d < B ^ 5) (h0 : ¬ r = 0) :
  Calls Tryz.prog 101 #[.bool neg, .agg #[.int .u64 (wd (q) 0), .int .u64 (wd (q) 1), .int .u64 (wd (q) 2), .int .u64 (wd (q) 3), .int .u64 (wd (q) 4)], .agg #[.int .u64 (wd (r) 0), .int .u64 (wd (r) 1), .int .u64 (wd (r) 2), .int .u64 (wd (r) 3), .int .u64 (wd (r) 4)], .agg #[.int .u64 (wd (d) 0), .int .u64 (wd (d) 1), .int .u64 (wd (d) 2), .int .u64 (wd (d) 3), .int .u64 (wd (d) 4)], .int .i64 1] w
   fun e w' => e = .returned (.bool true) ∧ Below w.heap.size w w' := by
 have hr1 : r < B ^ 5 := by omega
 have hr2 : r + r < B ^ 5 := by omega
 have he := fun w => bZ hr1 w
 have hz : decide (r = 0) = false := by simp [h0]
 clear h0 hr
 go_enter Tryz.func101, Tryz.ntmps101
 go_wp2_with (first | (go_at_call 102; refine (bE r r _ _ _ _ _ _ _ _ _ _ _ (IsW.self _) (IsW.self _)).mono ?_; rintro e w1 ⟨rfl, hb1⟩; obtain ⟨x, rfl⟩ := a9 hb1; clear hb1))
 go_ret
 refine ⟨rfl, ?_⟩
 repeat (first | exact Below.refl _ _ | refine Below.drew ?_ | refine below_drewN ?_ _ | refine ac ?_ _ | refine ae ?_ _ | (refine Below.setCell ?_ ?_ _; rotate_left; (simp <;> omega)))
set_option maxRecDepth 100000 in
theorem tB (neg : Bool) (q r d : Nat) (w : World) (hq : q < B ^ 5) (hr : 2 * r < B ^ 5) (hd : d < B ^ 5) (h0 : ¬ r = 0) :
  Calls Tryz.prog 101 #[.bool neg, .agg #[.int .u64 (wd (q) 0), .int .u64 (wd (q) 1), .int .u64 (wd (q) 2), .int .u64 (wd (q) 3), .int .u64 (wd (q) 4)], .agg #[.int .u64 (wd (r) 0), .int .u64 (wd (r) 1), .int .u64 (wd (r) 2), .int .u64 (wd (r) 3), .int .u64 (wd (r) 4)], .agg #[.int .u64 (wd (d) 0), .int .u64 (wd (d) 1), .int .u64 (wd (d) 2), .int .u64 (wd (d) 3), .int .u64 (wd (d) 4)], .int .i64 2] w
   fun e w' => e = .returned (.bool neg) ∧ Below w.heap.size w w' := by
 have hr1 : r < B ^ 5 := by omega
 have hr2 : r + r < B ^ 5 := by omega
 have he := fun w => bZ hr1 w
 have hz : decide (r = 0) = false := by simp [h0]
 clear h0 hr
 go_enter Tryz.func101, Tryz.ntmps101
 go_wp2_with (first | (go_at_call 102; refine (bE r r _ _ _ _ _ _ _ _ _ _ _ (IsW.self _) (IsW.self _)).mono ?_; rintro e w1 ⟨rfl, hb1⟩; obtain ⟨x, rfl⟩ := a9 hb1; clear hb1))
 go_ret
 refine ⟨rfl, ?_⟩
 repeat (first | exact Below.refl _ _ | refine Below.drew ?_ | refine below_drewN ?_ _ | refine ac ?_ _ | refine ae ?_ _ | (refine Below.setCell ?_ ?_ _; rotate_left; (simp <;> omega)))
set_option maxRecDepth 100000 in
theorem tC (neg : Bool) (q r d : Nat) (w : World) (hq : q < B ^ 5) (hr : 2 * r < B ^ 5) (hd : d < B ^ 5) (h0 : ¬ r = 0) :
  Calls Tryz.prog 101 #[.bool neg, .agg #[.int .u64 (wd (q) 0), .int .u64 (wd (q) 1), .int .u64 (wd (q) 2), .int .u64 (wd (q) 3), .int .u64 (wd (q) 4)], .agg #[.int .u64 (wd (r) 0), .int .u64 (wd (r) 1), .int .u64 (wd (r) 2), .int .u64 (wd (r) 3), .int .u64 (wd (r) 4)], .agg #[.int .u64 (wd (d) 0), .int .u64 (wd (d) 1), .int .u64 (wd (d) 2), .int .u64 (wd (d) 3), .int .u64 (wd (d) 4)], .int .i64 3] w
   fun e w' => e = .returned (.bool (!neg)) ∧ Below w.heap.size w w' := by
 have hr1 : r < B ^ 5 := by omega
 have hr2 : r + r < B ^ 5 := by omega
 have he := fun w => bZ hr1 w
 have hz : decide (r = 0) = false := by simp [h0]
 have hnot : ∀ (x : Bool) (w : World), (Op.unary .not (.bool x)).run Tryz.prog w = .ok (.bool (!x)) w := fun _ _ => rfl
 clear h0 hr
 go_enter Tryz.func101, Tryz.ntmps101
 go_wp2_with (first | (go_at_call 102; refine (bE r r _ _ _ _ _ _ _ _ _ _ _ (IsW.self _) (IsW.self _)).mono ?_; rintro e w1 ⟨rfl, hb1⟩; obtain ⟨x, rfl⟩ := a9 hb1; clear hb1))
 go_ret
 refine ⟨rfl, ?_⟩
 repeat (first | exact Below.refl _ _ | refine Below.drew ?_ | refine below_drewN ?_ _ | refine ac ?_ _ | refine ae ?_ _ | (refine Below.setCell ?_ ?_ _; rotate_left; (simp <;> omega)))
set_option maxRecDepth 100000 in
theorem tD (neg : Bool) (q r d : Nat) (w : World) (hq : q < B ^ 5) (hr : 2 * r < B ^ 5) (hd : d < B ^ 5) (h0 : ¬ r = 0) :
  Calls Tryz.prog 101 #[.bool neg, .agg #[.int .u64 (wd (q) 0), .int .u64 (wd (q) 1), .int .u64 (wd (q) 2), .int .u64 (wd (q) 3), .int .u64 (wd (q) 4)], .agg #[.int .u64 (wd (r) 0), .int .u64 (wd (r) 1), .int .u64 (wd (r) 2), .int .u64 (wd (r) 3), .int .u64 (wd (r) 4)], .agg #[.int .u64 (wd (d) 0), .int .u64 (wd (d) 1), .int .u64 (wd (d) 2), .int .u64 (wd (d) 3), .int .u64 (wd (d) 4)], .int .i64 4] w
   fun e w' => e = .returned (.bool (!decide (r + r < d))) ∧ Below w.heap.size w w' := by
 have hr1 : r < B ^ 5 := by omega
 have hr2 : r + r < B ^ 5 := by omega
 have he := fun w => bZ hr1 w
 have hz : decide (r = 0) = false := by simp [h0]
 have hnot : ∀ (x : Bool) (w : World), (Op.unary .not (.bool x)).run Tryz.prog w = .ok (.bool (!x)) w := fun _ _ => rfl
 clear h0 hr
 go_enter Tryz.func101, Tryz.ntmps101
 go_wp2_with (first | (go_at_call 102; refine (bE r r _ _ _ _ _ _ _ _ _ _ _ (IsW.self _) (IsW.self _)).mono ?_; rintro e w1 ⟨rfl, hb1⟩; obtain ⟨x, rfl⟩ := a9 hb1; clear hb1) | (go_at_call 144; refine (bT (r + r) (d) _ _ _ _ _ _ _ _ _ _ _ (IsW.self _) (IsW.self _) hr2 hd).mono ?_; rintro e w1 ⟨rfl, hb1⟩; obtain ⟨y, rfl⟩ := a9 hb1; clear hb1))
 go_ret
 refine ⟨rfl, ?_⟩
 repeat (first | exact Below.refl _ _ | refine Below.drew ?_ | refine below_drewN ?_ _ | refine ac ?_ _ | refine ae ?_ _ | (refine Below.setCell ?_ ?_ _; rotate_left; (simp <;> omega)))
set_option maxRecDepth 100000 in
theorem tE (neg : Bool) (q r d : Nat) (w : World) (hq : q < B ^ 5) (hr : 2 * r < B ^ 5) (hd : d < B ^ 5) (h0 : ¬ r = 0) :
  Calls Tryz.prog 101 #[.bool neg, .agg #[.int .u64 (wd (q) 0), .int .u64 (wd (q) 1), .int .u64 (wd (q) 2), .int .u64 (wd (q) 3), .int .u64 (wd (q) 4)], .agg #[.int .u64 (wd (r) 0), .int .u64 (wd (r) 1), .int .u64 (wd (r) 2), .int .u64 (wd (r) 3), .int .u64 (wd (r) 4)], .agg #[.int .u64 (wd (d) 0), .int .u64 (wd (d) 1), .int .u64 (wd (d) 2), .int .u64 (wd (d) 3), .int .u64 (wd (d) 4)], .int .i64 5] w
   fun e w' => e = .returned (.bool (decide (d < r + r))) ∧ Below w.heap.size w w' := by
 have hr1 : r < B ^ 5 := by omega
 have hr2 : r + r < B ^ 5 := by omega
 have he := fun w => bZ hr1 w
 have hz : decide (r = 0) = false := by simp [h0]
 clear h0 hr
 go_enter Tryz.func101, Tryz.ntmps101
 go_wp2_with (first | (go_at_call 102; refine (bE r r _ _ _ _ _ _ _ _ _ _ _ (IsW.self _) (IsW.self _)).mono ?_; rintro e w1 ⟨rfl, hb1⟩; obtain ⟨x, rfl⟩ := a9 hb1; clear hb1) | (go_at_call 144; refine (bT (d) (r + r) _ _ _ _ _ _ _ _ _ _ _ (IsW.self _) (IsW.self _) hd hr2).mono ?_; rintro e w1 ⟨rfl, hb1⟩; obtain ⟨y, rfl⟩ := a9 hb1; clear hb1))
 go_ret
 refine ⟨rfl, ?_⟩
 repeat (first | exact Below.refl _ _ | refine Below.drew ?_ | refine below_drewN ?_ _ | refine ac ?_ _ | refine ae ?_ _ | (refine Below.setCell ?_ ?_ _; rotate_left; (simp <;> omega)))
set_option maxRecDepth 100000 in
theorem qR (neg : Bool) (q r d : Nat) (w : World) (hq : q < B ^ 5) (hr : 2 * r < B ^ 5) (hd : d < B ^ 5) (h0 : ¬ r = 0) (hc : d < r + r) :
  Calls Tryz.prog 101 #[.bool neg, .agg #[.int .u64 (wd (q) 0), .int .u64 (wd (q) 1), .int .u64 (wd (q) 2), .int .u64 (wd (q) 3), .int .u64 (wd (q) 4)], .agg #[.int .u64 (wd (r) 0), .int .u64 (wd (r) 1), .int .u64 (wd (r) 2), .int .u64 (wd (r) 3), .int .u64 (wd (r) 4)], .agg #[.int .u64 (wd (d) 0), .int .u64 (wd (d) 1), .int .u64 (wd (d) 2), .int .u64 (wd (d) 3), .int .u64 (wd (d) 4)], .int .i64 6] w
   fun e w' => e = .returned (.bool true) ∧ Below w.heap.size w w' := by
 have hr1 : r < B ^ 5 := by omega
 have hr2 : r + r < B ^ 5 := by omega
 have he := fun w => bZ hr1 w
 have hz : decide (r = 0) = false := by simp [h0]
 have hdc : decide (d < r + r) = true := by simp [hc]
 clear hc
 clear h0 hr
 go_enter Tryz.func101, Tryz.ntmps101
 go_wp2_with (first | (go_at_call 102; refine (bE r r _ _ _ _ _ _ _ _ _ _ _ (IsW.self _) (IsW.self _)).mono ?_; rintro e w1 ⟨rfl, hb1⟩; obtain ⟨x, rfl⟩ := a9 hb1; clear hb1) | (go_at_call 144; refine (bT (d) (r + r) _ _ _ _ _ _ _ _ _ _ _ (IsW.self _) (IsW.self _) hd hr2).mono ?_; rintro e w1 ⟨rfl, hb1⟩; obtain ⟨y, rfl⟩ := a9 hb1; clear hb1))
 go_ret
 refine ⟨rfl, ?_⟩
 repeat (first | exact Below.refl _ _ | refine Below.drew ?_ | refine below_drewN ?_ _ | refine ac ?_ _ | refine ae ?_ _ | (refine Below.setCell ?_ ?_ _; rotate_left; (simp <;> omega)))
set_option maxRecDepth 100000 in
theorem qS (neg : Bool) (q r d : Nat) (w : World) (hq : q < B ^ 5) (hr : 2 * r < B ^ 5) (hd : d < B ^ 5) (h0 : ¬ r = 0) (hc : ¬ d < r + r) (hc2 : ¬ r + r = d) :
  Calls Tryz.prog 101 #[.bool neg, .agg #[.int .u64 (wd (q) 0), .int .u64 (wd (q) 1), .int .u64 (wd (q) 2), .int .u64 (wd (q) 3), .int .u64 (wd (q) 4)], .agg #[.int .u64 (wd (r) 0), .int .u64 (wd (r) 1), .int .u64 (wd (r) 2), .int .u64 (wd (r) 3), .int .u64 (wd (r) 4)], .agg #[.int .u64 (wd (d) 0), .int .u64 (wd (d) 1), .int .u64 (wd (d) 2), .int .u64 (wd (d) 3), .int .u64 (wd (d) 4)], .int .i64 6] w
   fun e w' => e = .returned (.bool false) ∧ Below w.heap.size w w' := by
 have hr1 : r < B ^ 5 := by omega
 have hr2 : r + r < B ^ 5 := by omega
 have he := fun w => bZ hr1 w
 have hz : decide (r = 0) = false := by simp [h0]
 have hdc : decide (d < r + r) = false := by simp [hc]
 have hdc2 : decide (r + r = d) = false := by simp [hc2]
 have hee := fun w => mb hr2 hd w
 clear hc hc2
 clear h0 hr
 go_enter Tryz.func101, Tryz.ntmps101
 go_wp2_with (first | (go_at_call 102; refine (bE r r _ _ _ _ _ _ _ _ _ _ _ (IsW.self _) (IsW.self _)).mono ?_; rintro e w1 ⟨rfl, hb1⟩; obtain ⟨x, rfl⟩ := a9 hb1; clear hb1) | (go_at_call 144; refine (bT (d) (r + r) _ _ _ _ _ _ _ _ _ _ _ (IsW.self _) (IsW.self _) hd hr2).mono ?_; rintro e w1 ⟨rfl, hb1⟩; obtain ⟨y, rfl⟩ := a9 hb1; clear hb1))
 go_ret
 refine ⟨rfl, ?_⟩
 repeat (first | exact Below.refl _ _ | refine Below.drew ?_ | refine below_drewN ?_ _ | refine ac ?_ _ | refine ae ?_ _ | (refine Below.setCell ?_ ?_ _; rotate_left; (simp <;> omega)))
set_option maxRecDepth 100000 in
theorem qT (neg : Bool) (q r d : Nat) (w : World) (hq : q < B ^ 5) (hr : 2 * r < B ^ 5) (hd : d < B ^ 5) (h0 : ¬ r = 0) (hc : ¬ d < r + r) (hc2 : r + r = d) :
  Calls Tryz.prog 101 #[.bool neg, .agg #[.int .u64 (wd (q) 0), .int .u64 (wd (q) 1), .int .u64 (wd (q) 2), .int .u64 (wd (q) 3), .int .u64 (wd (q) 4)], .agg #[.int .u64 (wd (r) 0), .int .u64 (wd (r) 1), .int .u64 (wd (r) 2), .int .u64 (wd (r) 3), .int .u64 (wd (r) 4)], .agg #[.int .u64 (wd (d) 0), .int .u64 (wd (d) 1), .int .u64 (wd (d) 2), .int .u64 (wd (d) 3), .int .u64 (wd (d) 4)], .int .i64 6] w
   fun e w' => e = .returned (.bool (decide (q % 2 = 1))) ∧ Below w.heap.size w w' := by
 have hr1 : r < B ^ 5 := by omega
 have hr2 : r + r < B ^ 5 := by omega
 have he := fun w => bZ hr1 w
 have hz : decide (r = 0) = false := by simp [h0]
 have hdc : decide (d < r + r) = false := by simp [hc]
 have hdc2 : decide (r + r = d) = true := by simp [hc2]
 have hee := fun w => mb hr2 hd w
 have hodd := po q
 clear hc hc2
 clear h0 hr
 go_enter Tryz.func101, Tryz.ntmps101
 go_wp2_with (first | (go_at_call 102; refine (bE r r _ _ _ _ _ _ _ _ _ _ _ (IsW.self _) (IsW.self _)).mono ?_; rintro e w1 ⟨rfl, hb1⟩; obtain ⟨x, rfl⟩ := a9 hb1; clear hb1) | (go_at_call 144; refine (bT (d) (r + r) _ _ _ _ _ _ _ _ _ _ _ (IsW.self _) (IsW.self _) hd hr2).mono ?_; rintro e w1 ⟨rfl, hb1⟩; obtain ⟨y, rfl⟩ := a9 hb1; clear hb1))
 go_ret
 refine ⟨rfl, ?_⟩
 repeat (first | exact Below.refl _ _ | refine Below.drew ?_ | refine below_drewN ?_ _ | refine ac ?_ _ | refine ae ?_ _ | (refine Below.setCell ?_ ?_ _; rotate_left; (simp <;> omega)))
theorem eW (neg : Bool) (q r d mode : Nat) (a0 a1 a2 a3 a4 b0 b1 b2 b3 b4 c0 c1 c2 c3 c4 : Int) (w : World) (ha : IsW q a0 a1 a2 a3 a4) (hb : IsW r b0 b1 b2 b3 b4) (hc : IsW d c0 c1 c2 c3 c4) (hq : q < B ^ 5) (hr : 2 * r < B ^ 5) (hd : d < B ^ 5) (hm : mode ≤ 6) :
  Calls Tryz.prog 101 #[.bool neg, .agg #[.int .u64 a0, .int .u64 a1, .int .u64 a2, .int .u64 a3, .int .u64 a4], .agg #[.int .u64 b0, .int .u64 b1, .int .u64 b2, .int .u64 b3, .int .u64 b4], .agg #[.int .u64 c0, .int .u64 c1, .int .u64 c2, .int .u64 c3, .int .u64 c4], .int .i64 mode] w
   fun e w' => e = .returned (.bool (away neg q r d mode)) ∧ Below w.heap.size w w' := by
 obtain ⟨rfl, rfl, rfl, rfl, rfl⟩ := ha
 obtain ⟨rfl, rfl, rfl, rfl, rfl⟩ := hb
 obtain ⟨rfl, rfl, rfl, rfl, rfl⟩ := hc
 by_cases h0 : r = 0
 ·subst h0; exact mN neg q d mode w
 ·unfold away
  rw [if_neg h0]
  match mode, hm with
  | 0, _ => exact tz neg q r d w hq hr hd h0
  | 1, _ => exact tA neg q r d w hq hr hd h0
  | 2, _ => exact tB neg q r d w hq hr hd h0
  | 3, _ => exact tC neg q r d w hq hr hd h0
  | 4, _ => exact tD neg q r d w hq hr hd h0
  | 5, _ => exact tE neg q r d w hq hr hd h0
  | 6, _ =>
   by_cases h1 : d < r + r
   ·simp only [h1, decide_true, Bool.true_or]
    exact qR neg q r d w hq hr hd h0 h1
   ·by_cases h2 : r + r = d
    ·rw [show (decide (d < r + r) || (decide (r + r = d) && decide (q % 2 = 1))) = decide (q % 2 = 1) by rw [decide_eq_false h1, decide_eq_true h2]; rfl]
     exact qT neg q r d w hq hr hd h0 h1 h2
    ·simp only [h1, h2, decide_false, Bool.false_or, Bool.false_and]
     exact qS neg q r d w hq hr hd h0 h1 h2
end Go.Proofs.YtjkiplndbcmmbaaGreatDoor