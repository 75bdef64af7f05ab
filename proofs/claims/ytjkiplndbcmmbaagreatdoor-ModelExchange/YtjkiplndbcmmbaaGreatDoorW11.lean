/- texts of the model: Wg Na Nb Nc Nd Ne Nf Pa Pb Pd Pe Pf Qa Pc -/
import Derived.Test.YtjkiplndbcmmbaaGreatDoorW09
import Derived.Test.YtjkiplndbcmmbaaGreatDoorW02
import Derived.Laws.IdiomCopy
import Derived.Deep.RegionWith
import Derived.Test.YtjkiplndbcmmbaaGreatDoorW10
import Derived.ChangeKeysEq
set_option linter.unusedVariables false
set_option linter.unusedSimpArgs false
set_option maxHeartbeats 16000000
set_option maxRecDepth 100000
namespace Go.Proofs.YtjkiplndbcmmbaaGreatDoor
open Tryz
open Go.RowKit
attribute [local go_sem] ap ai ar af ae ag aD av ax ay aN aO aP aQ aR
theorem qo : (prog.info? 23).map (·.size) = some 1 := by kernel_rfl
theorem oT (w : World) (b n : Nat) (h : Row5 w b 0 n) :
  (Builtin.copy_ #[58, 58] 3 #[.slice (some ⟨b, 1, none⟩) 4 4, .slice (some ⟨b, 0, none⟩) 4 5]).run prog w =
   .ok (.int .i64 4) ((((w.setCell ⟨b, 1, none⟩ (.int .u64 (wd n 0))).setCell ⟨b, 2, none⟩ (.int .u64 (wd n 1))).setCell ⟨b, 3, none⟩ (.int .u64 (wd n 2))).setCell ⟨b, 4, none⟩ (.int .u64 (wd n 3))) := by
 obtain ⟨c0, c1, c2, c3, c4, f0, f1, f2, f3, f4⟩ := h.zero
 rw [run_copy_cells (P := prog) w _ _ _ 23 b 1 4 4 ⟨b, 0, none⟩ 4 5 [.int .u64 (wd n 0), .int .u64 (wd n 1), .int .u64 (wd n 2), .int .u64 (wd n 3)] underlying58 qo (by simp)]
 ·rfl
 ·intro j v hj
  match j, hj with
  | 0, hj => simp at hj; subst hj; simpa [Addr.add] using c0
  | 1, hj => simp at hj; subst hj; simpa [Addr.add] using c1
  | 2, hj => simp at hj; subst hj; simpa [Addr.add] using c2
  | 3, hj => simp at hj; subst hj; simpa [Addr.add] using c3
 ·intro j hj
  match j, hj with
  | 0, hj => simp [c1]
  | 1, hj => simp [c2]
  | 2, hj => simp [c3]
  | 3, hj => simp [c4]
 ·intro j hj
  match j, hj with
  | 0, hj => simp [f1]
  | 1, hj => simp [f2]
  | 2, hj => simp [f3]
  | 3, hj => simp [f4]
 ·intro v hv
  simp at hv
  rcases hv with rfl | rfl | rfl | rfl <;> rfl
theorem wH (n : Nat) : wd (n * B) 0 = 0 := by simp [wd]
theorem nC (n i : Nat) : wd (n * B) (i + 1) = wd n i := by
 unfold wd
 rw [Nat.pow_succ, ← Nat.div_div_eq_div_mul, Nat.div_div_eq_div_mul, Nat.mul_comm (B ^ i) B, ← Nat.div_div_eq_div_mul, Nat.mul_div_cancel _ bi]
theorem Row5.up {w : World} {b n : Nat} (h : Row5 w b 0 n) :
  Row5 (((((w.setCell ⟨b, 1, none⟩ (.int .u64 (wd n 0))).setCell ⟨b, 2, none⟩ (.int .u64 (wd n 1))).setCell ⟨b, 3, none⟩ (.int .u64 (wd n 2))).setCell ⟨b, 4, none⟩ (.int .u64 (wd n 3))).setCell ⟨b, 0, none⟩ (.int .u64 0)) b 0 (n * B) := by
 obtain ⟨c0, c1, c2, c3, c4, f0, f1, f2, f3, f4⟩ := h.zero
 have s : ∀ (u : World) (i : Nat) (v x : Value), u.cell? ⟨b, i, none⟩ = some x → (u.setCell ⟨b, i, none⟩ v).cell? ⟨b, i, none⟩ = some v := fun u i v x hx => World.cell?_setCell_same _ _ _ hx
 have t : ∀ (u : World) (i j : Nat) (v : Value), i ≠ j → (u.setCell ⟨b, i, none⟩ v).cell? ⟨b, j, none⟩ = u.cell? ⟨b, j, none⟩ := fun u i j v hij => World.cell?_setCell_other _ _ _ _ (eC hij)
 constructor
 ·rw [wH, s _ _ _ _ (by rw [t _ _ _ _ (by omega), t _ _ _ _ (by omega), t _ _ _ _ (by omega), t _ _ _ _ (by omega)]; exact c0)]
 ·rw [nC, t _ _ _ _ (by omega), t _ _ _ _ (by omega), t _ _ _ _ (by omega), t _ _ _ _ (by omega)]; exact s _ _ _ _ c1
 ·rw [nC, t _ _ _ _ (by omega), t _ _ _ _ (by omega), t _ _ _ _ (by omega)]; exact s _ _ _ _ (by rw [t _ _ _ _ (by omega)]; exact c2)
 ·rw [nC, t _ _ _ _ (by omega), t _ _ _ _ (by omega)]; exact s _ _ _ _ (by rw [t _ _ _ _ (by omega), t _ _ _ _ (by omega)]; exact c3)
 ·rw [nC, t _ _ _ _ (by omega)]; exact s _ _ _ _ (by rw [t _ _ _ _ (by omega), t _ _ _ _ (by omega), t _ _ _ _ (by omega)]; exact c4)
 all_goals (simp only [World.frozen?_setCell]; assumption)
def up5 (w : World) (b n : Nat) : World := (((((w.setCell ⟨b, 1, none⟩ (.int .u64 (wd n 0))).setCell ⟨b, 2, none⟩ (.int .u64 (wd n 1))).setCell ⟨b, 3, none⟩ (.int .u64 (wd n 2))).setCell ⟨b, 4, none⟩ (.int .u64 (wd n 3))).setCell ⟨b, 0, none⟩ (.int .u64 0))
theorem Row5.up5 {w : World} {b n : Nat} (h : Row5 w b 0 n) : Row5 (up5 w b n) b 0 (n * B) := h.up
theorem Row5.up_other {w : World} {b o n : Nat} (h : Row5 w b o n) {b' : Nat} (hb : b' ≠ b) (n' : Nat) : Row5 (YtjkiplndbcmmbaaGreatDoor.up5 w b' n') b o n :=
 ((((h.setCell (p := ⟨b', 1, none⟩) hb _).setCell (p := ⟨b', 2, none⟩) hb _).setCell (p := ⟨b', 3, none⟩) hb _).setCell (p := ⟨b', 4, none⟩) hb _).setCell (p := ⟨b', 0, none⟩) hb _
theorem rJ (w : World) (b n : Nat) : (YtjkiplndbcmmbaaGreatDoor.up5 w b n).heap.size = w.heap.size := by simp [YtjkiplndbcmmbaaGreatDoor.up5]
theorem nM {k : Nat} {w w' : World} (h : Below k w w') {b : Nat} (hb : k ≤ b) (n : Nat) : Below k w (YtjkiplndbcmmbaaGreatDoor.up5 w' b n) :=
 ((((h.setCell (p := ⟨b, 1, none⟩) hb _).setCell (p := ⟨b, 2, none⟩) hb _).setCell (p := ⟨b, 3, none⟩) hb _).setCell (p := ⟨b, 4, none⟩) hb _).setCell (p := ⟨b, 0, none⟩) hb _
theorem p7 {w w2 x : World} {m n P k : Nat} (hk : k ≤ 4) (HP : P * B + m * wn n k = m * (n / B ^ k)) (U0 : Row5 w2 w.heap.size 0 m) (U1 : Row5 w2 (w.heap.size + 1) 0 n) (U2 : Row5 w2 (w.heap.size + 1 + 1) 0 0)
  (U3 : Row5 w2 (w.heap.size + 1 + 1 + 1) 0 (P * B)) (hsz2 : w.heap.size + 1 + 1 + 1 < w2.heap.size) (hbel2 : Below w.heap.size w w2) :
  ∃ (j : Nat) (z : Int), j ≤ 5 ∧ Hid (z + 1 = j) ∧ Value.int .i64 ((k : Int) - 1) = .int .i64 z ∧ Row5 (ext (((((w2.setCell ⟨w.heap.size + 1 + 1 + 1, 0, none⟩ (.int .u64 (wd (P * B + m * wn n k) 0))).setCell ⟨w.heap.size + 1 + 1 + 1, 1, none⟩ (.int .u64 (wd (P * B + m * wn n k) 1))).setCell ⟨w.heap.size + 1 + 1 + 1, 2, none⟩ (.int .u64 (wd (P * B + m * wn n k) 2))).setCell ⟨w.heap.size + 1 + 1 + 1, 3, none⟩ (.int .u64 (wd (P * B + m * wn n k) 3))).setCell ⟨w.heap.size + 1 + 1 + 1, 4, none⟩ (.int .u64 (wd (P * B + m * wn n k) 4))) x) w.heap.size 0 m ∧
   Row5 (ext (((((w2.setCell ⟨w.heap.size + 1 + 1 + 1, 0, none⟩ (.int .u64 (wd (P * B + m * wn n k) 0))).setCell ⟨w.heap.size + 1 + 1 + 1, 1, none⟩ (.int .u64 (wd (P * B + m * wn n k) 1))).setCell ⟨w.heap.size + 1 + 1 + 1, 2, none⟩ (.int .u64 (wd (P * B + m * wn n k) 2))).setCell ⟨w.heap.size + 1 + 1 + 1, 3, none⟩ (.int .u64 (wd (P * B + m * wn n k) 3))).setCell ⟨w.heap.size + 1 + 1 + 1, 4, none⟩ (.int .u64 (wd (P * B + m * wn n k) 4))) x) (w.heap.size + 1) 0 n ∧
   Row5 (ext (((((w2.setCell ⟨w.heap.size + 1 + 1 + 1, 0, none⟩ (.int .u64 (wd (P * B + m * wn n k) 0))).setCell ⟨w.heap.size + 1 + 1 + 1, 1, none⟩ (.int .u64 (wd (P * B + m * wn n k) 1))).setCell ⟨w.heap.size + 1 + 1 + 1, 2, none⟩ (.int .u64 (wd (P * B + m * wn n k) 2))).setCell ⟨w.heap.size + 1 + 1 + 1, 3, none⟩ (.int .u64 (wd (P * B + m * wn n k) 3))).setCell ⟨w.heap.size + 1 + 1 + 1, 4, none⟩ (.int .u64 (wd (P * B + m * wn n k) 4))) x) (w.heap.size + 1 + 1) 0 0 ∧
   Row5 (ext (((((w2.setCell ⟨w.heap.size + 1 + 1 + 1, 0, none⟩ (.int .u64 (wd (P * B + m * wn n k) 0))).setCell ⟨w.heap.size + 1 + 1 + 1, 1, none⟩ (.int .u64 (wd (P * B + m * wn n k) 1))).setCell ⟨w.heap.size + 1 + 1 + 1, 2, none⟩ (.int .u64 (wd (P * B + m * wn n k) 2))).setCell ⟨w.heap.size + 1 + 1 + 1, 3, none⟩ (.int .u64 (wd (P * B + m * wn n k) 3))).setCell ⟨w.heap.size + 1 + 1 + 1, 4, none⟩ (.int .u64 (wd (P * B + m * wn n k) 4))) x) (w.heap.size + 1 + 1 + 1) 0 (m * (n / B ^ j)) ∧
   w.heap.size + 1 + 1 + 1 < (ext (((((w2.setCell ⟨w.heap.size + 1 + 1 + 1, 0, none⟩ (.int .u64 (wd (P * B + m * wn n k) 0))).setCell ⟨w.heap.size + 1 + 1 + 1, 1, none⟩ (.int .u64 (wd (P * B + m * wn n k) 1))).setCell ⟨w.heap.size + 1 + 1 + 1, 2, none⟩ (.int .u64 (wd (P * B + m * wn n k) 2))).setCell ⟨w.heap.size + 1 + 1 + 1, 3, none⟩ (.int .u64 (wd (P * B + m * wn n k) 3))).setCell ⟨w.heap.size + 1 + 1 + 1, 4, none⟩ (.int .u64 (wd (P * B + m * wn n k) 4))) x).heap.size ∧ Below w.heap.size w (ext (((((w2.setCell ⟨w.heap.size + 1 + 1 + 1, 0, none⟩ (.int .u64 (wd (P * B + m * wn n k) 0))).setCell ⟨w.heap.size + 1 + 1 + 1, 1, none⟩ (.int .u64 (wd (P * B + m * wn n k) 1))).setCell ⟨w.heap.size + 1 + 1 + 1, 2, none⟩ (.int .u64 (wd (P * B + m * wn n k) 2))).setCell ⟨w.heap.size + 1 + 1 + 1, 3, none⟩ (.int .u64 (wd (P * B + m * wn n k) 3))).setCell ⟨w.heap.size + 1 + 1 + 1, 4, none⟩ (.int .u64 (wd (P * B + m * wn n k) 4))) x) := by
 have K : ∀ {b o y : Nat}, Row5 (set5 w2 (w.heap.size + 1 + 1 + 1) 0 (P * B + m * wn n k)) b o y → b < w2.heap.size → Row5 (ext (set5 w2 (w.heap.size + 1 + 1 + 1) 0 (P * B + m * wn n k)) x) b o y :=
  fun h hb => h.keep (cv _ _ _ (by rw [fY]; exact hb))
 refine ⟨k, (k : Int) - 1, by omega, by show (k : Int) - 1 + 1 = k; omega, rfl, K (U0.laid_other (by omega) 0 _) (by omega), K (U1.laid_other (by omega) 0 _) (by omega), K (U2.laid_other (by omega) 0 _) (by omega), (K (U3.laid _) hsz2).congr HP, ?_, ?_⟩
 ·rw [aZ, World.size_setCell, World.size_setCell, World.size_setCell, World.size_setCell, World.size_setCell]; omega
 ·exact cA (cG hbel2 (by omega) 0 _) (by rw [fY]; omega) x
theorem p5 (m n : Nat) (a0 a1 a2 a3 a4 b0 b1 b2 b3 b4 : Int) (w : World) (ha : IsW m a0 a1 a2 a3 a4) (hb : IsW n b0 b1 b2 b3 b4) (hn : n < B ^ 5) :
  Calls prog 185 #[.agg #[.int .u64 a0, .int .u64 a1, .int .u64 a2, .int .u64 a3, .int .u64 a4], .agg #[.int .u64 b0, .int .u64 b1, .int .u64 b2, .int .u64 b3, .int .u64 b4]] w
   fun e w' => e = .returned (.agg #[.int .u64 (wd (m * n) 0), .int .u64 (wd (m * n) 1), .int .u64 (wd (m * n) 2), .int .u64 (wd (m * n) 3), .int .u64 (wd (m * n) 4)]) ∧ Below w.heap.size w w' := by
 obtain ⟨rfl, rfl, rfl, rfl, rfl⟩ := ha
 obtain ⟨rfl, rfl, rfl, rfl, rfl⟩ := hb
 go_enter func185, ntmps185
 go_wp2
 go_loopw [6] (fun i wr => ∃ (k : Nat) (z : Int), k ≤ 5 ∧ Hid (z + 1 = k) ∧ i = .int .i64 z ∧ Row5 wr w.heap.size 0 m ∧ Row5 wr (w.heap.size + 1) 0 n ∧ Row5 wr (w.heap.size + 1 + 1) 0 0 ∧ Row5 wr (w.heap.size + 1 + 1 + 1) 0 (m * (n / B ^ k)) ∧ w.heap.size + 1 + 1 + 1 < wr.heap.size ∧ Below w.heap.size w wr)
  (fun i _ => (intOf i + 1).toNat)
 case atStart =>
  refine ⟨5, 4, by omega, rfl, rfl, ?_, ?_, ?_, ?_, ?_, ?_⟩
  ·constructor <;> simp [go_sem]
  ·constructor <;> simp [go_sem]
  ·constructor <;> simp [go_sem, aG]
  ·rw [Nat.div_eq_of_lt hn, Nat.mul_zero]
   constructor <;> simp [go_sem, aG]
  ·simp
  ·exact bl_
 case round =>
  obtain ⟨k1, z, hk, hkz, rfl, R0, R1, R2, R3, hsz, hbel⟩ := hrel
  have hk1 := hkz.out
  clear hkz
  by_cases hz0 : 0 ≤ z
  ·obtain ⟨k, rfl⟩ := Int.eq_ofNat_of_zero_le hz0
   obtain rfl : k1 = k + 1 := by omega
   have hk5 : (k : Int) < 5 := by omega
   clear hk1
   have hcp := fun x => oT (ext wr x) _ _ (R3.keep (cv wr x _ (show w.heap.size + 1 + 1 + 1 < wr.heap.size by omega)))
   have U3 := R3.up5
   have U0 := R0.up_other (b' := w.heap.size + 1 + 1 + 1) (by omega) (m * (n / B ^ (k + 1)))
   have U1 := R1.up_other (b' := w.heap.size + 1 + 1 + 1) (by omega) (m * (n / B ^ (k + 1)))
   have U2 := R2.up_other (b' := w.heap.size + 1 + 1 + 1) (by omega) (m * (n / B ^ (k + 1)))
   have hz := rJ wr (w.heap.size + 1 + 1 + 1) (m * (n / B ^ (k + 1)))
   have hbel2 := nM hbel (b := w.heap.size + 1 + 1 + 1) (by omega) (m * (n / B ^ (k + 1)))
   obtain ⟨c0, c1, c2, c3, c4, f0, f1, f2, f3, f4⟩ := R3.zero
   have HP : Hid (m * (n / B ^ (k + 1)) * B + m * wn n k = m * (n / B ^ k)) := by
    show m * (n / B ^ (k + 1)) * B + m * wn n k = m * (n / B ^ k)
    rw [bZ n k, Nat.mul_add, Nat.mul_comm B, Nat.mul_assoc]
   generalize m * (n / B ^ (k + 1)) = P at *
   have HZ : Hid _ := hz
   clear hz
   go_wp2
   refine aX 2 (by kernel_rfl) (by kernel_rfl) ?_
   iterate 2 (refine wpQuiet_step (fun K hK => ?_); go_simp; first | (refine hK _ ?_; clear hK K) | (apply Exists.intro; refine ⟨fun xq => ?_, hK _ ?_⟩; (fail); clear hK K))
   refine wpQuiet_nil ?_
   intro xq
   simp only [List.drop_succ_cons, List.drop_zero]
   go_wp2
   rw [show (((((wr.setCell ⟨w.heap.size + 1 + 1 + 1, 1, none⟩ (.int .u64 (wd P 0))).setCell ⟨w.heap.size + 1 + 1 + 1, 2, none⟩ (.int .u64 (wd P 1))).setCell ⟨w.heap.size + 1 + 1 + 1, 3, none⟩ (.int .u64 (wd P 2))).setCell ⟨w.heap.size + 1 + 1 + 1, 4, none⟩ (.int .u64 (wd P 3))).setCell ⟨w.heap.size + 1 + 1 + 1, 0, none⟩ (.int .u64 0)) = up5 wr (w.heap.size + 1 + 1 + 1) P from rfl]
   clear hcp c0 c1 c2 c3 c4 f0 f1 f2 f3 f4 R0 R1 R2 R3 hbel
   have hsz1 : w.heap.size + 1 + 1 + 1 < (up5 wr (w.heap.size + 1 + 1 + 1) P).heap.size := by have := HZ.out; omega
   clear HZ hsz
   generalize up5 wr (w.heap.size + 1 + 1 + 1) P = w1 at *
   have T0 := U0.keep (cv w1 xq _ (by omega))
   have T1 := U1.keep (cv w1 xq _ (by omega))
   have T2 := U2.keep (cv w1 xq _ (by omega))
   have T3 := U3.keep (cv w1 xq _ (by omega))
   have hbel3 := cA hbel2 (by omega) xq
   have hsz2 : w.heap.size + 1 + 1 + 1 < (ext w1 xq).heap.size := by rw [aZ]; omega
   clear U0 U1 U2 U3 hbel2 hsz1
   generalize ext w1 xq = w2 at *
   have h0 : w.heap.size < w2.heap.size := by omega
   have h1 : w.heap.size + 1 < w2.heap.size := by omega
   have HU2 : Hid _ := T2
   clear T2
   obtain ⟨c0, c1, c2, c3, c4, f0, f1, f2, f3, f4⟩ := T3.zero
   obtain ⟨a0, a1, a2, a3, a4, -, -, -, -, -⟩ := T0.zero
   have b0 := T1.nth k (by omega)
   refine aX 7 (by kernel_rfl) (by kernel_rfl) ?_
   iterate 7 (refine wpQuiet_step (fun K hK => ?_); go_simp; first | (refine hK _ ?_; clear hK K) | (apply Exists.intro; refine ⟨fun xq => ?_, hK _ ?_⟩; (first | (go_at_call 148; exact aJ (eT m (wn n k) _ _ _ _ _ _ (IsW.self _) (lz _ _))) | (go_at_call 102; exact aJ (bp (P * B) (m * wn n k) _ _ _ _ _ _ _ _ _ _ _ (IsW.self _) (IsW.self _)))); clear hK K))
   refine wpQuiet_nil ?_
   intro xq
   simp only [List.drop_succ_cons, List.drop_zero]
   go_wp2
   go_roundw
   case rel => exact p7 (x := xq) (by omega) HP.out T0 T1 HU2.out T3 hsz2 hbel3
   case measure => simp [intOf]
  ·obtain rfl : k1 = 0 := by omega
   clear hk1
   obtain ⟨c0, c1, c2, c3, c4, f0, f1, f2, f3, f4⟩ := R3.zero
   obtain ⟨d0, d1, d2, d3, d4, g0, g1, g2, g3, g4⟩ := R2.zero
   rw [Nat.pow_zero, Nat.div_one] at c0 c1 c2 c3 c4
   go_wp2
   refine bodyPost_ret (v := .agg _) (by simp [results, results185, go_sem, d0, d1, d2, d3, d4]) rfl ⟨rfl, ?_⟩
   exact cG hbel (by omega) 0 _
def dhi (c : Int) : Int := c / 18446744073709551616
def dlo (c : Int) : Int := c % 18446744073709551616
theorem nV (h l : Int) (hl : 0 ≤ l) (hl2 : l ≤ 18446744073709551615) : dhi (h * 18446744073709551616 + l) = h ∧ dlo (h * 18446744073709551616 + l) = l := by unfold dhi dlo; omega
structure IsD (c h l : Int) : Prop where
 eh : h = dhi c
 el : l = dlo c
theorem IsD.self (c : Int) : IsD c (dhi c) (dlo c) := ⟨rfl, rfl⟩
def M127 : Int := 170141183460469231731687303715884105728
theorem bN : M127 = 170141183460469231731687303715884105728 := rfl
structure InR (c : Int) : Prop where
 lo : -M127 < c
 hi : c < M127
theorem gP (c : Int) : 0 ≤ dlo c ∧ dlo c ≤ 18446744073709551615 := by unfold dlo; omega
theorem lT {c : Int} (h : InR c) : -9223372036854775808 ≤ dhi c ∧ dhi c ≤ 9223372036854775807 := by
 have := h.lo; have := h.hi; rw [bN] at *; unfold dhi; omega
theorem mN (c : Int) : dhi c < 0 ↔ c < 0 := by unfold dhi; omega
theorem qM (c : Int) : (0 + 18446744073709551616 - dlo c - 0) % 18446744073709551616 = dlo (-c) := by unfold dlo; omega
def oborrow (c : Int) : Int := if 0 < dlo c + 0 then 1 else 0
theorem dD (c : Int) : 0 ≤ oborrow c ∧ oborrow c ≤ 1 := by unfold oborrow; split <;> omega
def ohi (c : Int) : Int := (0 + 18446744073709551616 - IntKind.u64.wrap (dhi c) - oborrow c) % 18446744073709551616
def orest (c : Int) : Int := if 0 < IntKind.u64.wrap (dhi c) + oborrow c then 1 else 0
theorem qL {c : Int} (h : InR c) : wrap64 (ohi c) = dhi (-c) := by
 have h1 := h.lo; have h2 := h.hi; rw [bN] at *
 unfold ohi oborrow
 rw [IntKind.wrap_u64]
 unfold wrap64 dhi dlo
 split <;> omega
theorem fM (x : Int) : IsWord (IntKind.u64.wrap x) := by rw [IntKind.wrap_u64]; constructor <;> omega
theorem gQ (c : Int) : IsWord (dlo c) := ⟨(gP c).1, (gP c).2⟩
theorem bU (c h l s : Int) (w : World) (hd : IsD c h l) (hc : InR c) :
  Calls prog 67 #[.agg #[.int .i64 h, .int .u64 l, .int .i64 s]] w
   fun e w' => e = .returned (.agg #[.int .i64 (dhi (-c)), .int .u64 (dlo (-c)), .int .i64 s]) ∧ Below w.heap.size w w' := by
 obtain ⟨rfl, rfl⟩ := hd
 have r1 : ∀ w, (callFunc 103 #[.int .u64 0, .int .u64 (dlo c), .int .u64 0]).run prog w = .ok (.value (.tuple #[.int .u64 (dlo (-c)), .int .u64 (oborrow c)])) w := by
  intro w
  rw [dl 0 (dlo c) 0 ⟨by omega, by omega⟩ (gQ c) (by omega) (by omega), qM]
  rfl
 have r2 : ∀ w, (callFunc 103 #[.int .u64 0, .int .u64 (IntKind.u64.wrap (dhi c)), .int .u64 (oborrow c)]).run prog w = .ok (.value (.tuple #[.int .u64 (ohi c), .int .u64 (orest c)])) w := by
  intro w
  rw [dl 0 _ _ ⟨by omega, by omega⟩ (fM _) (dD c).1 (dD c).2]
  rfl
 have r3 := qL hc
 go_enter func67, ntmps67
 go_wp2
 refine bodyPost_ret (v := .agg _) (by simp [results, results67, go_sem]) rfl ⟨rfl, ?_⟩
 exact bl_
theorem lu {n : Nat} (h : (n : Int) < 340282366920938463463374607431768211456) : wd n 0 = (n : Int) % 18446744073709551616 ∧ wd n 1 = (n : Int) / 18446744073709551616 ∧ wd n 2 = 0 ∧ wd n 3 = 0 ∧ wd n 4 = 0 := by
 have e2 : B ^ 2 = 340282366920938463463374607431768211456 := by rw [dO]
 have h3 : ∀ i, 2 ≤ i → n / B ^ i = 0 := fun i hi => Nat.div_eq_of_lt (Nat.lt_of_lt_of_le (by rw [e2]; omega : n < B ^ 2) (Nat.pow_le_pow_right bi hi))
 unfold wd
 refine ⟨?_, ?_, ?_, ?_, ?_⟩
 ·simp [dO]
 ·rw [Nat.pow_one, dO]; omega
 ·rw [h3 2 (by omega)]; simp
 ·rw [h3 3 (by omega)]; simp
 ·rw [h3 4 (by omega)]; simp
theorem lC {c : Int} (h0 : 0 ≤ c) (h : c < M127) : IntKind.u64.wrap (dhi c) = wd c.toNat 1 ∧ dlo c = wd c.toNat 0 ∧ wd c.toNat 2 = 0 ∧ wd c.toNat 3 = 0 ∧ wd c.toNat 4 = 0 := by
 rw [bN] at h
 obtain ⟨n, rfl⟩ := Int.eq_ofNat_of_zero_le h0
 obtain ⟨e0, e1, e2, e3, e4⟩ := lu (n := n) (by omega)
 rw [Int.toNat_natCast, e0, e1]
 refine ⟨?_, rfl, e2, e3, e4⟩
 rw [IntKind.wrap_u64]; unfold dhi; omega
theorem aW (c h l s : Int) (w : World) (hd : IsD c h l) (hc : InR c) :
  Calls prog 66 #[.agg #[.int .i64 h, .int .u64 l, .int .i64 s]] w
   fun e w' => e = .returned (.agg #[.bool (decide (c < 0)), .int .u64 (wd (c.natAbs) 0), .int .u64 (wd (c.natAbs) 1), .int .u64 (wd (c.natAbs) 2), .int .u64 (wd (c.natAbs) 3), .int .u64 (wd (c.natAbs) 4)]) ∧ Below w.heap.size w w' := by
 obtain ⟨rfl, rfl⟩ := hd
 have h1 := hc.lo
 have h2 := hc.hi
 by_cases c0 : c < 0
 ·have t : dhi c < 0 := (mN c).2 c0
  obtain ⟨e1, e0, e2, e3, e4⟩ := lC (c := -c) (by omega) (by omega)
  have ht : (-c).toNat = c.natAbs := by omega
  rw [ht] at e1 e0 e2 e3 e4
  have HE : Hid (wd c.natAbs 2 = 0 ∧ wd c.natAbs 3 = 0 ∧ wd c.natAbs 4 = 0) := ⟨e2, e3, e4⟩
  have H0 : Hid _ := e0
  clear e2 e3 e4 ht e0
  go_enter func66, ntmps66
  go_wp2_with (go_at_call 67; refine (bU c _ _ _ _ (IsD.self _) hc).mono ?_; rintro e w1 ⟨rfl, hb1⟩; obtain ⟨x, rfl⟩ := a9 hb1; clear hb1)
  refine bodyPost_ret (v := .agg #[.bool true, .int .u64 (dlo (-c)), .int .u64 (wd c.natAbs 1), .int .u64 0, .int .u64 0, .int .u64 0]) (by simp [results, results66, go_sem]) rfl ⟨?_, ?_⟩
  ·obtain ⟨e2, e3, e4⟩ := HE.out
   rw [H0.out, e2, e3, e4, show decide (c < 0) = true by simp [c0]]
  ·exact bl_
 ·have t : ¬ dhi c < 0 := fun t => c0 ((mN c).1 t)
  obtain ⟨e1, e0, e2, e3, e4⟩ := lC (c := c) (by omega) (by omega)
  have ht : c.toNat = c.natAbs := by omega
  rw [ht] at e1 e0 e2 e3 e4
  have HE : Hid (wd c.natAbs 2 = 0 ∧ wd c.natAbs 3 = 0 ∧ wd c.natAbs 4 = 0) := ⟨e2, e3, e4⟩
  have H0 : Hid _ := e0
  clear e2 e3 e4 ht e0
  go_enter func66, ntmps66
  go_wp2
  refine bodyPost_ret (v := .agg #[.bool false, .int .u64 (dlo c), .int .u64 (wd c.natAbs 1), .int .u64 0, .int .u64 0, .int .u64 0]) (by simp [results, results66, go_sem]) rfl ⟨?_, ?_⟩
  ·obtain ⟨e2, e3, e4⟩ := HE.out
   rw [H0.out, e2, e3, e4, show decide (c < 0) = false by simp [c0]]
  ·exact bl_
def sv (neg : Bool) (n : Nat) : Int := if neg then -(n : Int) else n
theorem iu (c : Int) : sv (decide (c < 0)) c.natAbs = c := by unfold sv; by_cases h : c < 0 <;> simp [h] <;> omega
theorem oG {n : Nat} (h : (n : Int) < M127) : dlo (n : Int) = wd n 0 ∧ dhi (n : Int) = wd n 1 ∧ wrap64 (wd n 1) = dhi (n : Int) := by
 rw [bN] at h
 obtain ⟨e0, e1, -, -, -⟩ := lu (n := n) (by omega)
 rw [e0, e1]
 refine ⟨rfl, rfl, ?_⟩
 unfold wrap64 dhi; omega
theorem vy (n : Nat) : bl n ≤ 127 ↔ (n : Int) < M127 := by
 rw [cH, bN]
 omega
theorem gN (neg : Bool) (n : Nat) (s : Int) (w : World) (hn5 : n < B ^ 5) (hn : (n : Int) < M127) :
  Calls prog 59 #[.agg #[.bool neg, .int .u64 (wd (n) 0), .int .u64 (wd (n) 1), .int .u64 (wd (n) 2), .int .u64 (wd (n) 3), .int .u64 (wd (n) 4)], .int .i64 s] w
   fun e w' => e = .returned (.tuple #[.agg #[.int .i64 (dhi (sv neg n)), .int .u64 (dlo (sv neg n)), .int .i64 s], .int .i64 0]) ∧ Below w.heap.size w w' := by
 have hb : (bl n : Int) ≤ 127 := by have := (vy n).2 hn; omega
 obtain ⟨e0, e1, e2⟩ := oG hn
 have HE : Hid (dlo (n : Int) = wd n 0) := e0
 have hc : InR (n : Int) := ⟨by have := bN; omega, hn⟩
 clear e1
 cases neg
 ·have es : sv false n = (n : Int) := rfl
  rw [es]
  clear es hn hc e0
  go_enter func59, ntmps59
  go_wp2_with (go_at_call 94; refine (dS n _ _ _ _ _ _ (IsW.self _) hn5).mono ?_; rintro e w1 ⟨rfl, hb1⟩; obtain ⟨x, rfl⟩ := a9 hb1; clear hb1)
  refine bodyPost_ret (v := .tuple #[.agg #[.int .i64 (dhi n), .int .u64 (wd n 0), .int .i64 s], .int .i64 0]) (by simp [results, results59, go_sem]) rfl ⟨by rw [HE.out], ?_⟩
  exact bl_
 ·have es : sv true n = -(n : Int) := rfl
  rw [es]
  have HD : Hid (IsD (n : Int) (dhi n) (wd n 0)) := ⟨rfl, e0.symm⟩
  have HC : Hid (InR (n : Int)) := hc
  clear e0 es hn hc
  go_enter func59, ntmps59
  go_wp2_with (first | (go_at_call 94; refine (dS n _ _ _ _ _ _ (IsW.self _) hn5).mono ?_; rintro e w1 ⟨rfl, hb1⟩; obtain ⟨x, rfl⟩ := a9 hb1; clear hb1) | (go_at_call 67; refine (bU (n : Int) _ _ _ _ HD.out HC.out).mono ?_; rintro e w1 ⟨rfl, hb1⟩; obtain ⟨y, rfl⟩ := a9 hb1; clear hb1))
  refine bodyPost_ret (v := .tuple #[.agg #[.int .i64 (dhi (-n)), .int .u64 (dlo (-n)), .int .i64 s], .int .i64 0]) (by simp [results, results59, go_sem]) rfl ⟨rfl, ?_⟩
  exact bl_
theorem mP (a0 a1 a2 a3 a4 b0 b1 b2 b3 b4 : Int) (w : World) :
  (Op.equalIn 10000 123 (.agg #[.int .u64 a0, .int .u64 a1, .int .u64 a2, .int .u64 a3, .int .u64 a4]) (.agg #[.int .u64 b0, .int .u64 b1, .int .u64 b2, .int .u64 b3, .int .u64 b4])).run prog w = .ok ((a0 == b0) && ((a1 == b1) && ((a2 == b2) && ((a3 == b3) && (a4 == b4))))) w := by
 obtain ⟨i, hi⟩ : ∃ i, prog.info? 23 = some i := Option.isSome_iff_exists.1 (by kernel_rfl)
 rw [show (10000 : Nat) = 9999 + 1 from rfl, run_equalIn_array (P := prog) w 9999 _ _ underlying123 hi]
 have hc : prog.cellsOf 23 = 1 := by kernel_rfl
 rw [hc]
 simp [Op.eqItems, List.range, List.range.loop, go_sem]
 by_cases h0 : a0 = b0 <;> by_cases h1 : a1 = b1 <;> by_cases h2 : a2 = b2 <;> by_cases h3 : a3 = b3 <;> by_cases h4 : a4 = b4 <;> simp [h0, h1, h2, h3, h4]
theorem il {m n : Nat} (hm : m < B ^ 5) (hn : n < B ^ 5) : ((wd m 0 == wd n 0) && ((wd m 1 == wd n 1) && ((wd m 2 == wd n 2) && ((wd m 3 == wd n 3) && (wd m 4 == wd n 4))))) = decide (m = n) := by
 rw [Bool.eq_iff_iff]
 simp only [Bool.and_eq_true, beq_iff_eq, decide_eq_true_eq]
 constructor
 ·rintro ⟨e0, e1, e2, e3, e4⟩
  have f : ∀ i, wd m i = wd n i → wn m i = wn n i := fun i h => by rw [bH, bH] at h; omega
  have t4 := bj (kD hm hn) (f 4 e4)
  have t3 := bj t4 (f 3 e3)
  have t2 := bj t3 (f 2 e2)
  have t1 := bj t2 (f 1 e1)
  have t0 := bj t1 (f 0 e0)
  simpa using t0
 ·rintro rfl; simp
theorem bP {n : Nat} (hn : n < B ^ 5) (w : World) :
  (Op.equalIn 10000 123 (.agg #[.int .u64 (wd (n) 0), .int .u64 (wd (n) 1), .int .u64 (wd (n) 2), .int .u64 (wd (n) 3), .int .u64 (wd (n) 4)]) (.agg #[.int .u64 0, .int .u64 0, .int .u64 0, .int .u64 0, .int .u64 0])).run prog w = .ok (decide (n = 0)) w := by
 have h := mP (wd n 0) (wd n 1) (wd n 2) (wd n 3) (wd n 4) (wd 0 0) (wd 0 1) (wd 0 2) (wd 0 3) (wd 0 4) w
 rw [il hn (Nat.pow_pos bi)] at h
 rw [aG, aG, aG, aG, aG] at h
 exact h
theorem mO {m n : Nat} (hm : m < B ^ 5) (hn : n < B ^ 5) (w : World) :
  (Op.equalIn 10000 123 (.agg #[.int .u64 (wd (m) 0), .int .u64 (wd (m) 1), .int .u64 (wd (m) 2), .int .u64 (wd (m) 3), .int .u64 (wd (m) 4)]) (.agg #[.int .u64 (wd (n) 0), .int .u64 (wd (n) 1), .int .u64 (wd (n) 2), .int .u64 (wd (n) 3), .int .u64 (wd (n) 4)])).run prog w = .ok (decide (m = n)) w := by
 rw [mP, il hm hn]
def sgn (c : Int) : Int := if c < 0 then -1 else if c = 0 then 0 else 1
theorem fG (neg : Bool) (n : Nat) (w : World) (hn : n < B ^ 5) :
  Calls prog 68 #[.agg #[.bool neg, .int .u64 (wd (n) 0), .int .u64 (wd (n) 1), .int .u64 (wd (n) 2), .int .u64 (wd (n) 3), .int .u64 (wd (n) 4)]] w
   fun e w' => e = .returned (.int .i64 (sgn (sv neg n))) ∧ Below w.heap.size w w' := by
 have he := fun w => bP hn w
 by_cases h0 : n = 0
 ·have hd : decide (n = 0) = true := by simp [h0]
  have fin : Hid (sgn (sv neg n) = 0) := by show _ = _; subst h0; cases neg <;> rfl
  clear h0 hn
  rw [fin.out]
  go_enter func68, ntmps68
  go_wp2
  go_ret
  refine ⟨rfl, ?_⟩
  exact bl_
 ·have hd : decide (n = 0) = false := by simp [h0]
  cases neg
  ·have fin : Hid (sgn (sv false n) = 1) := by show _ = _; unfold sgn sv; simp; omega
   clear h0 hn
   rw [fin.out]
   go_enter func68, ntmps68
   go_wp2
   go_ret
   refine ⟨rfl, ?_⟩
   exact bl_
  ·have fin : Hid (sgn (sv true n) = -1) := by show _ = _; unfold sgn sv; simp; omega
   clear h0 hn
   rw [fin.out]
   go_enter func68, ntmps68
   go_wp2
   go_ret
   refine ⟨rfl, ?_⟩
   exact bl_
def padd (a : Bool × Nat) (b : Bool × Nat) : Bool × Nat := if a.1 = b.1 then (a.1, a.2 + b.2) else if a.2 < b.2 then (b.1, b.2 - a.2) else (a.1, a.2 - b.2)
theorem tI (a b : Bool × Nat) : sv (padd a b).1 (padd a b).2 = sv a.1 a.2 + sv b.1 b.2 := by
 obtain ⟨s, m⟩ := a
 obtain ⟨t, n⟩ := b
 unfold padd sv
 cases s <;> cases t <;> simp <;> (try split) <;> (try simp) <;> omega
theorem tH (a b : Bool × Nat) : (padd a b).2 ≤ a.2 + b.2 := by unfold padd; split <;> (try split) <;> simp <;> omega
theorem iX (s t : Bool) (m n : Nat) (w : World) (hm : m < B ^ 5) (hn : n < B ^ 5) :
  Calls prog 93 #[.agg #[.bool s, .int .u64 (wd (m) 0), .int .u64 (wd (m) 1), .int .u64 (wd (m) 2), .int .u64 (wd (m) 3), .int .u64 (wd (m) 4)], .agg #[.bool t, .int .u64 (wd (n) 0), .int .u64 (wd (n) 1), .int .u64 (wd (n) 2), .int .u64 (wd (n) 3), .int .u64 (wd (n) 4)]] w
   fun e w' => e = .returned (.agg #[.bool (padd (s, m) (t, n)).1, .int .u64 (wd ((padd (s, m) (t, n)).2) 0), .int .u64 (wd ((padd (s, m) (t, n)).2) 1), .int .u64 (wd ((padd (s, m) (t, n)).2) 2), .int .u64 (wd ((padd (s, m) (t, n)).2) 3), .int .u64 (wd ((padd (s, m) (t, n)).2) 4)]) ∧ Below w.heap.size w w' := by
 by_cases hs : s = t
 ·have hb : (s == t) = true := by simp [hs]
  have e : padd (s, m) (t, n) = (s, m + n) := by unfold padd; simp [hs]
  rw [e]
  clear e hs
  go_enter func93, ntmps93
  go_wp2
  refine aX 8 (by kernel_rfl) (by kernel_rfl) ?_
  iterate 8 (refine wpQuiet_step (fun K hK => ?_); go_simp; first | (refine hK _ ?_; clear hK K) | (apply Exists.intro; refine ⟨fun xq => ?_, hK _ ?_⟩; (go_at_call 102; exact aJ (bp m n _ _ _ _ _ _ _ _ _ _ _ (IsW.self _) (IsW.self _))); clear hK K))
  refine wpQuiet_nil ?_
  intro xq
  simp only [List.drop_succ_cons, List.drop_zero]
  go_wp2
  refine bodyPost_ret (v := .agg _) (by simp [results, results93, go_sem]) rfl ⟨rfl, ?_⟩
  exact bl_
 ·have hb : (s == t) = false := by simp [hs]
  by_cases hl : m < n
  ·have hd : decide (m < n) = true := by simp [hl]
   have e : padd (s, m) (t, n) = (t, n - m) := by unfold padd; simp [hs, hl]
   rw [e]
   clear e hs
   go_enter func93, ntmps93
   go_wp2_with (go_at_call 144; refine (bL m n _ _ _ _ _ _ _ _ _ _ _ (IsW.self _) (IsW.self _) hm hn).mono ?_; rintro e w1 ⟨rfl, hb1⟩; obtain ⟨x, rfl⟩ := a9 hb1; clear hb1)
   refine aX 8 (by kernel_rfl) (by kernel_rfl) ?_
   iterate 8 (refine wpQuiet_step (fun K hK => ?_); go_simp; first | (refine hK _ ?_; clear hK K) | (apply Exists.intro; refine ⟨fun xq => ?_, hK _ ?_⟩; (go_at_call 145; exact aJ (fS n m _ _ _ _ _ _ _ _ _ _ _ (IsW.self _) (IsW.self _) (Nat.le_of_lt hl))); clear hK K))
   refine wpQuiet_nil ?_
   intro xq
   simp only [List.drop_succ_cons, List.drop_zero]
   go_wp2
   refine bodyPost_ret (v := .agg _) (by simp [results, results93, go_sem]) rfl ⟨rfl, ?_⟩
   exact bl_
  ·have hd : decide (m < n) = false := by simp [hl]
   have e : padd (s, m) (t, n) = (s, m - n) := by unfold padd; simp [hs, hl]
   rw [e]
   have hl2 : n ≤ m := by omega
   clear e hs hl
   go_enter func93, ntmps93
   go_wp2_with (go_at_call 144; refine (bL m n _ _ _ _ _ _ _ _ _ _ _ (IsW.self _) (IsW.self _) hm hn).mono ?_; rintro e w1 ⟨rfl, hb1⟩; obtain ⟨x, rfl⟩ := a9 hb1; clear hb1)
   refine aX 8 (by kernel_rfl) (by kernel_rfl) ?_
   iterate 8 (refine wpQuiet_step (fun K hK => ?_); go_simp; first | (refine hK _ ?_; clear hK K) | (apply Exists.intro; refine ⟨fun xq => ?_, hK _ ?_⟩; (go_at_call 145; exact aJ (fS m n _ _ _ _ _ _ _ _ _ _ _ (IsW.self _) (IsW.self _) hl2)); clear hK K))
   refine wpQuiet_nil ?_
   intro xq
   simp only [List.drop_succ_cons, List.drop_zero]
   go_wp2
   refine bodyPost_ret (v := .agg _) (by simp [results, results93, go_sem]) rfl ⟨rfl, ?_⟩
   exact bl_
def up10 (n s t : Nat) : Nat := n * 10 ^ (t - s)
theorem dG (c h l : Int) (s t : Nat) (w : World) (hd : IsD c h l) (hc : InR c) (hs : (s : Int) ≤ 18) (ht : (t : Int) ≤ 18) (hst : (s : Int) ≤ (t : Int)) :
  Calls prog 92 #[.agg #[.int .i64 h, .int .u64 l, .int .i64 s], .int .i64 t] w
   fun e w' => e = .returned (.agg #[.bool (decide (c < 0)), .int .u64 (wd (up10 c.natAbs s t) 0), .int .u64 (wd (up10 c.natAbs s t) 1), .int .u64 (wd (up10 c.natAbs s t) 2), .int .u64 (wd (up10 c.natAbs s t) 3), .int .u64 (wd (up10 c.natAbs s t) 4)]) ∧ Below w.heap.size w w' := by
 obtain ⟨rfl, rfl⟩ := hd
 obtain ⟨u, hu⟩ : ∃ u, u = t - s := ⟨_, rfl⟩
 have eu : (t : Int) - (s : Int) = (u : Int) := by omega
 have hu3 : u ≤ 1000 := by omega
 have hup : up10 c.natAbs s t = c.natAbs * 10 ^ u := by rw [hu]; rfl
 rw [hup]
 clear hu hup
 go_enter func92, ntmps92
 go_wp2_with (first | (go_at_call 66; refine (aW c _ _ _ _ (IsD.self _) hc).mono ?_; rintro e w1 ⟨rfl, hb1⟩; obtain ⟨x, rfl⟩ := a9 hb1; clear hb1) | (go_at_call 99; refine (fI c.natAbs u _ _ _ _ _ _ (IsW.self _) hu3).mono ?_; rintro e w1 ⟨rfl, hb1⟩; obtain ⟨y, rfl⟩ := a9 hb1; clear hb1))
 refine bodyPost_ret (v := .agg _) (by simp [results, results92, go_sem]) rfl ⟨rfl, ?_⟩
 exact bl_
theorem bg {c : Int} (hc : InR c) : c.natAbs < 2 ^ 127 := by
 have := hc.lo; have := hc.hi; rw [bN] at *; omega
theorem g8 {n u : Nat} (hn : n < 2 ^ 127) (hu : u ≤ 18) : n * 10 ^ u < B ^ 4 := by
 have h1 : 10 ^ u ≤ 10 ^ 18 := Nat.pow_le_pow_right (by decide) hu
 have h2 : n * 10 ^ u ≤ 2 ^ 127 * 10 ^ 18 := Nat.mul_le_mul (Nat.le_of_lt hn) h1
 exact Nat.lt_of_le_of_lt h2 (by decide)
theorem B45 {n : Nat} (h : n < B ^ 4) : n < B ^ 5 := Nat.lt_of_lt_of_le h (Nat.pow_le_pow_right bi (by decide))
def tot (ca : Int) (sa : Nat) (cb : Int) (sb : Nat) : Bool × Nat :=
 padd (decide (ca < 0), up10 ca.natAbs sa (max sa sb)) (decide (cb < 0), up10 cb.natAbs sb (max sa sb))
theorem rS (ca cb : Int) (sa sb : Nat) (w : World) (ia : InR ca) (ib : InR cb) (hsa : (sa : Int) ≤ 18) (hsb : (sb : Int) ≤ 18) (hc : (sa : Int) < (sb : Int)) :
  Calls prog 58 #[.agg #[.int .i64 (dhi ca), .int .u64 (dlo ca), .int .i64 sa], .agg #[.int .i64 (dhi cb), .int .u64 (dlo cb), .int .i64 sb]] w
   fun e w' => e = .returned (.tuple #[.agg #[.bool (tot ca sa cb sb).1, .int .u64 (wd ((tot ca sa cb sb).2) 0), .int .u64 (wd ((tot ca sa cb sb).2) 1), .int .u64 (wd ((tot ca sa cb sb).2) 2), .int .u64 (wd ((tot ca sa cb sb).2) 3), .int .u64 (wd ((tot ca sa cb sb).2) 4)], .int .i64 ((max sa sb : Nat) : Int)]) ∧ Below w.heap.size w w' := by
 have HA : Hid (up10 ca.natAbs sa sb < B ^ 5) := B45 (g8 (bg ia) (show sb - sa ≤ 18 by omega))
 have HB : Hid (up10 cb.natAbs sb sb < B ^ 5) := B45 (g8 (bg ib) (show sb - sb ≤ 18 by omega))
 unfold tot
 have HT : max sa sb = sb := by omega
 rw [HT]
 clear HT
 go_enter func58, ntmps58
 go_wp2
 refine wp_region_any (by kernel_rfl) ?_
 refine wpAny_take (i := 7) rfl (by kernel_rfl) (by kernel_rfl) (by kernel_rfl) (fun _ _ _ h => h) (Or.inl ⟨rfl, fun _ => rfl⟩) ?_
 refine iA 8 [7] [0, 1, 2, 3, 4, 5, 6] (by kernel_rfl) (by kernel_rfl) rfl (iQ _) ?_
 iterate 2 (refine wpQuiet_step (fun K hK => ?_); go_simp; refine hK _ ?_; clear hK K)
 refine wpQuiet_step (fun K hK => ?_)
 go_simp
 apply Exists.intro
 refine ⟨fun xq => ?_, hK _ ?_⟩
 ·exact aJ (dG ca _ _ sa sb _ (IsD.self _) ia hsa hsb (Int.le_of_lt hc))
 clear hK K
 iterate 2 (refine wpQuiet_step (fun K hK => ?_); go_simp; refine hK _ ?_; clear hK K)
 refine wpQuiet_step (fun K hK => ?_)
 go_simp
 apply Exists.intro
 refine ⟨fun xq => ?_, hK _ ?_⟩
 ·exact aJ (dG cb _ _ sb sb _ (IsD.self _) ib hsb hsb (Int.le_refl _))
 clear hK K
 refine wpQuiet_step (fun K hK => ?_)
 go_simp
 apply Exists.intro
 refine ⟨fun xq => ?_, hK _ ?_⟩
 ·exact aJ (iX _ _ _ _ _ HA.out HB.out)
 clear hK K
 refine wpQuiet_nil ?_
 intro xq
 simp only [List.drop_succ_cons, List.drop_zero]
 go_wp2
 refine bodyPost_ret (v := .tuple #[.agg _, .int .i64 _]) (by simp [results, results58, go_sem]) rfl ⟨rfl, ?_⟩
 exact bl_
theorem rR (ca cb : Int) (sa sb : Nat) (w : World) (ia : InR ca) (ib : InR cb) (hsa : (sa : Int) ≤ 18) (hsb : (sb : Int) ≤ 18) (hc : (sb : Int) ≤ (sa : Int)) :
  Calls prog 58 #[.agg #[.int .i64 (dhi ca), .int .u64 (dlo ca), .int .i64 sa], .agg #[.int .i64 (dhi cb), .int .u64 (dlo cb), .int .i64 sb]] w
   fun e w' => e = .returned (.tuple #[.agg #[.bool (tot ca sa cb sb).1, .int .u64 (wd ((tot ca sa cb sb).2) 0), .int .u64 (wd ((tot ca sa cb sb).2) 1), .int .u64 (wd ((tot ca sa cb sb).2) 2), .int .u64 (wd ((tot ca sa cb sb).2) 3), .int .u64 (wd ((tot ca sa cb sb).2) 4)], .int .i64 ((max sa sb : Nat) : Int)]) ∧ Below w.heap.size w w' := by
 have HA : Hid (up10 ca.natAbs sa sa < B ^ 5) := B45 (g8 (bg ia) (show sa - sa ≤ 18 by omega))
 have HB : Hid (up10 cb.natAbs sb sa < B ^ 5) := B45 (g8 (bg ib) (show sa - sb ≤ 18 by omega))
 unfold tot
 have HT : max sa sb = sa := by omega
 rw [HT]
 clear HT
 go_enter func58, ntmps58
 go_wp2
 refine wp_region_any (by kernel_rfl) ?_
 refine wpAny_take (i := 7) rfl (by kernel_rfl) (by kernel_rfl) (by kernel_rfl) (fun _ _ _ h => h) (Or.inl ⟨rfl, fun _ => rfl⟩) ?_
 refine iA 8 [7] [0, 1, 2, 3, 4, 5, 6] (by kernel_rfl) (by kernel_rfl) rfl (iQ _) ?_
 iterate 2 (refine wpQuiet_step (fun K hK => ?_); go_simp; refine hK _ ?_; clear hK K)
 refine wpQuiet_step (fun K hK => ?_)
 go_simp
 apply Exists.intro
 refine ⟨fun xq => ?_, hK _ ?_⟩
 ·exact aJ (dG ca _ _ sa sa _ (IsD.self _) ia hsa hsa (Int.le_refl _))
 clear hK K
 iterate 2 (refine wpQuiet_step (fun K hK => ?_); go_simp; refine hK _ ?_; clear hK K)
 refine wpQuiet_step (fun K hK => ?_)
 go_simp
 apply Exists.intro
 refine ⟨fun xq => ?_, hK _ ?_⟩
 ·exact aJ (dG cb _ _ sb sa _ (IsD.self _) ib hsb hsa hc)
 clear hK K
 refine wpQuiet_step (fun K hK => ?_)
 go_simp
 apply Exists.intro
 refine ⟨fun xq => ?_, hK _ ?_⟩
 ·exact aJ (iX _ _ _ _ _ HA.out HB.out)
 clear hK K
 refine wpQuiet_nil ?_
 intro xq
 simp only [List.drop_succ_cons, List.drop_zero]
 go_wp2
 refine bodyPost_ret (v := .tuple #[.agg _, .int .i64 _]) (by simp [results, results58, go_sem]) rfl ⟨rfl, ?_⟩
 exact bl_
theorem ga (ca ha la cb hb lb : Int) (sa sb : Nat) (w : World) (da : IsD ca ha la) (db : IsD cb hb lb) (ia : InR ca) (ib : InR cb) (hsa : (sa : Int) ≤ 18) (hsb : (sb : Int) ≤ 18) :
  Calls prog 58 #[.agg #[.int .i64 ha, .int .u64 la, .int .i64 sa], .agg #[.int .i64 hb, .int .u64 lb, .int .i64 sb]] w
   fun e w' => e = .returned (.tuple #[.agg #[.bool (tot ca sa cb sb).1, .int .u64 (wd ((tot ca sa cb sb).2) 0), .int .u64 (wd ((tot ca sa cb sb).2) 1), .int .u64 (wd ((tot ca sa cb sb).2) 2), .int .u64 (wd ((tot ca sa cb sb).2) 3), .int .u64 (wd ((tot ca sa cb sb).2) 4)], .int .i64 ((max sa sb : Nat) : Int)]) ∧ Below w.heap.size w w' := by
 obtain ⟨rfl, rfl⟩ := da
 obtain ⟨rfl, rfl⟩ := db
 rcases Int.lt_or_le (sa : Int) (sb : Int) with c | c
 ·exact rS ca cb sa sb w ia ib hsa hsb c
 ·exact rR ca cb sa sb w ia ib hsa hsb c
def away (neg : Bool) (q r d mode : Nat) : Bool :=
 if r = 0 then false else
 match mode with
 | 1 => true
 | 2 => neg
 | 3 => !neg
 | 4 => !decide (r + r < d)
 | 5 => decide (d < r + r)
 | 6 => decide (d < r + r) || (decide (r + r = d) && decide (q % 2 = 1))
 | _ => false
theorem qJ (q : Nat) : (bits .and .u64 (wd q 0) 1 == 1) = decide (q % 2 = 1) := by
 have h := kd q 0 0 (by decide)
 simp only [Int.pow_zero, Int.ediv_one, Nat.mul_zero, Nat.add_zero, Nat.pow_zero, Nat.div_one] at h
 rw [h, Bool.eq_iff_iff, beq_iff_eq, decide_eq_true_eq]
 omega
theorem nK (neg : Bool) (q d : Nat) (mode : Int) (w : World) :
  Calls prog 101 #[.bool neg, .agg #[.int .u64 (wd (q) 0), .int .u64 (wd (q) 1), .int .u64 (wd (q) 2), .int .u64 (wd (q) 3), .int .u64 (wd (q) 4)], .agg #[.int .u64 (wd (0) 0), .int .u64 (wd (0) 1), .int .u64 (wd (0) 2), .int .u64 (wd (0) 3), .int .u64 (wd (0) 4)], .agg #[.int .u64 (wd (d) 0), .int .u64 (wd (d) 1), .int .u64 (wd (d) 2), .int .u64 (wd (d) 3), .int .u64 (wd (d) 4)], .int .i64 mode] w
   fun e w' => e = .returned (.bool false) ∧ Below w.heap.size w w' := by
 have he := fun w => bP (n := 0) (Nat.pow_pos bi) w
 have hz : decide ((0 : Nat) = 0) = true := rfl
 rw [aG, aG, aG, aG, aG] at he
 rw [aG, aG, aG, aG, aG]
 go_enter func101, ntmps101
 go_wp2
 go_ret
 refine ⟨rfl, ?_⟩
 exact bl_
theorem vh (neg : Bool) (q r d : Nat) (w : World) (hq : q < B ^ 5) (hr : 2 * r < B ^ 5) (hd : d < B ^ 5) (h0 : ¬ r = 0) :
  Calls prog 101 #[.bool neg, .agg #[.int .u64 (wd (q) 0), .int .u64 (wd (q) 1), .int .u64 (wd (q) 2), .int .u64 (wd (q) 3), .int .u64 (wd (q) 4)], .agg #[.int .u64 (wd (r) 0), .int .u64 (wd (r) 1), .int .u64 (wd (r) 2), .int .u64 (wd (r) 3), .int .u64 (wd (r) 4)], .agg #[.int .u64 (wd (d) 0), .int .u64 (wd (d) 1), .int .u64 (wd (d) 2), .int .u64 (wd (d) 3), .int .u64 (wd (d) 4)], .int .i64 0] w
   fun e w' => e = .returned (.bool false) ∧ Below w.heap.size w w' := by
 have hr1 : r < B ^ 5 := by omega
 have hr2 : r + r < B ^ 5 := by omega
 have he := fun w => bP hr1 w
 have hz : decide (r = 0) = false := by simp [h0]
 clear h0 hr
 go_enter func101, ntmps101
 go_wp2_with (first | (go_at_call 102; refine (bp r r _ _ _ _ _ _ _ _ _ _ _ (IsW.self _) (IsW.self _)).mono ?_; rintro e w1 ⟨rfl, hb1⟩; obtain ⟨x, rfl⟩ := a9 hb1; clear hb1))
 go_ret
 refine ⟨rfl, ?_⟩
 exact bl_
theorem vi (neg : Bool) (q r d : Nat) (w : World) (hq : q < B ^ 5) (hr : 2 * r < B ^ 5) (hd : d < B ^ 5) (h0 : ¬ r = 0) :
  Calls prog 101 #[.bool neg, .agg #[.int .u64 (wd (q) 0), .int .u64 (wd (q) 1), .int .u64 (wd (q) 2), .int .u64 (wd (q) 3), .int .u64 (wd (q) 4)], .agg #[.int .u64 (wd (r) 0), .int .u64 (wd (r) 1), .int .u64 (wd (r) 2), .int .u64 (wd (r) 3), .int .u64 (wd (r) 4)], .agg #[.int .u64 (wd (d) 0), .int .u64 (wd (d) 1), .int .u64 (wd (d) 2), .int .u64 (wd (d) 3), .int .u64 (wd (d) 4)], .int .i64 1] w
   fun e w' => e = .returned (.bool true) ∧ Below w.heap.size w w' := by
 have hr1 : r < B ^ 5 := by omega
 have hr2 : r + r < B ^ 5 := by omega
 have he := fun w => bP hr1 w
 have hz : decide (r = 0) = false := by simp [h0]
 clear h0 hr
 go_enter func101, ntmps101
 go_wp2_with (first | (go_at_call 102; refine (bp r r _ _ _ _ _ _ _ _ _ _ _ (IsW.self _) (IsW.self _)).mono ?_; rintro e w1 ⟨rfl, hb1⟩; obtain ⟨x, rfl⟩ := a9 hb1; clear hb1))
 go_ret
 refine ⟨rfl, ?_⟩
 exact bl_
theorem vj (neg : Bool) (q r d : Nat) (w : World) (hq : q < B ^ 5) (hr : 2 * r < B ^ 5) (hd : d < B ^ 5) (h0 : ¬ r = 0) :
  Calls prog 101 #[.bool neg, .agg #[.int .u64 (wd (q) 0), .int .u64 (wd (q) 1), .int .u64 (wd (q) 2), .int .u64 (wd (q) 3), .int .u64 (wd (q) 4)], .agg #[.int .u64 (wd (r) 0), .int .u64 (wd (r) 1), .int .u64 (wd (r) 2), .int .u64 (wd (r) 3), .int .u64 (wd (r) 4)], .agg #[.int .u64 (wd (d) 0), .int .u64 (wd (d) 1), .int .u64 (wd (d) 2), .int .u64 (wd (d) 3), .int .u64 (wd (d) 4)], .int .i64 2] w
   fun e w' => e = .returned (.bool neg) ∧ Below w.heap.size w w' := by
 have hr1 : r < B ^ 5 := by omega
 have hr2 : r + r < B ^ 5 := by omega
 have he := fun w => bP hr1 w
 have hz : decide (r = 0) = false := by simp [h0]
 clear h0 hr
 go_enter func101, ntmps101
 go_wp2_with (first | (go_at_call 102; refine (bp r r _ _ _ _ _ _ _ _ _ _ _ (IsW.self _) (IsW.self _)).mono ?_; rintro e w1 ⟨rfl, hb1⟩; obtain ⟨x, rfl⟩ := a9 hb1; clear hb1))
 go_ret
 refine ⟨rfl, ?_⟩
 exact bl_
theorem vk (neg : Bool) (q r d : Nat) (w : World) (hq : q < B ^ 5) (hr : 2 * r < B ^ 5) (hd : d < B ^ 5) (h0 : ¬ r = 0) :
  Calls prog 101 #[.bool neg, .agg #[.int .u64 (wd (q) 0), .int .u64 (wd (q) 1), .int .u64 (wd (q) 2), .int .u64 (wd (q) 3), .int .u64 (wd (q) 4)], .agg #[.int .u64 (wd (r) 0), .int .u64 (wd (r) 1), .int .u64 (wd (r) 2), .int .u64 (wd (r) 3), .int .u64 (wd (r) 4)], .agg #[.int .u64 (wd (d) 0), .int .u64 (wd (d) 1), .int .u64 (wd (d) 2), .int .u64 (wd (d) 3), .int .u64 (wd (d) 4)], .int .i64 3] w
   fun e w' => e = .returned (.bool (!neg)) ∧ Below w.heap.size w w' := by
 have hr1 : r < B ^ 5 := by omega
 have hr2 : r + r < B ^ 5 := by omega
 have he := fun w => bP hr1 w
 have hz : decide (r = 0) = false := by simp [h0]
 have hnot : ∀ (x : Bool) (w : World), (Op.unary .not (.bool x)).run prog w = .ok (.bool (!x)) w := fun _ _ => rfl
 clear h0 hr
 go_enter func101, ntmps101
 go_wp2_with (first | (go_at_call 102; refine (bp r r _ _ _ _ _ _ _ _ _ _ _ (IsW.self _) (IsW.self _)).mono ?_; rintro e w1 ⟨rfl, hb1⟩; obtain ⟨x, rfl⟩ := a9 hb1; clear hb1))
 go_ret
 refine ⟨rfl, ?_⟩
 exact bl_
theorem vl (neg : Bool) (q r d : Nat) (w : World) (hq : q < B ^ 5) (hr : 2 * r < B ^ 5) (hd : d < B ^ 5) (h0 : ¬ r = 0) :
  Calls prog 101 #[.bool neg, .agg #[.int .u64 (wd (q) 0), .int .u64 (wd (q) 1), .int .u64 (wd (q) 2), .int .u64 (wd (q) 3), .int .u64 (wd (q) 4)], .agg #[.int .u64 (wd (r) 0), .int .u64 (wd (r) 1), .int .u64 (wd (r) 2), .int .u64 (wd (r) 3), .int .u64 (wd (r) 4)], .agg #[.int .u64 (wd (d) 0), .int .u64 (wd (d) 1), .int .u64 (wd (d) 2), .int .u64 (wd (d) 3), .int .u64 (wd (d) 4)], .int .i64 4] w
   fun e w' => e = .returned (.bool (!decide (r + r < d))) ∧ Below w.heap.size w w' := by
 have hr1 : r < B ^ 5 := by omega
 have hr2 : r + r < B ^ 5 := by omega
 have he := fun w => bP hr1 w
 have hz : decide (r = 0) = false := by simp [h0]
 have hnot : ∀ (x : Bool) (w : World), (Op.unary .not (.bool x)).run prog w = .ok (.bool (!x)) w := fun _ _ => rfl
 clear h0 hr
 go_enter func101, ntmps101
 go_wp2_with (first | (go_at_call 102; refine (bp r r _ _ _ _ _ _ _ _ _ _ _ (IsW.self _) (IsW.self _)).mono ?_; rintro e w1 ⟨rfl, hb1⟩; obtain ⟨x, rfl⟩ := a9 hb1; clear hb1) | (go_at_call 144; refine (bL (r + r) (d) _ _ _ _ _ _ _ _ _ _ _ (IsW.self _) (IsW.self _) hr2 hd).mono ?_; rintro e w1 ⟨rfl, hb1⟩; obtain ⟨y, rfl⟩ := a9 hb1; clear hb1))
 go_ret
 refine ⟨rfl, ?_⟩
 exact bl_
theorem vm (neg : Bool) (q r d : Nat) (w : World) (hq : q < B ^ 5) (hr : 2 * r < B ^ 5) (hd : d < B ^ 5) (h0 : ¬ r = 0) :
  Calls prog 101 #[.bool neg, .agg #[.int .u64 (wd (q) 0), .int .u64 (wd (q) 1), .int .u64 (wd (q) 2), .int .u64 (wd (q) 3), .int .u64 (wd (q) 4)], .agg #[.int .u64 (wd (r) 0), .int .u64 (wd (r) 1), .int .u64 (wd (r) 2), .int .u64 (wd (r) 3), .int .u64 (wd (r) 4)], .agg #[.int .u64 (wd (d) 0), .int .u64 (wd (d) 1), .int .u64 (wd (d) 2), .int .u64 (wd (d) 3), .int .u64 (wd (d) 4)], .int .i64 5] w
   fun e w' => e = .returned (.bool (decide (d < r + r))) ∧ Below w.heap.size w w' := by
 have hr1 : r < B ^ 5 := by omega
 have hr2 : r + r < B ^ 5 := by omega
 have he := fun w => bP hr1 w
 have hz : decide (r = 0) = false := by simp [h0]
 clear h0 hr
 go_enter func101, ntmps101
 go_wp2_with (first | (go_at_call 102; refine (bp r r _ _ _ _ _ _ _ _ _ _ _ (IsW.self _) (IsW.self _)).mono ?_; rintro e w1 ⟨rfl, hb1⟩; obtain ⟨x, rfl⟩ := a9 hb1; clear hb1) | (go_at_call 144; refine (bL (d) (r + r) _ _ _ _ _ _ _ _ _ _ _ (IsW.self _) (IsW.self _) hd hr2).mono ?_; rintro e w1 ⟨rfl, hb1⟩; obtain ⟨y, rfl⟩ := a9 hb1; clear hb1))
 go_ret
 refine ⟨rfl, ?_⟩
 exact bl_
theorem sw (neg : Bool) (q r d : Nat) (w : World) (hq : q < B ^ 5) (hr : 2 * r < B ^ 5) (hd : d < B ^ 5) (h0 : ¬ r = 0) (hc : d < r + r) :
  Calls prog 101 #[.bool neg, .agg #[.int .u64 (wd (q) 0), .int .u64 (wd (q) 1), .int .u64 (wd (q) 2), .int .u64 (wd (q) 3), .int .u64 (wd (q) 4)], .agg #[.int .u64 (wd (r) 0), .int .u64 (wd (r) 1), .int .u64 (wd (r) 2), .int .u64 (wd (r) 3), .int .u64 (wd (r) 4)], .agg #[.int .u64 (wd (d) 0), .int .u64 (wd (d) 1), .int .u64 (wd (d) 2), .int .u64 (wd (d) 3), .int .u64 (wd (d) 4)], .int .i64 6] w
   fun e w' => e = .returned (.bool true) ∧ Below w.heap.size w w' := by
 have hr1 : r < B ^ 5 := by omega
 have hr2 : r + r < B ^ 5 := by omega
 have he := fun w => bP hr1 w
 have hz : decide (r = 0) = false := by simp [h0]
 have hdc : decide (d < r + r) = true := by simp [hc]
 clear hc h0 hr
 go_enter func101, ntmps101
 go_wp2_with (first | (go_at_call 102; refine (bp r r _ _ _ _ _ _ _ _ _ _ _ (IsW.self _) (IsW.self _)).mono ?_; rintro e w1 ⟨rfl, hb1⟩; obtain ⟨x, rfl⟩ := a9 hb1; clear hb1) | (go_at_call 144; refine (bL (d) (r + r) _ _ _ _ _ _ _ _ _ _ _ (IsW.self _) (IsW.self _) hd hr2).mono ?_; rintro e w1 ⟨rfl, hb1⟩; obtain ⟨y, rfl⟩ := a9 hb1; clear hb1))
 go_ret
 refine ⟨rfl, ?_⟩
 exact bl_
theorem sx (neg : Bool) (q r d : Nat) (w : World) (hq : q < B ^ 5) (hr : 2 * r < B ^ 5) (hd : d < B ^ 5) (h0 : ¬ r = 0) (hc : ¬ d < r + r) (hc2 : ¬ r + r = d) :
  Calls prog 101 #[.bool neg, .agg #[.int .u64 (wd (q) 0), .int .u64 (wd (q) 1), .int .u64 (wd (q) 2), .int .u64 (wd (q) 3), .int .u64 (wd (q) 4)], .agg #[.int .u64 (wd (r) 0), .int .u64 (wd (r) 1), .int .u64 (wd (r) 2), .int .u64 (wd (r) 3), .int .u64 (wd (r) 4)], .agg #[.int .u64 (wd (d) 0), .int .u64 (wd (d) 1), .int .u64 (wd (d) 2), .int .u64 (wd (d) 3), .int .u64 (wd (d) 4)], .int .i64 6] w
   fun e w' => e = .returned (.bool false) ∧ Below w.heap.size w w' := by
 have hr1 : r < B ^ 5 := by omega
 have hr2 : r + r < B ^ 5 := by omega
 have he := fun w => bP hr1 w
 have hz : decide (r = 0) = false := by simp [h0]
 have hdc : decide (d < r + r) = false := by simp [hc]
 have hdc2 : decide (r + r = d) = false := by simp [hc2]
 have hee := fun w => mO hr2 hd w
 clear hc hc2 h0 hr
 go_enter func101, ntmps101
 go_wp2_with (first | (go_at_call 102; refine (bp r r _ _ _ _ _ _ _ _ _ _ _ (IsW.self _) (IsW.self _)).mono ?_; rintro e w1 ⟨rfl, hb1⟩; obtain ⟨x, rfl⟩ := a9 hb1; clear hb1) | (go_at_call 144; refine (bL (d) (r + r) _ _ _ _ _ _ _ _ _ _ _ (IsW.self _) (IsW.self _) hd hr2).mono ?_; rintro e w1 ⟨rfl, hb1⟩; obtain ⟨y, rfl⟩ := a9 hb1; clear hb1))
 go_ret
 refine ⟨rfl, ?_⟩
 exact bl_
theorem sy (neg : Bool) (q r d : Nat) (w : World) (hq : q < B ^ 5) (hr : 2 * r < B ^ 5) (hd : d < B ^ 5) (h0 : ¬ r = 0) (hc : ¬ d < r + r) (hc2 : r + r = d) :
  Calls prog 101 #[.bool neg, .agg #[.int .u64 (wd (q) 0), .int .u64 (wd (q) 1), .int .u64 (wd (q) 2), .int .u64 (wd (q) 3), .int .u64 (wd (q) 4)], .agg #[.int .u64 (wd (r) 0), .int .u64 (wd (r) 1), .int .u64 (wd (r) 2), .int .u64 (wd (r) 3), .int .u64 (wd (r) 4)], .agg #[.int .u64 (wd (d) 0), .int .u64 (wd (d) 1), .int .u64 (wd (d) 2), .int .u64 (wd (d) 3), .int .u64 (wd (d) 4)], .int .i64 6] w
   fun e w' => e = .returned (.bool (decide (q % 2 = 1))) ∧ Below w.heap.size w w' := by
 have hr1 : r < B ^ 5 := by omega
 have hr2 : r + r < B ^ 5 := by omega
 have he := fun w => bP hr1 w
 have hz : decide (r = 0) = false := by simp [h0]
 have hdc : decide (d < r + r) = false := by simp [hc]
 have hdc2 : decide (r + r = d) = true := by simp [hc2]
 have hee := fun w => mO hr2 hd w
 have hodd := qJ q
 clear hc hc2 h0 hr
 go_enter func101, ntmps101
 go_wp2_with (first | (go_at_call 102; refine (bp r r _ _ _ _ _ _ _ _ _ _ _ (IsW.self _) (IsW.self _)).mono ?_; rintro e w1 ⟨rfl, hb1⟩; obtain ⟨x, rfl⟩ := a9 hb1; clear hb1) | (go_at_call 144; refine (bL (d) (r + r) _ _ _ _ _ _ _ _ _ _ _ (IsW.self _) (IsW.self _) hd hr2).mono ?_; rintro e w1 ⟨rfl, hb1⟩; obtain ⟨y, rfl⟩ := a9 hb1; clear hb1))
 go_ret
 refine ⟨rfl, ?_⟩
 exact bl_
theorem fk (neg : Bool) (q r d mode : Nat) (a0 a1 a2 a3 a4 b0 b1 b2 b3 b4 c0 c1 c2 c3 c4 : Int) (w : World) (ha : IsW q a0 a1 a2 a3 a4) (hb : IsW r b0 b1 b2 b3 b4) (hc : IsW d c0 c1 c2 c3 c4) (hq : q < B ^ 5) (hr : 2 * r < B ^ 5) (hd : d < B ^ 5) (hm : mode ≤ 6) :
  Calls prog 101 #[.bool neg, .agg #[.int .u64 a0, .int .u64 a1, .int .u64 a2, .int .u64 a3, .int .u64 a4], .agg #[.int .u64 b0, .int .u64 b1, .int .u64 b2, .int .u64 b3, .int .u64 b4], .agg #[.int .u64 c0, .int .u64 c1, .int .u64 c2, .int .u64 c3, .int .u64 c4], .int .i64 mode] w
   fun e w' => e = .returned (.bool (away neg q r d mode)) ∧ Below w.heap.size w w' := by
 obtain ⟨rfl, rfl, rfl, rfl, rfl⟩ := ha
 obtain ⟨rfl, rfl, rfl, rfl, rfl⟩ := hb
 obtain ⟨rfl, rfl, rfl, rfl, rfl⟩ := hc
 by_cases h0 : r = 0
 ·subst h0; exact nK neg q d mode w
 ·unfold away
  rw [if_neg h0]
  match mode, hm with
  | 0, _ => exact vh neg q r d w hq hr hd h0
  | 1, _ => exact vi neg q r d w hq hr hd h0
  | 2, _ => exact vj neg q r d w hq hr hd h0
  | 3, _ => exact vk neg q r d w hq hr hd h0
  | 4, _ => exact vl neg q r d w hq hr hd h0
  | 5, _ => exact vm neg q r d w hq hr hd h0
  | 6, _ =>
   by_cases h1 : d < r + r
   ·simp only [h1, decide_true, Bool.true_or]
    exact sw neg q r d w hq hr hd h0 h1
   ·by_cases h2 : r + r = d
    ·rw [show (decide (d < r + r) || (decide (r + r = d) && decide (q % 2 = 1))) = decide (q % 2 = 1) by rw [decide_eq_false h1, decide_eq_true h2]; rfl]
     exact sy neg q r d w hq hr hd h0 h1 h2
    ·simp only [h1, h2, decide_false, Bool.false_or, Bool.false_and]
     exact sx neg q r d w hq hr hd h0 h1 h2
end Go.Proofs.YtjkiplndbcmmbaaGreatDoor
namespace Go.Proofs.YtjkiplndbcmmbaaGreatDoor
open Tryz
open Go.RowKit
attribute [local go_sem] ap ai ar af ae ag aD av ax ay aN aO aP aQ aR fp
def rnum (n : Nat) (shift : Int) : Nat := n * 10 ^ shift.toNat
def rden (d : Nat) (shift : Int) : Nat := d * 10 ^ (-shift).toNat
def rquo (neg : Bool) (n d : Nat) (shift : Int) (mode : Nat) : Nat :=
 rnum n shift / rden d shift + (if away neg (rnum n shift / rden d shift) (rnum n shift % rden d shift) (rden d shift) mode then 1 else 0)
theorem eE : IsW 1 1 0 0 0 0 := by
 have h := fun i (hi : 0 < i) => fK 1 i (by decide) hi
 exact ⟨by rw [mA 1 (by decide)]; rfl, by rw [h 1 (by decide)], by rw [h 2 (by decide)], by rw [h 3 (by decide)], by rw [h 4 (by decide)]⟩
theorem dH (neg : Bool) (n d mode : Nat) (shift : Int) (w : World) (hm : mode ≤ 6) (hn : rnum n shift < B ^ 5) (hd : 0 < rden d shift) (hd5 : 2 * rden d shift ≤ B ^ 5) :
  ∃ q r : Nat, q = rnum n shift / rden d shift ∧ r = rnum n shift % rden d shift ∧ q < B ^ 5 ∧ 2 * r < B ^ 5 ∧ rden d shift < B ^ 5 := by
 refine ⟨_, _, rfl, rfl, Nat.lt_of_le_of_lt (Nat.div_le_self _ _) hn, ?_, by omega⟩
 have := Nat.mod_lt (rnum n shift) hd
 omega
theorem rb (neg : Bool) (n d mode : Nat) (b0 b1 b2 b3 b4 shift : Int) (w : World) (hdw : IsW d b0 b1 b2 b3 b4) (hm : mode ≤ 6) (hn : rnum n shift < B ^ 5) (hd : 0 < rden d shift) (hd5 : 2 * rden d shift ≤ B ^ 5) (hs : shift < 0) (hs1 : -1000 ≤ shift) (hs2 : shift ≤ 1000)
  (hw : away neg (rnum n shift / rden d shift) (rnum n shift % rden d shift) (rden d shift) mode = false) :
  Calls prog 65 #[.agg #[.bool neg, .int .u64 (wd (n) 0), .int .u64 (wd (n) 1), .int .u64 (wd (n) 2), .int .u64 (wd (n) 3), .int .u64 (wd (n) 4)], .agg #[.int .u64 b0, .int .u64 b1, .int .u64 b2, .int .u64 b3, .int .u64 b4], .int .i64 shift, .int .i64 mode] w
   fun e w' => e = .returned (.agg #[.bool neg, .int .u64 (wd (rquo neg n d shift mode) 0), .int .u64 (wd (rquo neg n d shift mode) 1), .int .u64 (wd (rquo neg n d shift mode) 2), .int .u64 (wd (rquo neg n d shift mode) 3), .int .u64 (wd (rquo neg n d shift mode) 4)]) ∧ Below w.heap.size w w' := by
 obtain ⟨q, r, hq, hr, q5, r5, d5⟩ := dH neg n d mode shift w hm hn hd hd5
 obtain ⟨u, hu⟩ : ∃ u, u = (-shift).toNat := ⟨_, rfl⟩
 have hu3 : u ≤ 1000 := by omega
 have eu : -shift = (u : Int) := by omega
 have hfin : rquo neg n d shift mode = q := by unfold rquo; rw [hw, ← hq]; simp
 rw [hfin]
 rw [← hq, ← hr] at hw
 have HD : Hid (∀ w : World, Calls prog 100 #[.agg #[.int .u64 (wd (n) 0), .int .u64 (wd (n) 1), .int .u64 (wd (n) 2), .int .u64 (wd (n) 3), .int .u64 (wd (n) 4)], .agg #[.int .u64 (wd (d * 10 ^ u) 0), .int .u64 (wd (d * 10 ^ u) 1), .int .u64 (wd (d * 10 ^ u) 2), .int .u64 (wd (d * 10 ^ u) 3), .int .u64 (wd (d * 10 ^ u) 4)]] w fun e w' => e = .returned (.tuple #[.agg #[.int .u64 (wd (q) 0), .int .u64 (wd (q) 1), .int .u64 (wd (q) 2), .int .u64 (wd (q) 3), .int .u64 (wd (q) 4)], .agg #[.int .u64 (wd (r) 0), .int .u64 (wd (r) 1), .int .u64 (wd (r) 2), .int .u64 (wd (r) 3), .int .u64 (wd (r) 4)]]) ∧ Below w.heap.size w w') := by
  intro w
  rw [hq, hr]
  exact cO (rnum n shift) (rden d shift) _ _ _ _ _ _ _ _ _ _ w (by unfold rnum; rw [show shift.toNat = 0 by omega, Nat.pow_zero, Nat.mul_one]; exact IsW.self _) (by unfold rden; rw [← hu]; exact IsW.self _) hn hd hd5
 have HA : Hid (∀ w : World, Calls prog 101 #[.bool neg, .agg #[.int .u64 (wd (q) 0), .int .u64 (wd (q) 1), .int .u64 (wd (q) 2), .int .u64 (wd (q) 3), .int .u64 (wd (q) 4)], .agg #[.int .u64 (wd (r) 0), .int .u64 (wd (r) 1), .int .u64 (wd (r) 2), .int .u64 (wd (r) 3), .int .u64 (wd (r) 4)], .agg #[.int .u64 (wd (d * 10 ^ u) 0), .int .u64 (wd (d * 10 ^ u) 1), .int .u64 (wd (d * 10 ^ u) 2), .int .u64 (wd (d * 10 ^ u) 3), .int .u64 (wd (d * 10 ^ u) 4)], .int .i64 mode] w fun e w' => e = .returned (.bool false) ∧ Below w.heap.size w w') := by
  intro w
  rw [← hw]
  exact fk neg q r (rden d shift) mode _ _ _ _ _ _ _ _ _ _ _ _ _ _ _ w (IsW.self _) (IsW.self _) (by unfold rden; rw [← hu]; exact IsW.self _) q5 r5 d5 hm
 clear hw hfin hq hr hn hd hd5 hu
 go_enter func65, ntmps65
 go_wp2_with (first | (go_at_call 99; refine (fI d u _ _ _ _ _ _ hdw hu3).mono ?_; rintro e w1 ⟨rfl, hb1⟩; obtain ⟨x, rfl⟩ := a9 hb1; clear hb1) | (go_at_call 100; refine (HD.out _).mono ?_; rintro e w1 ⟨rfl, hb1⟩; obtain ⟨y, rfl⟩ := a9 hb1; clear hb1) | (go_at_call 101; refine (HA.out _).mono ?_; rintro e w1 ⟨rfl, hb1⟩; obtain ⟨z, rfl⟩ := a9 hb1; clear hb1))
 refine bodyPost_ret (v := .agg _) (by simp [results, results65, go_sem]) rfl ⟨rfl, ?_⟩
 exact bl_
theorem re (neg : Bool) (n d mode : Nat) (b0 b1 b2 b3 b4 shift : Int) (w : World) (hdw : IsW d b0 b1 b2 b3 b4) (hm : mode ≤ 6) (hn : rnum n shift < B ^ 5) (hd : 0 < rden d shift) (hd5 : 2 * rden d shift ≤ B ^ 5) (hs : shift < 0) (hs1 : -1000 ≤ shift) (hs2 : shift ≤ 1000)
  (hw : away neg (rnum n shift / rden d shift) (rnum n shift % rden d shift) (rden d shift) mode = true) :
  Calls prog 65 #[.agg #[.bool neg, .int .u64 (wd (n) 0), .int .u64 (wd (n) 1), .int .u64 (wd (n) 2), .int .u64 (wd (n) 3), .int .u64 (wd (n) 4)], .agg #[.int .u64 b0, .int .u64 b1, .int .u64 b2, .int .u64 b3, .int .u64 b4], .int .i64 shift, .int .i64 mode] w
   fun e w' => e = .returned (.agg #[.bool neg, .int .u64 (wd (rquo neg n d shift mode) 0), .int .u64 (wd (rquo neg n d shift mode) 1), .int .u64 (wd (rquo neg n d shift mode) 2), .int .u64 (wd (rquo neg n d shift mode) 3), .int .u64 (wd (rquo neg n d shift mode) 4)]) ∧ Below w.heap.size w w' := by
 obtain ⟨q, r, hq, hr, q5, r5, d5⟩ := dH neg n d mode shift w hm hn hd hd5
 obtain ⟨u, hu⟩ : ∃ u, u = (-shift).toNat := ⟨_, rfl⟩
 have hu3 : u ≤ 1000 := by omega
 have eu : -shift = (u : Int) := by omega
 have hfin : rquo neg n d shift mode = q + 1 := by unfold rquo; rw [hw, ← hq]; simp
 rw [hfin]
 rw [← hq, ← hr] at hw
 have HD : Hid (∀ w : World, Calls prog 100 #[.agg #[.int .u64 (wd (n) 0), .int .u64 (wd (n) 1), .int .u64 (wd (n) 2), .int .u64 (wd (n) 3), .int .u64 (wd (n) 4)], .agg #[.int .u64 (wd (d * 10 ^ u) 0), .int .u64 (wd (d * 10 ^ u) 1), .int .u64 (wd (d * 10 ^ u) 2), .int .u64 (wd (d * 10 ^ u) 3), .int .u64 (wd (d * 10 ^ u) 4)]] w fun e w' => e = .returned (.tuple #[.agg #[.int .u64 (wd (q) 0), .int .u64 (wd (q) 1), .int .u64 (wd (q) 2), .int .u64 (wd (q) 3), .int .u64 (wd (q) 4)], .agg #[.int .u64 (wd (r) 0), .int .u64 (wd (r) 1), .int .u64 (wd (r) 2), .int .u64 (wd (r) 3), .int .u64 (wd (r) 4)]]) ∧ Below w.heap.size w w') := by
  intro w
  rw [hq, hr]
  exact cO (rnum n shift) (rden d shift) _ _ _ _ _ _ _ _ _ _ w (by unfold rnum; rw [show shift.toNat = 0 by omega, Nat.pow_zero, Nat.mul_one]; exact IsW.self _) (by unfold rden; rw [← hu]; exact IsW.self _) hn hd hd5
 have HA : Hid (∀ w : World, Calls prog 101 #[.bool neg, .agg #[.int .u64 (wd (q) 0), .int .u64 (wd (q) 1), .int .u64 (wd (q) 2), .int .u64 (wd (q) 3), .int .u64 (wd (q) 4)], .agg #[.int .u64 (wd (r) 0), .int .u64 (wd (r) 1), .int .u64 (wd (r) 2), .int .u64 (wd (r) 3), .int .u64 (wd (r) 4)], .agg #[.int .u64 (wd (d * 10 ^ u) 0), .int .u64 (wd (d * 10 ^ u) 1), .int .u64 (wd (d * 10 ^ u) 2), .int .u64 (wd (d * 10 ^ u) 3), .int .u64 (wd (d * 10 ^ u) 4)], .int .i64 mode] w fun e w' => e = .returned (.bool true) ∧ Below w.heap.size w w') := by
  intro w
  rw [← hw]
  exact fk neg q r (rden d shift) mode _ _ _ _ _ _ _ _ _ _ _ _ _ _ _ w (IsW.self _) (IsW.self _) (by unfold rden; rw [← hu]; exact IsW.self _) q5 r5 d5 hm
 clear hw hfin hq hr hn hd hd5 hu
 go_enter func65, ntmps65
 go_wp2_with (first | (go_at_call 99; refine (fI d u _ _ _ _ _ _ hdw hu3).mono ?_; rintro e w1 ⟨rfl, hb1⟩; obtain ⟨x, rfl⟩ := a9 hb1; clear hb1) | (go_at_call 100; refine (HD.out _).mono ?_; rintro e w1 ⟨rfl, hb1⟩; obtain ⟨y, rfl⟩ := a9 hb1; clear hb1) | (go_at_call 101; refine (HA.out _).mono ?_; rintro e w1 ⟨rfl, hb1⟩; obtain ⟨z, rfl⟩ := a9 hb1; clear hb1) | (go_at_call 102; refine (bp q 1 _ _ _ _ _ _ _ _ _ _ _ (IsW.self _) eE).mono ?_; rintro e w1 ⟨rfl, hb1⟩; obtain ⟨v, rfl⟩ := a9 hb1; clear hb1))
 refine bodyPost_ret (v := .agg _) (by simp [results, results65, go_sem]) rfl ⟨rfl, ?_⟩
 exact bl_
theorem rf (neg : Bool) (n d mode : Nat) (b0 b1 b2 b3 b4 shift : Int) (w : World) (hdw : IsW d b0 b1 b2 b3 b4) (hm : mode ≤ 6) (hn : rnum n shift < B ^ 5) (hd : 0 < rden d shift) (hd5 : 2 * rden d shift ≤ B ^ 5) (hs : 0 ≤ shift) (hs1 : -1000 ≤ shift) (hs2 : shift ≤ 1000)
  (hw : away neg (rnum n shift / rden d shift) (rnum n shift % rden d shift) (rden d shift) mode = false) :
  Calls prog 65 #[.agg #[.bool neg, .int .u64 (wd (n) 0), .int .u64 (wd (n) 1), .int .u64 (wd (n) 2), .int .u64 (wd (n) 3), .int .u64 (wd (n) 4)], .agg #[.int .u64 b0, .int .u64 b1, .int .u64 b2, .int .u64 b3, .int .u64 b4], .int .i64 shift, .int .i64 mode] w
   fun e w' => e = .returned (.agg #[.bool neg, .int .u64 (wd (rquo neg n d shift mode) 0), .int .u64 (wd (rquo neg n d shift mode) 1), .int .u64 (wd (rquo neg n d shift mode) 2), .int .u64 (wd (rquo neg n d shift mode) 3), .int .u64 (wd (rquo neg n d shift mode) 4)]) ∧ Below w.heap.size w w' := by
 obtain ⟨q, r, hq, hr, q5, r5, d5⟩ := dH neg n d mode shift w hm hn hd hd5
 obtain ⟨u, hu⟩ : ∃ u, u = shift.toNat := ⟨_, rfl⟩
 have hu3 : u ≤ 1000 := by omega
 have eu : shift = (u : Int) := by omega
 have hfin : rquo neg n d shift mode = q := by unfold rquo; rw [hw, ← hq]; simp
 rw [hfin]
 rw [← hq, ← hr] at hw
 have HD : Hid (∀ w : World, Calls prog 100 #[.agg #[.int .u64 (wd (n * 10 ^ u) 0), .int .u64 (wd (n * 10 ^ u) 1), .int .u64 (wd (n * 10 ^ u) 2), .int .u64 (wd (n * 10 ^ u) 3), .int .u64 (wd (n * 10 ^ u) 4)], .agg #[.int .u64 b0, .int .u64 b1, .int .u64 b2, .int .u64 b3, .int .u64 b4]] w fun e w' => e = .returned (.tuple #[.agg #[.int .u64 (wd (q) 0), .int .u64 (wd (q) 1), .int .u64 (wd (q) 2), .int .u64 (wd (q) 3), .int .u64 (wd (q) 4)], .agg #[.int .u64 (wd (r) 0), .int .u64 (wd (r) 1), .int .u64 (wd (r) 2), .int .u64 (wd (r) 3), .int .u64 (wd (r) 4)]]) ∧ Below w.heap.size w w') := by
  intro w
  rw [hq, hr]
  exact cO (rnum n shift) (rden d shift) _ _ _ _ _ _ _ _ _ _ w (by unfold rnum; rw [← hu]; exact IsW.self _) (by unfold rden; rw [show (-shift).toNat = 0 by omega, Nat.pow_zero, Nat.mul_one]; exact hdw) hn hd hd5
 have HA : Hid (∀ w : World, Calls prog 101 #[.bool neg, .agg #[.int .u64 (wd (q) 0), .int .u64 (wd (q) 1), .int .u64 (wd (q) 2), .int .u64 (wd (q) 3), .int .u64 (wd (q) 4)], .agg #[.int .u64 (wd (r) 0), .int .u64 (wd (r) 1), .int .u64 (wd (r) 2), .int .u64 (wd (r) 3), .int .u64 (wd (r) 4)], .agg #[.int .u64 b0, .int .u64 b1, .int .u64 b2, .int .u64 b3, .int .u64 b4], .int .i64 mode] w fun e w' => e = .returned (.bool false) ∧ Below w.heap.size w w') := by
  intro w
  rw [← hw]
  exact fk neg q r (rden d shift) mode _ _ _ _ _ _ _ _ _ _ _ _ _ _ _ w (IsW.self _) (IsW.self _) (by unfold rden; rw [show (-shift).toNat = 0 by omega, Nat.pow_zero, Nat.mul_one]; exact hdw) q5 r5 d5 hm
 clear hw hfin hq hr hn hd hd5 hu
 go_enter func65, ntmps65
 go_wp2_with (first | (go_at_call 99; refine (fI n u _ _ _ _ _ _ (IsW.self _) hu3).mono ?_; rintro e w1 ⟨rfl, hb1⟩; obtain ⟨x, rfl⟩ := a9 hb1; clear hb1) | (go_at_call 100; refine (HD.out _).mono ?_; rintro e w1 ⟨rfl, hb1⟩; obtain ⟨y, rfl⟩ := a9 hb1; clear hb1) | (go_at_call 101; refine (HA.out _).mono ?_; rintro e w1 ⟨rfl, hb1⟩; obtain ⟨z, rfl⟩ := a9 hb1; clear hb1))
 refine bodyPost_ret (v := .agg _) (by simp [results, results65, go_sem]) rfl ⟨rfl, ?_⟩
 exact bl_
theorem rh (neg : Bool) (n d mode : Nat) (b0 b1 b2 b3 b4 shift : Int) (w : World) (hdw : IsW d b0 b1 b2 b3 b4) (hm : mode ≤ 6) (hn : rnum n shift < B ^ 5) (hd : 0 < rden d shift) (hd5 : 2 * rden d shift ≤ B ^ 5) (hs : 0 ≤ shift) (hs1 : -1000 ≤ shift) (hs2 : shift ≤ 1000)
  (hw : away neg (rnum n shift / rden d shift) (rnum n shift % rden d shift) (rden d shift) mode = true) :
  Calls prog 65 #[.agg #[.bool neg, .int .u64 (wd (n) 0), .int .u64 (wd (n) 1), .int .u64 (wd (n) 2), .int .u64 (wd (n) 3), .int .u64 (wd (n) 4)], .agg #[.int .u64 b0, .int .u64 b1, .int .u64 b2, .int .u64 b3, .int .u64 b4], .int .i64 shift, .int .i64 mode] w
   fun e w' => e = .returned (.agg #[.bool neg, .int .u64 (wd (rquo neg n d shift mode) 0), .int .u64 (wd (rquo neg n d shift mode) 1), .int .u64 (wd (rquo neg n d shift mode) 2), .int .u64 (wd (rquo neg n d shift mode) 3), .int .u64 (wd (rquo neg n d shift mode) 4)]) ∧ Below w.heap.size w w' := by
 obtain ⟨q, r, hq, hr, q5, r5, d5⟩ := dH neg n d mode shift w hm hn hd hd5
 obtain ⟨u, hu⟩ : ∃ u, u = shift.toNat := ⟨_, rfl⟩
 have hu3 : u ≤ 1000 := by omega
 have eu : shift = (u : Int) := by omega
 have hfin : rquo neg n d shift mode = q + 1 := by unfold rquo; rw [hw, ← hq]; simp
 rw [hfin]
 rw [← hq, ← hr] at hw
 have HD : Hid (∀ w : World, Calls prog 100 #[.agg #[.int .u64 (wd (n * 10 ^ u) 0), .int .u64 (wd (n * 10 ^ u) 1), .int .u64 (wd (n * 10 ^ u) 2), .int .u64 (wd (n * 10 ^ u) 3), .int .u64 (wd (n * 10 ^ u) 4)], .agg #[.int .u64 b0, .int .u64 b1, .int .u64 b2, .int .u64 b3, .int .u64 b4]] w fun e w' => e = .returned (.tuple #[.agg #[.int .u64 (wd (q) 0), .int .u64 (wd (q) 1), .int .u64 (wd (q) 2), .int .u64 (wd (q) 3), .int .u64 (wd (q) 4)], .agg #[.int .u64 (wd (r) 0), .int .u64 (wd (r) 1), .int .u64 (wd (r) 2), .int .u64 (wd (r) 3), .int .u64 (wd (r) 4)]]) ∧ Below w.heap.size w w') := by
  intro w
  rw [hq, hr]
  exact cO (rnum n shift) (rden d shift) _ _ _ _ _ _ _ _ _ _ w (by unfold rnum; rw [← hu]; exact IsW.self _) (by unfold rden; rw [show (-shift).toNat = 0 by omega, Nat.pow_zero, Nat.mul_one]; exact hdw) hn hd hd5
 have HA : Hid (∀ w : World, Calls prog 101 #[.bool neg, .agg #[.int .u64 (wd (q) 0), .int .u64 (wd (q) 1), .int .u64 (wd (q) 2), .int .u64 (wd (q) 3), .int .u64 (wd (q) 4)], .agg #[.int .u64 (wd (r) 0), .int .u64 (wd (r) 1), .int .u64 (wd (r) 2), .int .u64 (wd (r) 3), .int .u64 (wd (r) 4)], .agg #[.int .u64 b0, .int .u64 b1, .int .u64 b2, .int .u64 b3, .int .u64 b4], .int .i64 mode] w fun e w' => e = .returned (.bool true) ∧ Below w.heap.size w w') := by
  intro w
  rw [← hw]
  exact fk neg q r (rden d shift) mode _ _ _ _ _ _ _ _ _ _ _ _ _ _ _ w (IsW.self _) (IsW.self _) (by unfold rden; rw [show (-shift).toNat = 0 by omega, Nat.pow_zero, Nat.mul_one]; exact hdw) q5 r5 d5 hm
 clear hw hfin hq hr hn hd hd5 hu
 go_enter func65, ntmps65
 go_wp2_with (first | (go_at_call 99; refine (fI n u _ _ _ _ _ _ (IsW.self _) hu3).mono ?_; rintro e w1 ⟨rfl, hb1⟩; obtain ⟨x, rfl⟩ := a9 hb1; clear hb1) | (go_at_call 100; refine (HD.out _).mono ?_; rintro e w1 ⟨rfl, hb1⟩; obtain ⟨y, rfl⟩ := a9 hb1; clear hb1) | (go_at_call 101; refine (HA.out _).mono ?_; rintro e w1 ⟨rfl, hb1⟩; obtain ⟨z, rfl⟩ := a9 hb1; clear hb1) | (go_at_call 102; refine (bp q 1 _ _ _ _ _ _ _ _ _ _ _ (IsW.self _) eE).mono ?_; rintro e w1 ⟨rfl, hb1⟩; obtain ⟨v, rfl⟩ := a9 hb1; clear hb1))
 refine bodyPost_ret (v := .agg _) (by simp [results, results65, go_sem]) rfl ⟨rfl, ?_⟩
 exact bl_
theorem fV (neg : Bool) (n d mode : Nat) (b0 b1 b2 b3 b4 shift : Int) (w : World) (hdw : IsW d b0 b1 b2 b3 b4) (hm : mode ≤ 6) (hn : rnum n shift < B ^ 5) (hd : 0 < rden d shift) (hd5 : 2 * rden d shift ≤ B ^ 5) (hs1 : -1000 ≤ shift) (hs2 : shift ≤ 1000) :
  Calls prog 65 #[.agg #[.bool neg, .int .u64 (wd (n) 0), .int .u64 (wd (n) 1), .int .u64 (wd (n) 2), .int .u64 (wd (n) 3), .int .u64 (wd (n) 4)], .agg #[.int .u64 b0, .int .u64 b1, .int .u64 b2, .int .u64 b3, .int .u64 b4], .int .i64 shift, .int .i64 mode] w
   fun e w' => e = .returned (.agg #[.bool neg, .int .u64 (wd (rquo neg n d shift mode) 0), .int .u64 (wd (rquo neg n d shift mode) 1), .int .u64 (wd (rquo neg n d shift mode) 2), .int .u64 (wd (rquo neg n d shift mode) 3), .int .u64 (wd (rquo neg n d shift mode) 4)]) ∧ Below w.heap.size w w' := by
 rcases Int.lt_or_le shift 0 with c | c <;> cases hw : away neg (rnum n shift / rden d shift) (rnum n shift % rden d shift) (rden d shift) mode
 ·exact rb neg n d mode _ _ _ _ _ shift w hdw hm hn hd hd5 c hs1 hs2 hw
 ·exact re neg n d mode _ _ _ _ _ shift w hdw hm hn hd hd5 c hs1 hs2 hw
 ·exact rf neg n d mode _ _ _ _ _ shift w hdw hm hn hd hd5 c hs1 hs2 hw
 ·exact rh neg n d mode _ _ _ _ _ shift w hdw hm hn hd hd5 c hs1 hs2 hw
end Go.Proofs.YtjkiplndbcmmbaaGreatDoor
namespace Go.Proofs.YtjkiplndbcmmbaaGreatDoor
open Tryz
open Go.RowKit
attribute [local go_sem] ap ai ar af ae ag aD av ax ay aN aO aP aQ aR
theorem bE (s : Int) (w : World) (h0 : 0 ≤ s) (h1 : s ≤ 18) :
  Calls prog 98 #[.int .i64 s] w fun e w' => e = .returned (.bool true) ∧ w' = w := by
 go_enter func98, ntmps98
 go_wp2
 go_ret
 exact ⟨rfl, rfl⟩
theorem gW (s : Int) (w : World) (h : s < 0 ∨ 18 < s) :
  Calls prog 98 #[.int .i64 s] w fun e w' => e = .returned (.bool false) ∧ w' = w := by
 rcases h with h | h
 ·have hd : decide (0 ≤ s) = false := decide_eq_false (by omega)
  go_enter func98, ntmps98
  go_wp2
  go_ret
  exact ⟨rfl, rfl⟩
 ·have h0 : 0 ≤ s := by omega
  have hd : decide (s ≤ 18) = false := decide_eq_false (by omega)
  go_enter func98, ntmps98
  go_wp2
  go_ret
  exact ⟨rfl, rfl⟩
theorem cU (s : Int) (mode : Nat) (w : World) (h0 : 0 ≤ s) (h1 : s ≤ 18) (hm : (mode : Int) ≤ 6) :
  Calls prog 63 #[.int .i64 s, .int .i64 mode] w fun e w' => e = .returned (.int .i64 0) ∧ w' = w := by
 have hd : decide ((mode : Int) < 0) = false := decide_eq_false (by omega)
 have hd2 : decide ((6 : Int) < (mode : Int)) = false := decide_eq_false (by omega)
 go_enter func63, ntmps63
 go_wp2_with (go_at_call 98; refine (bE _ _ h0 h1).mono ?_; rintro e w' ⟨rfl, rfl⟩)
 go_ret
 exact ⟨rfl, rfl⟩
theorem uh (s mode : Int) (w : World) (h : (s < 0 ∨ 18 < s) ∨ mode < 0 ∨ 6 < mode) :
  Calls prog 63 #[.int .i64 s, .int .i64 mode] w fun e w' => e = .returned (.int .i64 1) ∧ w' = w := by
 by_cases hs : s < 0 ∨ 18 < s
 ·go_enter func63, ntmps63
  go_wp2_with (go_at_call 98; refine (gW _ _ hs).mono ?_; rintro e w' ⟨rfl, rfl⟩)
  go_ret
  exact ⟨rfl, rfl⟩
 ·have h0 : 0 ≤ s := by omega
  have h1 : s ≤ 18 := by omega
  by_cases hm : mode < 0
  ·clear h hs
   go_enter func63, ntmps63
   go_wp2_with (go_at_call 98; refine (bE _ _ h0 h1).mono ?_; rintro e w' ⟨rfl, rfl⟩)
   go_ret
   exact ⟨rfl, rfl⟩
  ·have hm2 : 6 < mode := by omega
   have hd : decide (mode < 0) = false := decide_eq_false (by omega)
   clear h hs hm
   go_enter func63, ntmps63
   go_wp2_with (go_at_call 98; refine (bE _ _ h0 h1).mono ?_; rintro e w' ⟨rfl, rfl⟩)
   go_ret
   exact ⟨rfl, rfl⟩
theorem qt {c : Int} (hc : InR c) : (dhi c == -9223372036854775808) = false ∨ ((dhi c == -9223372036854775808) = true ∧ (dlo c == 0) = false) := by
 have h1 := hc.lo
 rw [bN] at h1
 by_cases h : dhi c = -9223372036854775808
 ·refine Or.inr ⟨by rw [h]; rfl, beq_eq_false_iff_ne.2 fun h2 => ?_⟩
  unfold dhi at h; unfold dlo at h2; omega
 ·exact Or.inl (beq_eq_false_iff_ne.2 h)
theorem cI (c h l : Int) (s : Nat) (w : World) (hd : IsD c h l) (hc : InR c) (hs : (s : Int) ≤ 18) :
  Calls prog 64 #[.agg #[.int .i64 h, .int .u64 l, .int .i64 s]] w fun e w' => e = .returned (.int .i64 0) ∧ Below w.heap.size w w' := by
 obtain ⟨rfl, rfl⟩ := hd
 rcases qt hc with e1 | ⟨e1, e2⟩
 ·clear hc
  go_enter func64, ntmps64
  go_wp2_with (go_at_call 98; refine (bE _ _ (by omega) hs).mono ?_; rintro e w' ⟨rfl, rfl⟩)
  go_ret
  refine ⟨rfl, ?_⟩
  exact bl_
 ·clear hc
  go_enter func64, ntmps64
  go_wp2_with (go_at_call 98; refine (bE _ _ (by omega) hs).mono ?_; rintro e w' ⟨rfl, rfl⟩)
  go_ret
  refine ⟨rfl, ?_⟩
  exact bl_
theorem nS (h l s : Int) (w : World) (hb : (s < 0 ∨ 18 < s) ∨ (h = -9223372036854775808 ∧ l = 0)) :
  Calls prog 64 #[.agg #[.int .i64 h, .int .u64 l, .int .i64 s]] w fun e w' => e = .returned (.int .i64 3) ∧ Below w.heap.size w w' := by
 by_cases hs : s < 0 ∨ 18 < s
 ·clear hb
  go_enter func64, ntmps64
  go_wp2_with (go_at_call 98; refine (gW _ _ hs).mono ?_; rintro e w' ⟨rfl, rfl⟩)
  go_ret
  refine ⟨rfl, ?_⟩
  exact bl_
 ·obtain ⟨rfl, rfl⟩ := hb.resolve_left hs
  have h0 : 0 ≤ s := by omega
  have h1 : s ≤ 18 := by omega
  clear hb hs
  go_enter func64, ntmps64
  go_wp2_with (go_at_call 98; refine (bE _ _ h0 h1).mono ?_; rintro e w' ⟨rfl, rfl⟩)
  go_ret
  refine ⟨rfl, ?_⟩
  exact bl_
theorem dZ (ca ha la cb hb lb : Int) (sa sb : Nat) (w : World) (da : IsD ca ha la) (db : IsD cb hb lb) (ia : InR ca) (ib : InR cb) (hsa : (sa : Int) ≤ 18) (hsb : (sb : Int) ≤ 18) :
  Calls prog 57 #[.agg #[.int .i64 ha, .int .u64 la, .int .i64 sa], .agg #[.int .i64 hb, .int .u64 lb, .int .i64 sb]] w fun e w' => e = .returned (.int .i64 0) ∧ Below w.heap.size w w' := by
 go_enter func57, ntmps57
 go_wp2_with fail
 refine (cI ca _ _ sa _ da ia hsa).mono ?_
 rintro e w1 ⟨rfl, hb1⟩
 obtain ⟨x, rfl⟩ := a9 hb1
 clear hb1
 go_wp2_with fail
 refine (cI cb _ _ sb _ db ib hsb).mono ?_
 rintro e w1 ⟨rfl, hb1⟩
 obtain ⟨y, rfl⟩ := a9 hb1
 clear hb1
 go_wp2
 go_ret
 refine ⟨rfl, ?_⟩
 exact bl_
end Go.Proofs.YtjkiplndbcmmbaaGreatDoor
namespace Go.Proofs.YtjkiplndbcmmbaaGreatDoor
open Tryz
open Go.RowKit
attribute [local go_sem] ap ai ar af ae ag aD av ax ay aN aO aP aQ aR fp
theorem InR.neg {c : Int} (h : InR c) : InR (-c) := ⟨by have := h.hi; omega, by have := h.lo; omega⟩
theorem mx (ca : Int) (sa : Nat) (cb : Int) (sb : Nat) (ia : InR ca) (ib : InR cb) (hsa : (sa : Int) ≤ 18) (hsb : (sb : Int) ≤ 18) : (tot ca sa cb sb).2 < B ^ 5 := by
 have h1 : up10 ca.natAbs sa (max sa sb) < B ^ 4 := g8 (bg ia) (show max sa sb - sa ≤ 18 by omega)
 have h2 : up10 cb.natAbs sb (max sa sb) < B ^ 4 := g8 (bg ib) (show max sa sb - sb ≤ 18 by omega)
 have h3 := tH (decide (ca < 0), up10 ca.natAbs sa (max sa sb)) (decide (cb < 0), up10 cb.natAbs sb (max sa sb))
 have h4 : 2 * B ^ 4 ≤ B ^ 5 := by rw [Nat.pow_succ B 4, Nat.mul_comm]; exact Nat.mul_le_mul_left _ (by decide)
 unfold tot
 simp only at h3
 omega
theorem vV (c h l : Int) (s : Nat) (w : World) (hd : IsD c h l) (hc : InR c) (hs : (s : Int) ≤ 18) :
  Calls prog 199 #[.agg #[.int .i64 h, .int .u64 l, .int .i64 s]] w
   fun e w' => e = .returned (.tuple #[.agg #[.int .i64 (dhi (-c)), .int .u64 (dlo (-c)), .int .i64 s], .int .i64 0]) ∧ Below w.heap.size w w' := by
 obtain ⟨rfl, rfl⟩ := hd
 go_enter func199, ntmps199
 go_wp2_with (first | (go_at_call 64; refine (cI c _ _ s _ (IsD.self _) hc hs).mono ?_; rintro e w1 ⟨rfl, hb1⟩; obtain ⟨x, rfl⟩ := a9 hb1; clear hb1) | (go_at_call 67; refine (bU c _ _ _ _ (IsD.self _) hc).mono ?_; rintro e w1 ⟨rfl, hb1⟩; obtain ⟨y, rfl⟩ := a9 hb1; clear hb1))
 refine bodyPost_ret (v := .tuple #[.agg #[.int .i64 (dhi (-c)), .int .u64 (dlo (-c)), .int .i64 s], .int .i64 0]) (by simp [results, results199, go_sem]) rfl ⟨rfl, ?_⟩
 exact bl_
theorem jf {c : Int} (hc : InR c) : c.natAbs < B ^ 5 := Nat.lt_trans (bg hc) (by decide)
theorem uo (c h l : Int) (s : Nat) (w : World) (hd : IsD c h l) (hc : InR c) (hs : (s : Int) ≤ 18) :
  Calls prog 106 #[.agg #[.int .i64 h, .int .u64 l, .int .i64 s]] w
   fun e w' => e = .returned (.tuple #[.int .i64 (sgn c), .int .i64 0]) ∧ Below w.heap.size w w' := by
 obtain ⟨rfl, rfl⟩ := hd
 have es := iu c
 rw [← es]
 have HS : Hid (sv (decide (c < 0)) c.natAbs = c) := es
 clear es
 rw [HS.out]
 have hsg : Hid (sgn (sv (decide (c < 0)) c.natAbs) = sgn c) := by rw [HS.out]; rfl
 go_enter func106, ntmps106
 go_wp2_with (first | (go_at_call 64; refine (cI c _ _ s _ (IsD.self _) hc hs).mono ?_; rintro e w1 ⟨rfl, hb1⟩; obtain ⟨x, rfl⟩ := a9 hb1; clear hb1) | (go_at_call 66; refine (aW c _ _ _ _ (IsD.self _) hc).mono ?_; rintro e w1 ⟨rfl, hb1⟩; obtain ⟨y, rfl⟩ := a9 hb1; clear hb1) | (go_at_call 68; refine (fG _ _ _ (jf hc)).mono ?_; rintro e w1 ⟨rfl, hb1⟩; obtain ⟨z, rfl⟩ := a9 hb1; clear hb1))
 rw [hsg.out]
 go_ret2
 refine ⟨rfl, ?_⟩
 exact bl_
theorem uV (ca ha la cb hb lb : Int) (sa sb : Nat) (w : World) (da : IsD ca ha la) (db : IsD cb hb lb) (ia : InR ca) (ib : InR cb) (hsa : (sa : Int) ≤ 18) (hsb : (sb : Int) ≤ 18) (hr : ((tot ca sa cb sb).2 : Int) < M127) :
  Calls prog 30 #[.agg #[.int .i64 ha, .int .u64 la, .int .i64 sa], .agg #[.int .i64 hb, .int .u64 lb, .int .i64 sb]] w
   fun e w' => e = .returned (.tuple #[.agg #[.int .i64 (dhi (sv (tot ca sa cb sb).1 (tot ca sa cb sb).2)), .int .u64 (dlo (sv (tot ca sa cb sb).1 (tot ca sa cb sb).2)), .int .i64 ((max sa sb : Nat) : Int)], .int .i64 0]) ∧ Below w.heap.size w w' := by
 obtain ⟨rfl, rfl⟩ := da
 obtain ⟨rfl, rfl⟩ := db
 have n5 : (tot ca sa cb sb).2 < B ^ 5 := mx _ _ _ _ ia ib hsa hsb
 have HR : Hid (((tot ca sa cb sb).2 : Int) < M127) := hr
 have N5 : Hid _ := n5
 clear hr n5
 go_enter func30, ntmps30
 go_wp2_with (first | (go_at_call 57; refine (dZ ca _ _ cb _ _ sa sb _ (IsD.self _) (IsD.self _) ia ib hsa hsb).mono ?_; rintro e w1 ⟨rfl, hb1⟩; obtain ⟨x, rfl⟩ := a9 hb1; clear hb1) | (go_at_call 58; refine (ga ca _ _ cb _ _ sa sb _ (IsD.self _) (IsD.self _) ia ib hsa hsb).mono ?_; rintro e w1 ⟨rfl, hb1⟩; obtain ⟨z, rfl⟩ := a9 hb1; clear hb1) | (go_at_call 59; refine (gN _ _ _ _ N5.out HR.out).mono ?_; rintro e w1 ⟨rfl, hb1⟩; obtain ⟨v, rfl⟩ := a9 hb1; clear hb1))
 refine bodyPost_ret (v := .tuple #[.agg #[.int .i64 (dhi (sv (tot ca sa cb sb).1 (tot ca sa cb sb).2)), .int .u64 (dlo (sv (tot ca sa cb sb).1 (tot ca sa cb sb).2)), .int .i64 ((max sa sb : Nat) : Int)], .int .i64 0]) (by simp [results, results30, go_sem]) rfl ⟨rfl, ?_⟩
 exact bl_
structure Num6 (w : World) (b : Nat) (neg : Bool) (n : Nat) : Prop where
 c0 : w.cell? ⟨b, 0, none⟩ = some (.bool neg)
 c1 : w.cell? ⟨b, 1, none⟩ = some (.int .u64 (wd n 0))
 c2 : w.cell? ⟨b, 2, none⟩ = some (.int .u64 (wd n 1))
 c3 : w.cell? ⟨b, 3, none⟩ = some (.int .u64 (wd n 2))
 c4 : w.cell? ⟨b, 4, none⟩ = some (.int .u64 (wd n 3))
 c5 : w.cell? ⟨b, 5, none⟩ = some (.int .u64 (wd n 4))
structure Dec3 (w : World) (b : Nat) (h l s : Int) : Prop where
 c0 : w.cell? ⟨b, 0, none⟩ = some (.int .i64 h)
 c1 : w.cell? ⟨b, 1, none⟩ = some (.int .u64 l)
 c2 : w.cell? ⟨b, 2, none⟩ = some (.int .i64 s)
 f0 : w.frozen? ⟨b, 0, none⟩ = false
 f1 : w.frozen? ⟨b, 1, none⟩ = false
 f2 : w.frozen? ⟨b, 2, none⟩ = false
theorem Num6.keep {w w' : World} {b n : Nat} {neg : Bool} (h : Num6 w b neg n) (e : w'.heap[b]? = w.heap[b]?) : Num6 w' b neg n := by
 have hc : ∀ j, w'.cell? ⟨b, j, none⟩ = w.cell? ⟨b, j, none⟩ := fun j => World.cell?_of_block (w := w) (w' := w') (a := ⟨b, j, none⟩) e
 obtain ⟨c0, c1, c2, c3, c4, c5⟩ := h
 constructor <;> simp only [hc] <;> assumption
theorem Dec3.keep {w w' : World} {b : Nat} {h l s : Int} (d : Dec3 w b h l s) (e : w'.heap[b]? = w.heap[b]?) : Dec3 w' b h l s := by
 have hc : ∀ j, w'.cell? ⟨b, j, none⟩ = w.cell? ⟨b, j, none⟩ := fun j => World.cell?_of_block (w := w) (w' := w') (a := ⟨b, j, none⟩) e
 have hf : ∀ j, w'.frozen? ⟨b, j, none⟩ = w.frozen? ⟨b, j, none⟩ := fun j => World.frozen?_of_block (w := w) (w' := w') (a := ⟨b, j, none⟩) e
 obtain ⟨c0, c1, c2, f0, f1, f2⟩ := d
 constructor <;> simp only [hc, hf] <;> assumption
def set6 (w : World) (b : Nat) (neg : Bool) (n : Nat) : World := ((((((w.setCell ⟨b, 0, none⟩ (.bool neg)).setCell ⟨b, 1, none⟩ (.int .u64 (wd (n) 0))).setCell ⟨b, 2, none⟩ (.int .u64 (wd (n) 1))).setCell ⟨b, 3, none⟩ (.int .u64 (wd (n) 2))).setCell ⟨b, 4, none⟩ (.int .u64 (wd (n) 3))).setCell ⟨b, 5, none⟩ (.int .u64 (wd (n) 4)))
theorem dJ (w : World) (b : Nat) (neg : Bool) (n : Nat) {k : Nat} (h : k ≠ b) : (set6 w b neg n).heap[k]? = w.heap[k]? := by
 unfold set6
 iterate 6 rw [Below.heap_setCell _ _ _ _ (by exact h)]
theorem eH (w : World) (b : Nat) (neg : Bool) (n : Nat) : (set6 w b neg n).heap.size = w.heap.size := by simp [set6]
theorem dI {k : Nat} {a w : World} (h : Below k a w) {b : Nat} (hb : k ≤ b) (neg : Bool) (n : Nat) : Below k a (set6 w b neg n) :=
 (((((h.setCell (p := ⟨b, 0, none⟩) hb _).setCell (p := ⟨b, 1, none⟩) hb _).setCell (p := ⟨b, 2, none⟩) hb _).setCell (p := ⟨b, 3, none⟩) hb _).setCell (p := ⟨b, 4, none⟩) hb _).setCell (p := ⟨b, 5, none⟩) hb _
theorem kZ {w : World} {b : Nat} (h : w.heap[b]? = some (.cells #[.bool false, .int .u64 0, .int .u64 0, .int .u64 0, .int .u64 0, .int .u64 0] 125)) (neg : Bool) (n : Nat) : Num6 (set6 w b neg n) b neg n := by
 have c : ∀ i v, #[Value.bool false, .int .u64 0, .int .u64 0, .int .u64 0, .int .u64 0, .int .u64 0][i]? = some v → w.cell? ⟨b, i, none⟩ = some v := fun i v hv => by rw [aT h i]; exact hv
 have c0 := c 0 _ rfl
 have c1 := c 1 _ rfl
 have c2 := c 2 _ rfl
 have c3 := c 3 _ rfl
 have c4 := c 4 _ rfl
 have c5 := c 5 _ rfl
 have s : ∀ (u : World) (i : Nat) (v x : Value), u.cell? ⟨b, i, none⟩ = some x → (u.setCell ⟨b, i, none⟩ v).cell? ⟨b, i, none⟩ = some v := fun u i v x hx => World.cell?_setCell_same _ _ _ hx
 have t : ∀ (u : World) (i j : Nat) (v : Value), i ≠ j → (u.setCell ⟨b, i, none⟩ v).cell? ⟨b, j, none⟩ = u.cell? ⟨b, j, none⟩ := fun u i j v hij => World.cell?_setCell_other _ _ _ _ (eC hij)
 unfold set6
 constructor
 ·rw [t _ _ _ _ (by omega), t _ _ _ _ (by omega), t _ _ _ _ (by omega), t _ _ _ _ (by omega), t _ _ _ _ (by omega)]; exact s _ _ _ _ c0
 ·rw [t _ _ _ _ (by omega), t _ _ _ _ (by omega), t _ _ _ _ (by omega), t _ _ _ _ (by omega)]; exact s _ _ _ _ (by rw [t _ _ _ _ (by omega)]; exact c1)
 ·rw [t _ _ _ _ (by omega), t _ _ _ _ (by omega), t _ _ _ _ (by omega)]; exact s _ _ _ _ (by rw [t _ _ _ _ (by omega), t _ _ _ _ (by omega)]; exact c2)
 ·rw [t _ _ _ _ (by omega), t _ _ _ _ (by omega)]; exact s _ _ _ _ (by rw [t _ _ _ _ (by omega), t _ _ _ _ (by omega), t _ _ _ _ (by omega)]; exact c3)
 ·rw [t _ _ _ _ (by omega)]; exact s _ _ _ _ (by rw [t _ _ _ _ (by omega), t _ _ _ _ (by omega), t _ _ _ _ (by omega), t _ _ _ _ (by omega)]; exact c4)
 ·exact s _ _ _ _ (by rw [t _ _ _ _ (by omega), t _ _ _ _ (by omega), t _ _ _ _ (by omega), t _ _ _ _ (by omega), t _ _ _ _ (by omega)]; exact c5)
structure Two (w w4 : World) (b1 b2 : Nat) (ca cb : Int) (sa sb : Nat) : Prop where
 a : Dec3 w4 w.heap.size (dhi ca) (dlo ca) sa
 b : Dec3 w4 (w.heap.size + 1) (dhi cb) (dlo cb) sb
 r : Dec3 w4 (w.heap.size + 1 + 1) 0 0 0
 x : Num6 w4 b1 (decide (ca < 0)) ca.natAbs
 y : Num6 w4 b2 (decide (cb < 0)) cb.natAbs
 n1 : w.heap.size + 1 + 1 < b1
 n2 : w.heap.size + 1 + 1 < b2
 s1 : b1 < w4.heap.size
 s2 : b2 < w4.heap.size
 bel : Below w.heap.size w w4
theorem Two.step {w w4 w5 : World} {b1 b2 : Nat} {ca cb : Int} {sa sb : Nat} (h : Two w w4 b1 b2 ca cb sa sb) (k : Below w4.heap.size w4 w5) : Two w w5 b1 b2 ca cb sa sb := by
 obtain ⟨a, b, r, x, y, n1, n2, s1, s2, bel⟩ := h
 have := k.size
 exact ⟨a.keep (k.block _ (by omega)), b.keep (k.block _ (by omega)), r.keep (k.block _ (by omega)), x.keep (k.block _ s1), y.keep (k.block _ s2), n1, n2, by omega, by omega, bel.trans (k.mono (by omega))⟩
theorem mz {w w0 w3 : World} {b1 b2 : Nat} {ca cb : Int} {sa sb : Nat} (hz : w.heap.size + 1 + 1 < w0.heap.size) (a : Dec3 w0 w.heap.size (dhi ca) (dlo ca) sa) (b : Dec3 w0 (w.heap.size + 1) (dhi cb) (dlo cb) sb) (r : Dec3 w0 (w.heap.size + 1 + 1) 0 0 0) (bel : Below w.heap.size w w0)
  (hl : Later w0 w3) (h1 : w0.heap.size ≤ b1) (h2 : w0.heap.size ≤ b2) (hne : b1 ≠ b2) (hO1 : w3.heap[b1]? = some (.cells #[.bool false, .int .u64 0, .int .u64 0, .int .u64 0, .int .u64 0, .int .u64 0] 125)) (hO2 : w3.heap[b2]? = some (.cells #[.bool false, .int .u64 0, .int .u64 0, .int .u64 0, .int .u64 0, .int .u64 0] 125)) :
  Two w (set6 (set6 w3 b1 (decide (ca < 0)) ca.natAbs) b2 (decide (cb < 0)) cb.natAbs) b1 b2 ca cb sa sb := by
 have e : ∀ k, k < w0.heap.size → (set6 (set6 w3 b1 (decide (ca < 0)) ca.natAbs) b2 (decide (cb < 0)) cb.natAbs).heap[k]? = w0.heap[k]? := fun k hk => by
  rw [dJ _ _ _ _ (by omega), dJ _ _ _ _ (by omega)]; exact hl.block k hk
 have l1 := dT hO1
 have l2 := dT hO2
 refine ⟨a.keep (e _ (by omega)), b.keep (e _ (by omega)), r.keep (e _ hz), (kZ hO1 _ _).keep (dJ _ _ _ _ hne), kZ (by rw [dJ _ _ _ _ (Ne.symm hne)]; exact hO2) _ _, by omega, by omega, by rw [eH, eH]; exact l1, by rw [eH, eH]; exact l2, ?_⟩
 exact dI (dI (bel.trans (Below.mono hl (by omega))) (by omega) _ _) (by omega) _ _
theorem l7 (c : Int) : sgn c = 0 ↔ c = 0 := by unfold sgn; split <;> (try split) <;> omega
theorem fB {u : Nat} (h : u ≤ 18) : 10 ^ u ≤ 10 ^ 18 := Nat.pow_le_pow_right (by decide) h
theorem kS {u : Nat} (h : u ≤ 36) : 10 ^ u ≤ 10 ^ 36 := Nat.pow_le_pow_right (by decide) h
theorem jJ (neg : Bool) (n d : Nat) (shift : Int) (mode : Nat) : rquo neg n d shift mode ≤ rnum n shift + 1 := by
 unfold rquo
 have := Nat.div_le_self (rnum n shift) (rden d shift)
 split <;> omega
theorem mp {ca cb : Int} {sa sb t mode : Nat} (neg : Bool) (ia : InR ca) (ib : InR cb) (hsa : (sa : Int) ≤ 18) (hsb : (sb : Int) ≤ 18) (ht : (t : Int) ≤ 18) (h0 : ¬ cb = 0) :
  rnum ca.natAbs ((t : Int) + sb - sa) < B ^ 5 ∧ 0 < rden cb.natAbs ((t : Int) + sb - sa) ∧ 2 * rden cb.natAbs ((t : Int) + sb - sa) ≤ B ^ 5 ∧ rquo neg ca.natAbs cb.natAbs ((t : Int) + sb - sa) mode < B ^ 5 := by
 have e1 : rnum ca.natAbs ((t : Int) + sb - sa) ≤ 2 ^ 127 * 10 ^ 36 := by
  unfold rnum; exact Nat.mul_le_mul (Nat.le_of_lt (bg ia)) (kS (by omega))
 have e2 : rden cb.natAbs ((t : Int) + sb - sa) ≤ 2 ^ 127 * 10 ^ 18 := by
  unfold rden; exact Nat.mul_le_mul (Nat.le_of_lt (bg ib)) (fB (by omega))
 refine ⟨Nat.lt_of_le_of_lt e1 (by decide), ?_, Nat.le_trans (Nat.mul_le_mul_left 2 e2) (by decide), ?_⟩
 ·unfold rden; exact Nat.mul_pos (by omega) (Nat.pow_pos (by decide))
 ·exact Nat.lt_of_le_of_lt (Nat.le_trans (jJ _ _ _ _ _) (Nat.add_le_add_right e1 1)) (by decide)
theorem xS (ca ha la cb hb lb : Int) (sa sb t mode : Nat) (w : World) (da : IsD ca ha la) (db : IsD cb hb lb) (ia : InR ca) (ib : InR cb) (hsa : (sa : Int) ≤ 18) (hsb : (sb : Int) ≤ 18) (ht : (t : Int) ≤ 18) (hm : (mode : Int) ≤ 6) (h0 : cb = 0) :
  Calls prog 164 #[.agg #[.int .i64 ha, .int .u64 la, .int .i64 sa], .agg #[.int .i64 hb, .int .u64 lb, .int .i64 sb], .int .i64 t, .int .i64 mode] w
   fun e w' => e = .returned (.tuple #[.agg #[.int .i64 0, .int .u64 0, .int .i64 0], .int .i64 5]) ∧ Below w.heap.size w w' := by
 obtain ⟨rfl, rfl⟩ := da
 obtain ⟨rfl, rfl⟩ := db
 have H0 : Hid ((sgn (sv (decide (cb < 0)) cb.natAbs) == 0) = true) := by show _ = true; rw [iu, beq_iff_eq, l7]; exact h0
 clear h0
 go_enter func164, ntmps164
 go_wp2_with (first | (go_at_call 63; refine (cU _ _ _ (by omega) ht hm).mono ?_; rintro e w1 ⟨rfl, rfl⟩) | (go_at_call 57; refine (dZ ca _ _ cb _ _ sa sb _ (IsD.self _) (IsD.self _) ia ib hsa hsb).mono ?_; rintro e w1 ⟨rfl, hb1⟩; obtain ⟨x, rfl⟩ := a9 hb1; clear hb1))
 refine wp_region_any (by kernel_rfl) ?_
 refine fj (done := #[true, true, true, true, false, false, false, false]) 6 [] [0, 1, 2, 3] 4 5 _ _ (.cells #[.bool false, .int .u64 0, .int .u64 0, .int .u64 0, .int .u64 0, .int .u64 0] 125) (.cells #[.bool false, .int .u64 0, .int .u64 0, .int .u64 0, .int .u64 0, .int .u64 0] 125) (by kernel_rfl) (by kernel_rfl) rfl rfl (by kernel_rfl) (by simp) (fun _ _ => ⟨rfl, rfl⟩) (fun _ _ => ⟨rfl, rfl⟩) (by kernel_rfl) (by kernel_rfl) rfl ?_ (co _)
 iterate 1 (refine az (fun K hK => ?_); go_simp; refine hK _ ?_; clear hK K)
 refine az (fun K hK => ?_)
 go_simp
 apply Exists.intro
 refine ⟨fun xq => ?_, hK _ ?_⟩
 ·exact aW ca _ _ _ _ (IsD.self _) ia
 clear hK K
 iterate 1 (refine az (fun K hK => ?_); go_simp; refine hK _ ?_; clear hK K)
 refine az (fun K hK => ?_)
 go_simp
 apply Exists.intro
 refine ⟨fun xq => ?_, hK _ ?_⟩
 ·exact aW cb _ _ _ _ (IsD.self _) ib
 clear hK K
 refine cW ?_
 intro b1 b2 w3 hl h1 h2 hne hO1 hO2
 have T := mz (w := w) (ca := ca) (cb := cb) (sa := sa) (sb := sb) (by rw [aZ]; simp <;> omega) (by constructor <;> simp [go_sem]) (by constructor <;> simp [go_sem]) (by constructor <;> simp [go_sem]) (by repeat (first | exact Below.refl _ _ | refine Below.drew ?_ | refine below_drewN ?_ _ | refine ao ?_ _ | refine aA ?_ _ | (refine Below.setCell ?_ ?_ _; rotate_left; (simp <;> omega)))) hl h1 h2 hne hO1 hO2
 have q1 := fun i => aT hO1 i
 have q2 := fun i => aT hO2 i
 have g1 := fun i => aV hO1 i
 have g2 := fun i => aV hO2 i
 have hne' : ¬ b1 = b2 := hne
 have hne2 : ¬ b2 = b1 := fun e => hne e.symm
 clear hl h1 h2 hne hO1 hO2
 simp only [List.drop_succ_cons, List.drop_zero]
 go_wp2_with fail
 rw [show ((((((((((((w3.setCell ⟨b1, 0, none⟩ (.bool (decide (ca < 0)))).setCell ⟨b1, 1, none⟩ (.int .u64 (wd (ca.natAbs) 0))).setCell ⟨b1, 2, none⟩ (.int .u64 (wd (ca.natAbs) 1))).setCell ⟨b1, 3, none⟩ (.int .u64 (wd (ca.natAbs) 2))).setCell ⟨b1, 4, none⟩ (.int .u64 (wd (ca.natAbs) 3))).setCell ⟨b1, 5, none⟩ (.int .u64 (wd (ca.natAbs) 4))).setCell ⟨b2, 0, none⟩ (.bool (decide (cb < 0)))).setCell ⟨b2, 1, none⟩ (.int .u64 (wd (cb.natAbs) 0))).setCell ⟨b2, 2, none⟩ (.int .u64 (wd (cb.natAbs) 1))).setCell ⟨b2, 3, none⟩ (.int .u64 (wd (cb.natAbs) 2))).setCell ⟨b2, 4, none⟩ (.int .u64 (wd (cb.natAbs) 3))).setCell ⟨b2, 5, none⟩ (.int .u64 (wd (cb.natAbs) 4))) = set6 (set6 w3 b1 (decide (ca < 0)) ca.natAbs) b2 (decide (cb < 0)) cb.natAbs from rfl]
 generalize set6 (set6 w3 b1 (decide (ca < 0)) ca.natAbs) b2 (decide (cb < 0)) cb.natAbs = w4 at *
 clear q1 q2 g1 g2
 refine (fG (decide (cb < 0)) cb.natAbs w4 (jf ib)).mono ?_
 rintro e w5 ⟨rfl, hb5⟩
 obtain ⟨⟨a0, a1, a2, -, -, -⟩, ⟨c0, c1, c2, -, -, -⟩, ⟨r0, r1, r2, f0, f1, f2⟩, ⟨x0, x1, x2, x3, x4, x5⟩, ⟨y0, y1, y2, y3, y4, y5⟩, n1, n2, s1, s2, bel⟩ := T.step hb5
 clear T hb5
 have p0 : w.heap.size < w5.heap.size := by omega
 have p1 : w.heap.size + 1 < w5.heap.size := by omega
 have p2 : w.heap.size + 1 + 1 < w5.heap.size := by omega
 have H0' := H0.out
 go_wp2
 refine bodyPost_ret (v := .tuple #[.agg #[.int .i64 0, .int .u64 0, .int .i64 0], .int .i64 5]) (by simp [results, results164, go_sem, r0, r1, r2]) rfl ⟨rfl, ?_⟩
 iterate 3 refine Below.setCell ?_ (by simp <;> omega) _
 exact bel
theorem wj (ca ha la cb hb lb : Int) (sa sb t mode : Nat) (w : World) (da : IsD ca ha la) (db : IsD cb hb lb) (ia : InR ca) (ib : InR cb) (hsa : (sa : Int) ≤ 18) (hsb : (sb : Int) ≤ 18) (ht : (t : Int) ≤ 18) (hm : (mode : Int) ≤ 6) (h0 : ¬ cb = 0) (hr : ((rquo ((decide (ca < 0)) != (decide (cb < 0))) ca.natAbs cb.natAbs ((t : Int) + sb - sa) mode : Nat) : Int) < M127) :
  Calls prog 164 #[.agg #[.int .i64 ha, .int .u64 la, .int .i64 sa], .agg #[.int .i64 hb, .int .u64 lb, .int .i64 sb], .int .i64 t, .int .i64 mode] w
   fun e w' => e = .returned (.tuple #[.agg #[.int .i64 (dhi (sv ((decide (ca < 0)) != (decide (cb < 0))) (rquo ((decide (ca < 0)) != (decide (cb < 0))) ca.natAbs cb.natAbs ((t : Int) + sb - sa) mode))), .int .u64 (dlo (sv ((decide (ca < 0)) != (decide (cb < 0))) (rquo ((decide (ca < 0)) != (decide (cb < 0))) ca.natAbs cb.natAbs ((t : Int) + sb - sa) mode))), .int .i64 t], .int .i64 0]) ∧ Below w.heap.size w w' := by
 obtain ⟨rfl, rfl⟩ := da
 obtain ⟨rfl, rfl⟩ := db
 have H0 : Hid ((sgn (sv (decide (cb < 0)) cb.natAbs) == 0) = false) := by show _ = false; rw [iu, beq_eq_false_iff_ne]; exact fun e => h0 ((l7 cb).1 e)
 obtain ⟨hn5, hd0, hd5, hq5⟩ := mp (ca := ca) (cb := cb) (sa := sa) (sb := sb) (t := t) (mode := mode) ((decide (ca < 0)) != (decide (cb < 0))) ia ib hsa hsb ht h0
 have HN5 : Hid _ := hn5
 have HD0 : Hid _ := hd0
 have HD5 : Hid _ := hd5
 have HQ5 : Hid _ := hq5
 have HR : Hid _ := hr
 clear h0 hn5 hd0 hd5 hq5 hr
 go_enter func164, ntmps164
 go_wp2_with (first | (go_at_call 63; refine (cU _ _ _ (by omega) ht hm).mono ?_; rintro e w1 ⟨rfl, rfl⟩) | (go_at_call 57; refine (dZ ca _ _ cb _ _ sa sb _ (IsD.self _) (IsD.self _) ia ib hsa hsb).mono ?_; rintro e w1 ⟨rfl, hb1⟩; obtain ⟨x, rfl⟩ := a9 hb1; clear hb1))
 refine wp_region_any (by kernel_rfl) ?_
 refine fj (done := #[true, true, true, true, false, false, false, false]) 6 [] [0, 1, 2, 3] 4 5 _ _ (.cells #[.bool false, .int .u64 0, .int .u64 0, .int .u64 0, .int .u64 0, .int .u64 0] 125) (.cells #[.bool false, .int .u64 0, .int .u64 0, .int .u64 0, .int .u64 0, .int .u64 0] 125) (by kernel_rfl) (by kernel_rfl) rfl rfl (by kernel_rfl) (by simp) (fun _ _ => ⟨rfl, rfl⟩) (fun _ _ => ⟨rfl, rfl⟩) (by kernel_rfl) (by kernel_rfl) rfl ?_ (co _)
 iterate 1 (refine az (fun K hK => ?_); go_simp; refine hK _ ?_; clear hK K)
 refine az (fun K hK => ?_)
 go_simp
 apply Exists.intro
 refine ⟨fun xq => ?_, hK _ ?_⟩
 ·exact aW ca _ _ _ _ (IsD.self _) ia
 clear hK K
 iterate 1 (refine az (fun K hK => ?_); go_simp; refine hK _ ?_; clear hK K)
 refine az (fun K hK => ?_)
 go_simp
 apply Exists.intro
 refine ⟨fun xq => ?_, hK _ ?_⟩
 ·exact aW cb _ _ _ _ (IsD.self _) ib
 clear hK K
 refine cW ?_
 intro b1 b2 w3 hl h1 h2 hne hO1 hO2
 have T := mz (w := w) (ca := ca) (cb := cb) (sa := sa) (sb := sb) (by rw [aZ]; simp <;> omega) (by constructor <;> simp [go_sem]) (by constructor <;> simp [go_sem]) (by constructor <;> simp [go_sem]) (by repeat (first | exact Below.refl _ _ | refine Below.drew ?_ | refine below_drewN ?_ _ | refine ao ?_ _ | refine aA ?_ _ | (refine Below.setCell ?_ ?_ _; rotate_left; (simp <;> omega)))) hl h1 h2 hne hO1 hO2
 have q1 := fun i => aT hO1 i
 have q2 := fun i => aT hO2 i
 have g1 := fun i => aV hO1 i
 have g2 := fun i => aV hO2 i
 have hne' : ¬ b1 = b2 := hne
 have hne2 : ¬ b2 = b1 := fun e => hne e.symm
 clear hl h1 h2 hne hO1 hO2
 simp only [List.drop_succ_cons, List.drop_zero]
 go_wp2_with fail
 rw [show ((((((((((((w3.setCell ⟨b1, 0, none⟩ (.bool (decide (ca < 0)))).setCell ⟨b1, 1, none⟩ (.int .u64 (wd (ca.natAbs) 0))).setCell ⟨b1, 2, none⟩ (.int .u64 (wd (ca.natAbs) 1))).setCell ⟨b1, 3, none⟩ (.int .u64 (wd (ca.natAbs) 2))).setCell ⟨b1, 4, none⟩ (.int .u64 (wd (ca.natAbs) 3))).setCell ⟨b1, 5, none⟩ (.int .u64 (wd (ca.natAbs) 4))).setCell ⟨b2, 0, none⟩ (.bool (decide (cb < 0)))).setCell ⟨b2, 1, none⟩ (.int .u64 (wd (cb.natAbs) 0))).setCell ⟨b2, 2, none⟩ (.int .u64 (wd (cb.natAbs) 1))).setCell ⟨b2, 3, none⟩ (.int .u64 (wd (cb.natAbs) 2))).setCell ⟨b2, 4, none⟩ (.int .u64 (wd (cb.natAbs) 3))).setCell ⟨b2, 5, none⟩ (.int .u64 (wd (cb.natAbs) 4))) = set6 (set6 w3 b1 (decide (ca < 0)) ca.natAbs) b2 (decide (cb < 0)) cb.natAbs from rfl]
 generalize set6 (set6 w3 b1 (decide (ca < 0)) ca.natAbs) b2 (decide (cb < 0)) cb.natAbs = w4 at *
 clear q1 q2 g1 g2
 refine (fG (decide (cb < 0)) cb.natAbs w4 (jf ib)).mono ?_
 rintro e w5 ⟨rfl, hb5⟩
 obtain ⟨⟨a0, a1, a2, -, -, -⟩, ⟨c0, c1, c2, -, -, -⟩, ⟨r0, r1, r2, f0, f1, f2⟩, ⟨x0, x1, x2, x3, x4, x5⟩, ⟨y0, y1, y2, y3, y4, y5⟩, n1, n2, s1, s2, bel⟩ := T.step hb5
 clear T hb5
 have p0 : w.heap.size < w5.heap.size := by omega
 have p1 : w.heap.size + 1 < w5.heap.size := by omega
 have p2 : w.heap.size + 1 + 1 < w5.heap.size := by omega
 have H0' := H0.out
 clear hne' hne2
 go_wp2_with (first | (go_at_call 65; refine (fV ((decide (ca < 0)) != (decide (cb < 0))) ca.natAbs cb.natAbs mode _ _ _ _ _ _ _ (IsW.self _) (by omega) HN5.out HD0.out HD5.out (by omega) (by omega)).mono ?_; rintro e w1 ⟨rfl, hb1⟩; obtain ⟨z, rfl⟩ := a9 hb1; clear hb1) | (go_at_call 59; refine (gN _ _ _ _ HQ5.out HR.out).mono ?_; rintro e w1 ⟨rfl, hb1⟩; obtain ⟨v, rfl⟩ := a9 hb1; clear hb1))
 refine bodyPost_ret (v := .tuple #[.agg #[.int .i64 (dhi (sv ((decide (ca < 0)) != (decide (cb < 0))) (rquo ((decide (ca < 0)) != (decide (cb < 0))) ca.natAbs cb.natAbs ((t : Int) + sb - sa) mode))), .int .u64 (dlo (sv ((decide (ca < 0)) != (decide (cb < 0))) (rquo ((decide (ca < 0)) != (decide (cb < 0))) ca.natAbs cb.natAbs ((t : Int) + sb - sa) mode))), .int .i64 t], .int .i64 0]) (by simp [results, results164, go_sem, r0, r1, r2, p1, p2]) rfl ⟨rfl, ?_⟩
 refine aA (ao ?_ _) _
 iterate 3 refine Below.setCell ?_ (by simp <;> omega) _
 exact bel
end Go.Proofs.YtjkiplndbcmmbaaGreatDoor
namespace Go.Proofs.YtjkiplndbcmmbaaGreatDoor
open Tryz
open Go.RowKit
attribute [local go_sem] ap ai ar af ae ag aD av ax ay aN aO aP aQ aR
theorem mq {c : Int} {s t mode : Nat} (neg : Bool) (ic : InR c) (hs : (s : Int) ≤ 18) (ht : (t : Int) ≤ 18) :
  rnum c.natAbs ((t : Int) - s) < B ^ 5 ∧ 0 < rden 1 ((t : Int) - s) ∧ 2 * rden 1 ((t : Int) - s) ≤ B ^ 5 ∧ rquo neg c.natAbs 1 ((t : Int) - s) mode < B ^ 5 := by
 have e1 : rnum c.natAbs ((t : Int) - s) ≤ 2 ^ 127 * 10 ^ 18 := by
  unfold rnum; exact Nat.mul_le_mul (Nat.le_of_lt (bg ic)) (fB (by omega))
 have e2 : rden 1 ((t : Int) - s) ≤ 1 * 10 ^ 18 := by
  unfold rden; exact Nat.mul_le_mul (Nat.le_refl _) (fB (by omega))
 refine ⟨Nat.lt_of_le_of_lt e1 (by decide), ?_, Nat.le_trans (Nat.mul_le_mul_left 2 e2) (by decide), ?_⟩
 ·unfold rden; exact Nat.mul_pos (by omega) (Nat.pow_pos (by decide))
 ·exact Nat.lt_of_le_of_lt (Nat.le_trans (jJ _ _ _ _ _) (Nat.add_le_add_right e1 1)) (by decide)
theorem mr (c h l : Int) (s t mode : Nat) (w : World) (hd : IsD c h l) (ic : InR c) (hs : (s : Int) ≤ 18) (ht : (t : Int) ≤ 18) (hm : (mode : Int) ≤ 6) (hr : ((rquo (decide (c < 0)) c.natAbs 1 ((t : Int) - s) mode : Nat) : Int) < M127) :
  Calls prog 35 #[.agg #[.int .i64 h, .int .u64 l, .int .i64 s], .int .i64 t, .int .i64 mode] w
   fun e w' => e = .returned (.tuple #[.agg #[.int .i64 (dhi (sv (decide (c < 0)) (rquo (decide (c < 0)) c.natAbs 1 ((t : Int) - s) mode))), .int .u64 (dlo (sv (decide (c < 0)) (rquo (decide (c < 0)) c.natAbs 1 ((t : Int) - s) mode))), .int .i64 t], .int .i64 0]) ∧ Below w.heap.size w w' := by
 obtain ⟨rfl, rfl⟩ := hd
 obtain ⟨hn5, hd0, hd5, hq5⟩ := mq (c := c) (s := s) (t := t) (mode := mode) (decide (c < 0)) ic hs ht
 have HN5 : Hid _ := hn5
 have HD0 : Hid _ := hd0
 have HD5 : Hid _ := hd5
 have HQ5 : Hid _ := hq5
 have HR : Hid _ := hr
 have ew : IntKind.i64.wrap ((t : Int) - (s : Int)) = (t : Int) - (s : Int) := by rw [IntKind.wrap_i64]; omega
 clear hn5 hd0 hd5 hq5 hr
 go_enter func35, ntmps35
 go_wp2_with (first | (go_at_call 63; refine (cU _ _ _ (by omega) ht hm).mono ?_; rintro e w1 ⟨rfl, rfl⟩) | (go_at_call 64; refine (cI c _ _ s _ (IsD.self _) ic hs).mono ?_; rintro e w1 ⟨rfl, hb1⟩; obtain ⟨x, rfl⟩ := a9 hb1; clear hb1))
 refine aX 13 (by kernel_rfl) (by kernel_rfl) ?_
 iterate 1 (refine wpQuiet_step (fun K hK => ?_); go_simp; refine hK _ ?_; clear hK K)
 refine wpQuiet_step (fun K hK => ?_)
 go_simp
 apply Exists.intro
 refine ⟨fun xq => ?_, hK _ ?_⟩
 ·exact aJ (aW c _ _ _ _ (IsD.self _) ic)
 clear hK K
 iterate 6 (refine wpQuiet_step (fun K hK => ?_); go_simp; refine hK _ ?_; clear hK K)
 refine wpQuiet_step (fun K hK => ?_)
 go_simp
 apply Exists.intro
 refine ⟨fun xq => ?_, hK _ ?_⟩
 ·exact aJ (fV (decide (c < 0)) c.natAbs 1 mode _ _ _ _ _ _ _ eE (by omega) HN5.out HD0.out HD5.out (by omega) (by omega))
 clear hK K
 iterate 1 (refine wpQuiet_step (fun K hK => ?_); go_simp; refine hK _ ?_; clear hK K)
 refine wpQuiet_step (fun K hK => ?_)
 go_simp
 apply Exists.intro
 refine ⟨fun xq => ?_, hK _ ?_⟩
 ·exact aJ (gN _ _ _ _ HQ5.out HR.out)
 clear hK K
 iterate 2 (refine wpQuiet_step (fun K hK => ?_); go_simp; refine hK _ ?_; clear hK K)
 refine wpQuiet_nil ?_
 intro xq
 simp only [List.drop_succ_cons, List.drop_zero]
 go_wp2
 refine bodyPost_ret (v := .tuple #[.agg #[.int .i64 (dhi (sv (decide (c < 0)) (rquo (decide (c < 0)) c.natAbs 1 ((t : Int) - s) mode))), .int .u64 (dlo (sv (decide (c < 0)) (rquo (decide (c < 0)) c.natAbs 1 ((t : Int) - s) mode))), .int .i64 t], .int .i64 0]) (by simp [results, results35, go_sem]) rfl ⟨rfl, ?_⟩
 exact bl_
end Go.Proofs.YtjkiplndbcmmbaaGreatDoor
namespace Go.Proofs.YtjkiplndbcmmbaaGreatDoor
open Tryz
open Go.RowKit
attribute [local go_sem] ap ai ar af ae ag aD av ax ay aN aO aP aQ aR fp
theorem mm {ca cb : Int} {sa sb t mode : Nat} (neg : Bool) (ia : InR ca) (ib : InR cb) (hsa : (sa : Int) ≤ 18) (hsb : (sb : Int) ≤ 18) (ht : (t : Int) ≤ 18) :
  rnum (ca.natAbs * cb.natAbs) ((t : Int) - sa - sb) < B ^ 5 ∧ 0 < rden 1 ((t : Int) - sa - sb) ∧ 2 * rden 1 ((t : Int) - sa - sb) ≤ B ^ 5 ∧ rquo neg (ca.natAbs * cb.natAbs) 1 ((t : Int) - sa - sb) mode < B ^ 5 := by
 have e1 : rnum (ca.natAbs * cb.natAbs) ((t : Int) - sa - sb) ≤ 2 ^ 127 * 2 ^ 127 * 10 ^ 18 := by
  unfold rnum; exact Nat.mul_le_mul (Nat.mul_le_mul (Nat.le_of_lt (bg ia)) (Nat.le_of_lt (bg ib))) (fB (by omega))
 have e2 : rden 1 ((t : Int) - sa - sb) ≤ 1 * 10 ^ 36 := by
  unfold rden; exact Nat.mul_le_mul (Nat.le_refl _) (kS (by omega))
 refine ⟨Nat.lt_of_le_of_lt e1 (by decide), ?_, Nat.le_trans (Nat.mul_le_mul_left 2 e2) (by decide), ?_⟩
 ·unfold rden; exact Nat.mul_pos (by omega) (Nat.pow_pos (by decide))
 ·exact Nat.lt_of_le_of_lt (Nat.le_trans (jJ _ _ _ _ _) (Nat.add_le_add_right e1 1)) (by decide)
theorem qK (n : Int) (h1 : -9223372036854775808 ≤ n) (h2 : n ≤ 9223372036854775807) : n / 9223372036854775808 = dhi n ∧ IntKind.u64.wrap n = dlo n := by
 rw [IntKind.wrap_u64]; unfold dhi dlo; omega
theorem uK (n : Int) (s : Nat) (w : World) (h1 : -9223372036854775808 ≤ n) (h2 : n ≤ 9223372036854775807) (hs : (s : Int) ≤ 18) :
  Calls prog 160 #[.int .i64 n, .int .i64 s] w
   fun e w' => e = .returned (.tuple #[.agg #[.int .i64 (dhi n), .int .u64 (dlo n), .int .i64 s], .int .i64 0]) ∧ Below w.heap.size w w' := by
 obtain ⟨e1, e2⟩ := qK n h1 h2
 rw [← e1, ← e2]
 clear e1 e2
 go_enter func160, ntmps160
 go_wp2_with (go_at_call 98; refine (bE _ _ (by omega) hs).mono ?_; rintro e w' ⟨rfl, rfl⟩)
 refine bodyPost_ret (v := .tuple #[.agg _, .int .i64 0]) (by simp [results, results160, go_sem]) rfl ⟨rfl, ?_⟩
 exact bl_
theorem vU (ca ha la cb hb lb : Int) (sa sb t mode : Nat) (w : World) (da : IsD ca ha la) (db : IsD cb hb lb) (ia : InR ca) (ib : InR cb) (hsa : (sa : Int) ≤ 18) (hsb : (sb : Int) ≤ 18) (ht : (t : Int) ≤ 18) (hm : (mode : Int) ≤ 6) (hr : ((rquo ((decide (ca < 0)) != (decide (cb < 0))) (ca.natAbs * cb.natAbs) 1 ((t : Int) - sa - sb) mode : Nat) : Int) < M127) :
  Calls prog 161 #[.agg #[.int .i64 ha, .int .u64 la, .int .i64 sa], .agg #[.int .i64 hb, .int .u64 lb, .int .i64 sb], .int .i64 t, .int .i64 mode] w
   fun e w' => e = .returned (.tuple #[.agg #[.int .i64 (dhi (sv ((decide (ca < 0)) != (decide (cb < 0))) (rquo ((decide (ca < 0)) != (decide (cb < 0))) (ca.natAbs * cb.natAbs) 1 ((t : Int) - sa - sb) mode))), .int .u64 (dlo (sv ((decide (ca < 0)) != (decide (cb < 0))) (rquo ((decide (ca < 0)) != (decide (cb < 0))) (ca.natAbs * cb.natAbs) 1 ((t : Int) - sa - sb) mode))), .int .i64 t], .int .i64 0]) ∧ Below w.heap.size w w' := by
 obtain ⟨rfl, rfl⟩ := da
 obtain ⟨rfl, rfl⟩ := db
 obtain ⟨hn5, hd0, hd5, hq5⟩ := mm (ca := ca) (cb := cb) (sa := sa) (sb := sb) (t := t) (mode := mode) ((decide (ca < 0)) != (decide (cb < 0))) ia ib hsa hsb ht
 have HN5 : Hid _ := hn5
 have HD0 : Hid _ := hd0
 have HD5 : Hid _ := hd5
 have HQ5 : Hid _ := hq5
 have HR : Hid _ := hr
 clear hn5 hd0 hd5 hq5 hr
 go_enter func161, ntmps161
 go_wp2_with (first | (go_at_call 63; refine (cU _ _ _ (by omega) ht hm).mono ?_; rintro e w1 ⟨rfl, rfl⟩) | (go_at_call 57; refine (dZ ca _ _ cb _ _ sa sb _ (IsD.self _) (IsD.self _) ia ib hsa hsb).mono ?_; rintro e w1 ⟨rfl, hb1⟩; obtain ⟨x, rfl⟩ := a9 hb1; clear hb1))
 refine wp_region_any (by kernel_rfl) ?_
 refine fj (done := #[true, true, true, true, false, false, false, false]) 6 [] [0, 1, 2, 3] 4 5 _ _ (.cells #[.bool false, .int .u64 0, .int .u64 0, .int .u64 0, .int .u64 0, .int .u64 0] 125) (.cells #[.bool false, .int .u64 0, .int .u64 0, .int .u64 0, .int .u64 0, .int .u64 0] 125) (by kernel_rfl) (by kernel_rfl) rfl rfl (by kernel_rfl) (by simp) (fun _ _ => ⟨rfl, rfl⟩) (fun _ _ => ⟨rfl, rfl⟩) (by kernel_rfl) (by kernel_rfl) rfl ?_ (co _)
 iterate 1 (refine az (fun K hK => ?_); go_simp; refine hK _ ?_; clear hK K)
 refine az (fun K hK => ?_)
 go_simp
 apply Exists.intro
 refine ⟨fun xq => ?_, hK _ ?_⟩
 ·exact aW ca _ _ _ _ (IsD.self _) ia
 clear hK K
 iterate 1 (refine az (fun K hK => ?_); go_simp; refine hK _ ?_; clear hK K)
 refine az (fun K hK => ?_)
 go_simp
 apply Exists.intro
 refine ⟨fun xq => ?_, hK _ ?_⟩
 ·exact aW cb _ _ _ _ (IsD.self _) ib
 clear hK K
 refine cW ?_
 intro b1 b2 w3 hl h1 h2 hne hO1 hO2
 have T := mz (w := w) (ca := ca) (cb := cb) (sa := sa) (sb := sb) (by rw [aZ]; simp <;> omega) (by constructor <;> simp [go_sem]) (by constructor <;> simp [go_sem]) (by constructor <;> simp [go_sem]) (by repeat (first | exact Below.refl _ _ | refine Below.drew ?_ | refine below_drewN ?_ _ | refine ao ?_ _ | refine aA ?_ _ | (refine Below.setCell ?_ ?_ _; rotate_left; (simp <;> omega)))) hl h1 h2 hne hO1 hO2
 have q1 := fun i => aT hO1 i
 have q2 := fun i => aT hO2 i
 have g1 := fun i => aV hO1 i
 have g2 := fun i => aV hO2 i
 have hne' : ¬ b1 = b2 := hne
 have hne2 : ¬ b2 = b1 := fun e => hne e.symm
 clear hl h1 h2 hne hO1 hO2
 simp only [List.drop_succ_cons, List.drop_zero]
 go_wp2
 rw [show ((((((((((((w3.setCell ⟨b1, 0, none⟩ (.bool (decide (ca < 0)))).setCell ⟨b1, 1, none⟩ (.int .u64 (wd (ca.natAbs) 0))).setCell ⟨b1, 2, none⟩ (.int .u64 (wd (ca.natAbs) 1))).setCell ⟨b1, 3, none⟩ (.int .u64 (wd (ca.natAbs) 2))).setCell ⟨b1, 4, none⟩ (.int .u64 (wd (ca.natAbs) 3))).setCell ⟨b1, 5, none⟩ (.int .u64 (wd (ca.natAbs) 4))).setCell ⟨b2, 0, none⟩ (.bool (decide (cb < 0)))).setCell ⟨b2, 1, none⟩ (.int .u64 (wd (cb.natAbs) 0))).setCell ⟨b2, 2, none⟩ (.int .u64 (wd (cb.natAbs) 1))).setCell ⟨b2, 3, none⟩ (.int .u64 (wd (cb.natAbs) 2))).setCell ⟨b2, 4, none⟩ (.int .u64 (wd (cb.natAbs) 3))).setCell ⟨b2, 5, none⟩ (.int .u64 (wd (cb.natAbs) 4))) = set6 (set6 w3 b1 (decide (ca < 0)) ca.natAbs) b2 (decide (cb < 0)) cb.natAbs from rfl]
 generalize set6 (set6 w3 b1 (decide (ca < 0)) ca.natAbs) b2 (decide (cb < 0)) cb.natAbs = w5 at *
 clear q1 q2 g1 g2 hne' hne2
 have T' := T
 obtain ⟨⟨a0, a1, a2, -, -, -⟩, ⟨c0, c1, c2, -, -, -⟩, ⟨r0, r1, r2, f0, f1, f2⟩, ⟨x0, x1, x2, x3, x4, x5⟩, ⟨y0, y1, y2, y3, y4, y5⟩, n1, n2, s1, s2, bel⟩ := T'
 refine wp_region_any (by kernel_rfl) ?_
 refine mC (done := #[true, true, true, true, true, true, true, true, true, true, true, false, false]) 12 [] [0, 1, 2, 3, 4, 5, 6, 7, 8, 9, 10] 11 _ (.cells #[.bool false, .int .u64 0, .int .u64 0, .int .u64 0, .int .u64 0, .int .u64 0] 125) (by kernel_rfl) (by kernel_rfl) rfl (by kernel_rfl) (fun _ _ => ⟨rfl, rfl⟩) (by kernel_rfl) (by kernel_rfl) rfl ?_ (co _)
 iterate 9 (refine az (fun K hK => ?_); go_simp; refine hK _ ?_; clear hK K)
 refine az (fun K hK => ?_)
 go_simp
 apply Exists.intro
 refine ⟨fun xq => ?_, hK _ ?_⟩
 ·exact p5 ca.natAbs cb.natAbs _ _ _ _ _ _ _ _ _ _ _ (IsW.self _) (IsW.self _) (jf ib)
 clear hK K
 iterate 1 (refine az (fun K hK => ?_); go_simp; refine hK _ ?_; clear hK K)
 refine cW ?_
 intro b3 w6 hl h3 hO3
 have T6 := T.step hl
 have q3 := fun i => aT hO3 i
 have g3 := fun i => aV hO3 i
 have s3 := dT hO3
 clear T a0 a1 a2 c0 c1 c2 r0 r1 r2 f0 f1 f2 x0 x1 x2 x3 x4 x5 y0 y1 y2 y3 y4 y5 bel hl hO3
 obtain ⟨⟨a0, a1, a2, -, -, -⟩, ⟨c0, c1, c2, -, -, -⟩, ⟨r0, r1, r2, f0, f1, f2⟩, -, -, -, -, s1, s2, bel⟩ := T6
 have p0 : w.heap.size < w6.heap.size := by omega
 have p1 : w.heap.size + 1 < w6.heap.size := by omega
 have p2 : w.heap.size + 1 + 1 < w6.heap.size := by omega
 have m0 : ¬ b3 = w.heap.size := by omega
 have m1 : ¬ b3 = w.heap.size + 1 := by omega
 have m2 : ¬ b3 = w.heap.size + 1 + 1 := by omega
 have h3' : w.heap.size ≤ b3 := by omega
 simp only [List.drop_succ_cons, List.drop_zero]
 clear h3 n1 n2 s1 s2
 go_wp2_with (first | (go_at_call 65; refine (fV ((decide (ca < 0)) != (decide (cb < 0))) (ca.natAbs * cb.natAbs) 1 mode _ _ _ _ _ _ _ eE (by omega) HN5.out HD0.out HD5.out (by omega) (by omega)).mono ?_; rintro e w1 ⟨rfl, hb1⟩; obtain ⟨z, rfl⟩ := a9 hb1; clear hb1) | (go_at_call 59; refine (gN _ _ _ _ HQ5.out HR.out).mono ?_; rintro e w1 ⟨rfl, hb1⟩; obtain ⟨v, rfl⟩ := a9 hb1; clear hb1))
 refine bodyPost_ret (v := .tuple #[.agg #[.int .i64 (dhi (sv ((decide (ca < 0)) != (decide (cb < 0))) (rquo ((decide (ca < 0)) != (decide (cb < 0))) (ca.natAbs * cb.natAbs) 1 ((t : Int) - sa - sb) mode))), .int .u64 (dlo (sv ((decide (ca < 0)) != (decide (cb < 0))) (rquo ((decide (ca < 0)) != (decide (cb < 0))) (ca.natAbs * cb.natAbs) 1 ((t : Int) - sa - sb) mode))), .int .i64 t], .int .i64 0]) (by simp [results, results161, go_sem, r0, r1, r2, p2]) rfl ⟨rfl, ?_⟩
 refine aA ?_ _
 iterate 3 refine Below.setCell ?_ (by simp <;> omega) _
 iterate 6 refine Below.setCell ?_ h3' _
 exact bel
end Go.Proofs.YtjkiplndbcmmbaaGreatDoor
namespace Go.Proofs.YtjkiplndbcmmbaaGreatDoor
open Go.RowKit
attribute [local go_sem] ap ai ar af ae ag aD av ax ay aN aO aP aQ aR
structure At3 (w : World) (b : Nat) (x y z : Value) : Prop where
 c0 : w.cell? ⟨b, 0, none⟩ = some x
 c1 : w.cell? ⟨b, 1, none⟩ = some y
 c2 : w.cell? ⟨b, 2, none⟩ = some z
 lt : b < w.heap.size
theorem At3.step {w w' : World} {b : Nat} {x y z : Value} (h : At3 w b x y z) (k : Below w.heap.size w w') : At3 w' b x y z :=
 ⟨by rw [k.cell h.lt]; exact h.c0, by rw [k.cell h.lt]; exact h.c1, by rw [k.cell h.lt]; exact h.c2, Nat.lt_of_lt_of_le h.lt k.size⟩
theorem At3.alloc {w : World} {b : Nat} {x y z : Value} (h : At3 w b x y z) (O : Obj) : At3 (w.alloc O) b x y z := h.step ((Below.refl _ _).alloc (Nat.le_refl _) O)
theorem dt (w : World) (x y z : Value) (t : TypeId) : At3 (w.alloc (.cells #[x, y, z] t)) w.heap.size x y z := by
 constructor <;> simp [go_sem]
theorem aC {w w' : World} {O : Obj} (k : Below (w.alloc O).heap.size (w.alloc O) w') : Below w.heap.size w w' :=
 ((Below.refl _ _).alloc (Nat.le_refl _) O).trans (k.mono (by simp))
end Go.Proofs.YtjkiplndbcmmbaaGreatDoor
namespace Go.Proofs.YtjkiplndbcmmbaaGreatDoor
open Tryz
open Go.RowKit
attribute [local go_sem] ap ai ar af ae ag aD av ax ay aN aO aP aQ aR
theorem bY {w : World} {b i : Nat} {c : Array Value} {t : TypeId} (h : w.heap[b]? = some (.cells c t)) (v : Value) : (w.setCell ⟨b, i, none⟩ v).heap[b]? = some (.cells (c.setIfInBounds i v) t) := by
 simp [World.setCell, Array.getElem?_modify, h]
theorem nr {w : World} {b : Nat} (h : w.heap[b]? = some (.cells #[.bool false, .int .u64 0, .int .u64 0, .int .u64 0, .int .u64 0, .int .u64 0] 125)) (neg : Bool) (n : Nat) :
  (set6 w b neg n).heap[b]? = some (.cells #[.bool neg, .int .u64 (wd n 0), .int .u64 (wd n 1), .int .u64 (wd n 2), .int .u64 (wd n 3), .int .u64 (wd n 4)] 125) :=
 bY (bY (bY (bY (bY (bY h _) _) _) _) _) _
theorem wB (ca ha la cb hb lb : Int) (sa sb : Nat) (w : World) (da : IsD ca ha la) (db : IsD cb hb lb) (ia : InR ca) (ib : InR cb) (hsa : (sa : Int) ≤ 18) (hsb : (sb : Int) ≤ 18) (hr : ((tot ca sa (-cb) sb).2 : Int) < M127) :
  Calls prog 163 #[.agg #[.int .i64 ha, .int .u64 la, .int .i64 sa], .agg #[.int .i64 hb, .int .u64 lb, .int .i64 sb]] w
   fun e w' => e = .returned (.tuple #[.agg #[.int .i64 (dhi (sv (tot ca sa (-cb) sb).1 (tot ca sa (-cb) sb).2)), .int .u64 (dlo (sv (tot ca sa (-cb) sb).1 (tot ca sa (-cb) sb).2)), .int .i64 ((max sa sb : Nat) : Int)], .int .i64 0]) ∧ Below w.heap.size w w' := by
 have HR : Hid (((tot ca sa (-cb) sb).2 : Int) < M127) := hr
 clear hr
 obtain ⟨rfl, rfl⟩ := da
 obtain ⟨rfl, rfl⟩ := db
 have n5 : (tot ca sa (-cb) sb).2 < B ^ 5 := mx _ _ _ _ ia (InR.neg ib) hsa hsb
 have N5 : Hid _ := n5
 clear n5
 go_enter func163, ntmps163
 go_wp2_with (go_at_call 57; refine (dZ ca _ _ cb _ _ sa sb _ (IsD.self _) (IsD.self _) ia ib hsa hsb).mono ?_; rintro e w1 ⟨rfl, hb1⟩; obtain ⟨x, rfl⟩ := a9 hb1; clear hb1)
 refine eX (done := #[true, true, true, true, true, true, true, false, false, false]) (all := #[true, true, true, true, true, true, true, true, true, true]) [0, 1, 2, 3, 4, 5, 6] [9] 7 8 _ _ (.cells #[.bool false, .int .u64 0, .int .u64 0, .int .u64 0, .int .u64 0, .int .u64 0] 125) (.cells #[.bool (tot ca sa (-cb) sb).1, .int .u64 (wd (tot ca sa (-cb) sb).2 0), .int .u64 (wd (tot ca sa (-cb) sb).2 1), .int .u64 (wd (tot ca sa (-cb) sb).2 2), .int .u64 (wd (tot ca sa (-cb) sb).2 3), .int .u64 (wd (tot ca sa (-cb) sb).2 4)] 125) (by kernel_rfl) (by kernel_rfl) (by kernel_rfl) (by kernel_rfl) rfl rfl (fun _ _ => ⟨rfl, rfl⟩) (by kernel_rfl) (by kernel_rfl) (by kernel_rfl) ?_
 iterate 2 (refine az (fun K hK => ?_); go_simp; refine hK _ ?_; clear hK K)
 refine az (fun K hK => ?_)
 go_simp
 apply Exists.intro
 refine ⟨fun xq => ?_, hK _ ?_⟩
 ·exact bU cb _ _ _ _ (IsD.self _) ib
 clear hK K
 refine az (fun K hK => ?_)
 go_simp
 apply Exists.intro
 refine ⟨fun xq => ?_, hK _ ?_⟩
 ·exact ga ca _ _ (-cb) _ _ sa sb _ (IsD.self _) (IsD.self _) ia (InR.neg ib) hsa hsb
 clear hK K
 iterate 3 (refine az (fun K hK => ?_); go_simp; refine hK _ ?_; clear hK K)
 refine cW ?_
 intro b hb
 refine ⟨⟨rfl, rfl, fun w2 hl hO => ⟨set6 w2 b (tot ca sa (-cb) sb).1 (tot ca sa (-cb) sb).2, ?_, dI hl hb _ _, nr hO _ _⟩⟩, ?_⟩
 ·have q := fun i => aT hO i
  have g := fun i => aV hO i
  go_simp
  rfl
 refine az (fun K hK => ?_)
 go_simp
 refine hK _ ?_
 clear hK K
 refine cW ?_
 intro w3 hl hO
 have q := fun i => aT hO i
 have hlt := dT hO
 have R := (show Dec3 _ (w.heap.size + 1 + 1) 0 0 0 by constructor <;> simp [go_sem]).keep (hl.block (w.heap.size + 1 + 1) (by rw [aZ]; simp <;> omega))
 obtain ⟨r0, r1, r2, f0, f1, f2⟩ := R
 have hb' : ¬ b = w.heap.size + 1 + 1 := by rw [aZ] at hb; simp at hb; omega
 have hb2 : w.heap.size + 1 + 1 < w3.heap.size := by rw [aZ] at hb; simp at hb; omega
 have bel0 : Below w.heap.size w w3 := Below.trans (b := _) (by repeat (first | exact Below.refl _ _ | refine Below.drew ?_ | refine below_drewN ?_ _ | refine ao ?_ _ | refine aA ?_ _ | (refine Below.setCell ?_ ?_ _; rotate_left; (simp <;> omega)))) (Below.mono hl (by rw [aZ]; simp <;> omega))
 clear hO hl hb

 go_wp2_with (go_at_call 59; refine (gN _ _ _ _ N5.out HR.out).mono ?_; rintro e w1 ⟨rfl, hb1⟩; obtain ⟨v, rfl⟩ := a9 hb1; clear hb1)
 refine bodyPost_ret (v := .tuple #[.agg #[.int .i64 (dhi (sv (tot ca sa (-cb) sb).1 (tot ca sa (-cb) sb).2)), .int .u64 (dlo (sv (tot ca sa (-cb) sb).1 (tot ca sa (-cb) sb).2)), .int .i64 ((max sa sb : Nat) : Int)], .int .i64 0]) (by simp [results, results163, go_sem, r0, r1, r2, hb2]) rfl ⟨rfl, ?_⟩
 refine aA ?_ _
 iterate 3 refine Below.setCell ?_ (by simp <;> omega) _
 exact bel0
theorem vD (ca ha la cb hb lb : Int) (sa sb : Nat) (w : World) (da : IsD ca ha la) (db : IsD cb hb lb) (ia : InR ca) (ib : InR cb) (hsa : (sa : Int) ≤ 18) (hsb : (sb : Int) ≤ 18) :
  Calls prog 36 #[.agg #[.int .i64 ha, .int .u64 la, .int .i64 sa], .agg #[.int .i64 hb, .int .u64 lb, .int .i64 sb]] w
   fun e w' => e = .returned (.tuple #[.int .i64 (sgn (sv (tot ca sa (-cb) sb).1 (tot ca sa (-cb) sb).2)), .int .i64 0]) ∧ Below w.heap.size w w' := by
 obtain ⟨rfl, rfl⟩ := da
 obtain ⟨rfl, rfl⟩ := db
 have n5 : (tot ca sa (-cb) sb).2 < B ^ 5 := mx _ _ _ _ ia (InR.neg ib) hsa hsb
 have N5 : Hid _ := n5
 clear n5
 go_enter func36, ntmps36
 go_wp2_with (go_at_call 57; refine (dZ ca _ _ cb _ _ sa sb _ (IsD.self _) (IsD.self _) ia ib hsa hsb).mono ?_; rintro e w1 ⟨rfl, hb1⟩; obtain ⟨x, rfl⟩ := a9 hb1; clear hb1)
 refine eX (done := #[true, true, true, true, true, true, true, false, false, false]) (all := #[true, true, true, true, true, true, true, true, true, true]) [0, 1, 2, 3, 4, 5, 6] [9] 7 8 _ _ (.cells #[.bool false, .int .u64 0, .int .u64 0, .int .u64 0, .int .u64 0, .int .u64 0] 125) (.cells #[.bool (tot ca sa (-cb) sb).1, .int .u64 (wd (tot ca sa (-cb) sb).2 0), .int .u64 (wd (tot ca sa (-cb) sb).2 1), .int .u64 (wd (tot ca sa (-cb) sb).2 2), .int .u64 (wd (tot ca sa (-cb) sb).2 3), .int .u64 (wd (tot ca sa (-cb) sb).2 4)] 125) (by kernel_rfl) (by kernel_rfl) (by kernel_rfl) (by kernel_rfl) rfl rfl (fun _ _ => ⟨rfl, rfl⟩) (by kernel_rfl) (by kernel_rfl) (by kernel_rfl) ?_
 iterate 2 (refine az (fun K hK => ?_); go_simp; refine hK _ ?_; clear hK K)
 refine az (fun K hK => ?_)
 go_simp
 apply Exists.intro
 refine ⟨fun xq => ?_, hK _ ?_⟩
 ·exact bU cb _ _ _ _ (IsD.self _) ib
 clear hK K
 refine az (fun K hK => ?_)
 go_simp
 apply Exists.intro
 refine ⟨fun xq => ?_, hK _ ?_⟩
 ·exact ga ca _ _ (-cb) _ _ sa sb _ (IsD.self _) (IsD.self _) ia (InR.neg ib) hsa hsb
 clear hK K
 iterate 3 (refine az (fun K hK => ?_); go_simp; refine hK _ ?_; clear hK K)
 refine cW ?_
 intro b hb
 refine ⟨⟨rfl, rfl, fun w2 hl hO => ⟨set6 w2 b (tot ca sa (-cb) sb).1 (tot ca sa (-cb) sb).2, ?_, dI hl hb _ _, nr hO _ _⟩⟩, ?_⟩
 ·have q := fun i => aT hO i
  have g := fun i => aV hO i
  go_simp
  rfl
 refine az (fun K hK => ?_)
 go_simp
 refine hK _ ?_
 clear hK K
 refine cW ?_
 intro w3 hl hO
 have q := fun i => aT hO i
 have hlt := dT hO
 have bel0 : Below w.heap.size w w3 := Below.trans (b := _) (by repeat (first | exact Below.refl _ _ | refine Below.drew ?_ | refine below_drewN ?_ _ | refine ao ?_ _ | refine aA ?_ _ | (refine Below.setCell ?_ ?_ _; rotate_left; (simp <;> omega)))) (Below.mono hl (by rw [aZ]; simp <;> omega))
 clear hO hl hb

 go_wp2_with (go_at_call 68; refine (fG _ _ _ N5.out).mono ?_; rintro e w1 ⟨rfl, hb1⟩; obtain ⟨v, rfl⟩ := a9 hb1; clear hb1)
 refine bodyPost_ret (v := .tuple #[.int .i64 (sgn (sv (tot ca sa (-cb) sb).1 (tot ca sa (-cb) sb).2)), .int .i64 0]) (by simp [results, results36, go_sem]) rfl ⟨rfl, ?_⟩
 exact aA bel0 _
end Go.Proofs.YtjkiplndbcmmbaaGreatDoor