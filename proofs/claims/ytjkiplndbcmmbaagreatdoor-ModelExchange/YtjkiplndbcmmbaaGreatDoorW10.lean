/- texts of the model: Wj Wk -/
import Derived.Test.YtjkiplndbcmmbaaGreatDoorW09
import Derived.Test.YtjkiplndbcmmbaaGreatDoorW08
import Derived.Test.YtjkiplndbcmmbaaGreatDoorW02
set_option linter.unusedVariables false
set_option linter.unusedSimpArgs false
set_option maxHeartbeats 16000000
set_option maxRecDepth 100000
namespace Go.Proofs.YtjkiplndbcmmbaaGreatDoor
open Tryz
open Go.RowKit
attribute [local go_sem] ap ai ar af ae ag aD av ax ay aN aO aP aQ aR
theorem jq (m d : Nat) (a0 a1 a2 a3 a4 b0 b1 b2 b3 b4 : Int) (w : World) (ha : IsW m a0 a1 a2 a3 a4) (hb : IsW d b0 b1 b2 b3 b4) (hm : m < B ^ 5) (hd : 0 < d) (hdB : d < B) :
  Calls prog 100 #[.agg #[.int .u64 a0, .int .u64 a1, .int .u64 a2, .int .u64 a3, .int .u64 a4], .agg #[.int .u64 b0, .int .u64 b1, .int .u64 b2, .int .u64 b3, .int .u64 b4]] w
   fun e w' => e = .returned (.tuple #[.agg #[.int .u64 (wd (m / d) 0), .int .u64 (wd (m / d) 1), .int .u64 (wd (m / d) 2), .int .u64 (wd (m / d) 3), .int .u64 (wd (m / d) 4)], .agg #[.int .u64 (wd (m % d) 0), .int .u64 (wd (m % d) 1), .int .u64 (wd (m % d) 2), .int .u64 (wd (m % d) 3), .int .u64 (wd (m % d) 4)]]) ∧ Below w.heap.size w w' := by
 obtain ⟨rfl, rfl, rfl, rfl, rfl⟩ := ha
 obtain ⟨rfl, rfl, rfl, rfl, rfl⟩ := hb
 have hbl : (bl d : Int) ≤ 64 := by have := (cH d 64).2 hdB; omega
 have hd5 : d < B ^ 5 := Nat.lt_of_lt_of_le hdB (by decide)
 have HW : Hid (∀ w : World, Calls prog 149 #[.agg #[.int .u64 (wd (m) 0), .int .u64 (wd (m) 1), .int .u64 (wd (m) 2), .int .u64 (wd (m) 3), .int .u64 (wd (m) 4)], .int .u64 (wd d 0)] w fun e w' => e = .returned (.tuple #[.agg #[.int .u64 (wd (m / d) 0), .int .u64 (wd (m / d) 1), .int .u64 (wd (m / d) 2), .int .u64 (wd (m / d) 3), .int .u64 (wd (m / d) 4)], .agg #[.int .u64 (wd (m % d) 0), .int .u64 (wd (m % d) 1), .int .u64 (wd (m % d) 2), .int .u64 (wd (m % d) 3), .int .u64 (wd (m % d) 4)]]) ∧ Below w.heap.size w w') := by
  intro w
  rw [mA d hdB]
  exact kn m d _ _ _ _ _ _ (IsW.self _) hd hdB hm
 go_enter func100, ntmps100
 go_wp2_with (first | (go_at_call 94; refine (dS d _ _ _ _ _ _ (IsW.self _) hd5).mono ?_; rintro e w1 ⟨rfl, hb1⟩; obtain ⟨x, rfl⟩ := a9 hb1; clear hb1) | (go_at_call 149; refine (HW.out _).mono ?_; rintro e w1 ⟨rfl, hb1⟩; obtain ⟨y, rfl⟩ := a9 hb1; clear hb1))
 refine bodyPost_ret (v := .tuple #[.agg #[.int .u64 (wd (m / d) 0), .int .u64 (wd (m / d) 1), .int .u64 (wd (m / d) 2), .int .u64 (wd (m / d) 3), .int .u64 (wd (m / d) 4)], .agg #[.int .u64 (wd (m % d) 0), .int .u64 (wd (m % d) 1), .int .u64 (wd (m % d) 2), .int .u64 (wd (m % d) 3), .int .u64 (wd (m % d) 4)]]) (by simp [results, results100, go_sem]) rfl ⟨rfl, ?_⟩
 exact bl_
theorem Row5.word {w : World} {b M M' j : Nat} (h : Row5 w b 0 M) (hj : j < 5) (he : ∀ i, i ≠ j → wd M' i = wd M i) : Row5 (w.setCell ⟨b, j, none⟩ (.int .u64 (wd M' j))) b 0 M' := by
 have hc : ∀ i, i < 5 → (w.setCell ⟨b, j, none⟩ (.int .u64 (wd M' j))).cell? ⟨b, i, none⟩ = some (.int .u64 (wd M' i)) := by
  intro i hi
  by_cases c : i = j
  ·subst c; exact World.cell?_setCell_same _ _ _ (h.nth i hi)
  ·rw [World.cell?_setCell_other _ _ _ _ (eC (Ne.symm c)), he i c]; exact h.nth i hi
 have hf : ∀ i, i < 5 → (w.setCell ⟨b, j, none⟩ (.int .u64 (wd M' j))).frozen? ⟨b, i, none⟩ = false := by
  intro i hi; rw [World.frozen?_setCell]; exact h.nthf i hi
 exact ⟨hc 0 (by decide), hc 1 (by decide), hc 2 (by decide), hc 3 (by decide), hc 4 (by decide), hf 0 (by decide), hf 1 (by decide), hf 2 (by decide), hf 3 (by decide), hf 4 (by decide)⟩
structure Six (w wr : World) (q m d Q R : Nat) : Prop where
 r0 : Row5 wr w.heap.size 0 m
 r1 : Row5 wr (w.heap.size + 1) 0 d
 r2 : Row5 wr (w.heap.size + 1 + 1) 0 0
 r3 : Row5 wr (w.heap.size + 1 + 1 + 1) 0 0
 r4 : Row5 wr q 0 Q
 r5 : Row5 wr (q + 1) 0 R
 lo : w.heap.size + 1 + 1 + 1 < q
 hi : q + 1 < wr.heap.size
 bel : Below w.heap.size w wr
theorem Six.below {w wr w' : World} {q m d Q R : Nat} (h : Six w wr q m d Q R) (hb : Below wr.heap.size wr w') : Six w w' q m d Q R := by
 obtain ⟨r0, r1, r2, r3, r4, r5, lo, hi, bel⟩ := h
 have := hb.size
 exact ⟨r0.below hb (by omega), r1.below hb (by omega), r2.below hb (by omega), r3.below hb (by omega), r4.below hb (by omega), r5.below hb (by omega), lo, by omega, bel.trans (hb.mono (by omega))⟩
theorem Six.ext {w wr : World} {q m d Q R : Nat} (h : Six w wr q m d Q R) (x : World) : Six w (ext wr x) q m d Q R := h.below (cA (Below.refl _ _) (Nat.le_refl _) x)
theorem Six.rest {w wr : World} {q m d Q R : Nat} (h : Six w wr q m d Q R) (R' : Nat) : Six w (set5 wr (q + 1) 0 R') q m d Q R' := by
 obtain ⟨r0, r1, r2, r3, r4, r5, lo, hi, bel⟩ := h
 exact ⟨r0.laid_other (by omega) 0 _, r1.laid_other (by omega) 0 _, r2.laid_other (by omega) 0 _, r3.laid_other (by omega) 0 _, r4.laid_other (by omega) 0 _, r5.laid _, lo, by rw [fY]; exact hi, cG bel (by omega) 0 _⟩
theorem Six.quo {w wr : World} {q m d Q R Q' j : Nat} (h : Six w wr q m d Q R) (hj : j < 5) (he : ∀ i, i ≠ j → wd Q' i = wd Q i) : Six w (wr.setCell ⟨q, j, none⟩ (.int .u64 (wd Q' j))) q m d Q' R := by
 obtain ⟨r0, r1, r2, r3, r4, r5, lo, hi, bel⟩ := h
 exact ⟨r0.setCell (by simp <;> omega) _, r1.setCell (by simp <;> omega) _, r2.setCell (by simp <;> omega) _, r3.setCell (by simp <;> omega) _, r4.word hj he, r5.setCell (by simp <;> omega) _, lo, by rw [World.size_setCell]; exact hi, bel.setCell (by simp <;> omega) _⟩
theorem Six.congr {w wr : World} {q m d Q R Q' R' : Nat} (h : Six w wr q m d Q R) (e1 : Q = Q') (e2 : R = R') : Six w wr q m d Q' R' := e1 ▸ e2 ▸ h
theorem jp (m d : Nat) (w : World) (hm : m < B ^ 5) (hd : B ≤ d) (hd5 : 2 * d ≤ B ^ 5) :
  Calls prog 100 #[.agg #[.int .u64 (wd (m) 0), .int .u64 (wd (m) 1), .int .u64 (wd (m) 2), .int .u64 (wd (m) 3), .int .u64 (wd (m) 4)], .agg #[.int .u64 (wd (d) 0), .int .u64 (wd (d) 1), .int .u64 (wd (d) 2), .int .u64 (wd (d) 3), .int .u64 (wd (d) 4)]] w
   fun e w' => e = .returned (.tuple #[.agg #[.int .u64 (wd (m / d) 0), .int .u64 (wd (m / d) 1), .int .u64 (wd (m / d) 2), .int .u64 (wd (m / d) 3), .int .u64 (wd (m / d) 4)], .agg #[.int .u64 (wd (m % d) 0), .int .u64 (wd (m % d) 1), .int .u64 (wd (m % d) 2), .int .u64 (wd (m % d) 3), .int .u64 (wd (m % d) 4)]]) ∧ Below w.heap.size w w' := by
 have hbl : (64 : Int) < (bl d : Int) := by
  rcases Nat.lt_or_ge 64 (bl d) with c | c
  ·omega
  ·have := (cH d 64).1 c; rw [dO] at hd; omega
 have dpos : 0 < d := Nat.lt_of_lt_of_le bi hd
 have hd6 : d < B ^ 5 := by have := Nat.lt_of_lt_of_le bi hd; omega
 have hbm : (bl m : Int) ≤ 320 := by have := sH hm; omega
 go_enter func100, ntmps100
 go_wp2_with fail
 refine (dS d _ _ _ _ _ _ (IsW.self _) hd6).mono ?_
 rintro e w1 ⟨rfl, hb1⟩
 have z1 : w.heap.size + 1 + 1 + 1 < w1.heap.size := by have := hb1.size; simp at this; omega
 have S0 : Row5 w1 w.heap.size 0 m := Row5.below (by constructor <;> simp [go_sem]) hb1 (by simp <;> omega)
 have S1 : Row5 w1 (w.heap.size + 1) 0 d := Row5.below (by constructor <;> simp [go_sem]) hb1 (by simp <;> omega)
 have S2 : Row5 w1 (w.heap.size + 1 + 1) 0 0 := Row5.below (by constructor <;> simp [go_sem, aG]) hb1 (by simp)
 have S3 : Row5 w1 (w.heap.size + 1 + 1 + 1) 0 0 := Row5.below (by constructor <;> simp [go_sem, aG]) hb1 (by simp)
 have L1 : Below w.heap.size w w1 := Below.trans (by repeat (first | exact Below.refl _ _ | refine Below.drew ?_ | refine below_drewN ?_ _ | refine ao ?_ _ | refine aA ?_ _ | (refine Below.setCell ?_ ?_ _; rotate_left; (simp <;> omega)))) (hb1.mono (by simp <;> omega))
 clear hb1
 have z0 : w.heap.size < w1.heap.size := by omega
 obtain ⟨c0, c1, c2, c3, c4, -, -, -, -, -⟩ := S0.zero
 go_wp2_with fail
 refine (dS m _ _ _ _ _ _ (IsW.self _) hm).mono ?_
 rintro e w2 ⟨rfl, hb2⟩
 have z2 : w1.heap.size + 1 < w2.heap.size := by have := hb2.size; simp at this; omega
 have G : Six w w2 w1.heap.size m d (m / 2 ^ bl m / d * 2 ^ bl m) (m / 2 ^ bl m % d) := by
  have K : ∀ {b n : Nat}, Row5 w1 b 0 n → b < w1.heap.size → Row5 w2 b 0 n := fun h hb => by
   refine Row5.below (k := w1.heap.size) h ?_ hb
   refine Below.trans ?_ (hb2.mono (by simp <;> omega))
   exact bl_
  have e0 : m / 2 ^ bl m = 0 := Nat.div_eq_of_lt ((cH m _).1 (Nat.le_refl _))
  refine ⟨K S0 z0, K S1 (by omega), K S2 (by omega), K S3 z1, ?_, ?_, z1, z2, ?_⟩
  ·rw [e0, Nat.zero_div, Nat.zero_mul]
   exact Row5.below (by constructor <;> simp [go_sem, aG]) hb2 (by simp <;> omega)
  ·rw [e0, Nat.zero_mod]
   exact Row5.below (by constructor <;> simp [go_sem, aG]) hb2 (by simp <;> omega)
  ·refine L1.trans (Below.trans ?_ (hb2.mono (by simp <;> omega)))
   refine (Below.alloc (Below.alloc (Below.refl _ _) (by omega) _) (by simp <;> omega) _)
 clear hb2 S0 S1 S2 S3 L1 c0 c1 c2 c3 c4 z0 z1 z2
 generalize w1.heap.size = q at *
 go_wp2
 go_loopw [8] (fun i wr => ∃ (k : Nat) (z : Int), (k : Int) ≤ 320 ∧ Hid (z + 1 = k) ∧ i = .int .i64 z ∧ Six w wr q m d (m / 2 ^ k / d * 2 ^ k) (m / 2 ^ k % d)) (fun i _ => (intOf i + 1).toNat)
 case atStart => exact ⟨bl m, _, hbm, by show (bl m : Int) - 1 + 1 = bl m; omega, rfl, G⟩
 case round =>
  clear G
  obtain ⟨k1, z, hk, hkz, rfl, S⟩ := hrel
  have hk1 := hkz.out
  clear hkz
  by_cases hz0 : 0 ≤ z
  ·obtain ⟨k, rfl⟩ := Int.eq_ofNat_of_zero_le hz0
   obtain rfl : k1 = k + 1 := by omega
   clear hk1 hz0
   obtain ⟨j, hj⟩ : ∃ j, j = k / 64 := ⟨_, rfl⟩
   obtain ⟨t, ht⟩ : ∃ t, t = k % 64 := ⟨_, rfl⟩
   have ej : (k : Int) / 64 = (j : Int) := by omega
   have et : (k : Int) % 64 = (t : Int) := by omega
   have hj5 : (j : Int) < 5 := by omega
   have ht64 : (t : Int) < 64 := by omega
   have Hk : Hid (k = 64 * j + t) := by show k = 64 * j + t; omega
   clear hj ht
   obtain ⟨a0, a1, a2, a3, a4, f0, f1, f2, f3, f4⟩ := S.r5.zero
   have b0 := S.r0.nth j (by omega)
   have eb : bits .and .u64 (wd m j / 2 ^ t) 1 = ((m / 2 ^ k % 2 : Nat) : Int) := by rw [Hk.out]; exact kd m j t (by omega)
   have HS : Hid _ := r9 (a := m) (d := d) (k := k) dpos
   have hR : m / 2 ^ (k + 1) % d < d := Nat.mod_lt _ dpos
   have hbt : m / 2 ^ k % 2 ≤ 1 := by omega
   generalize m / 2 ^ k % 2 = bt at *
   generalize m / 2 ^ (k + 1) % d = R at *
   have HR : Hid (2 * R + bt < B ^ 5) := by show 2 * R + bt < B ^ 5; omega
   have q0 : w.heap.size < wr.heap.size := by have := S.lo; have := S.hi; omega
   have q1 : q + 1 < wr.heap.size := S.hi
   have q2 : w.heap.size + 1 < wr.heap.size := by have := S.lo; omega
   have q3 : w.heap.size + 1 ≠ q + 1 := by have := S.lo; omega
   obtain ⟨d0, d1, d2, d3, d4, -, -, -, -, -⟩ := S.r1.zero
   go_wp2
   refine aX 8 (by kernel_rfl) (by kernel_rfl) ?_
   iterate 8 (refine wpQuiet_step (fun K hK => ?_); go_simp; first | (refine hK _ ?_; clear hK K) | (apply Exists.intro; refine ⟨fun xq => ?_, hK _ ?_⟩; (go_at_call 150; exact aJ (oV R bt _ _ _ _ _ _ (IsW.self _) hbt)); clear hK K))
   refine wpQuiet_nil ?_
   intro xq
   simp only [List.drop_succ_cons, List.drop_zero]
   go_wp2_with fail
   have S2 := (S.rest (2 * R + bt)).ext xq
   refine (bL (2 * R + bt) d _ _ _ _ _ _ _ _ _ _ _ (IsW.self _) (IsW.self _) HR.out hd6).mono ?_
   rintro e w4 ⟨rfl, hb4⟩
   have S4 := S2.below hb4
   clear S S2 hb4 a0 a1 a2 a3 a4 f0 f1 f2 f3 f4 b0 eb q0 q1 q2 q3 d0 d1 d2 d3 d4
   by_cases c : 2 * R + bt < d
   ·have hdec : decide (2 * R + bt < d) = true := by simp [c]
    go_wp2
    go_roundw
    case rel =>
     obtain ⟨e1, e2⟩ := HS.out.1 c
     refine ⟨k, (k : Int) - 1, by omega, by show (k : Int) - 1 + 1 = k; omega, rfl, S4.congr ?_ e2.symm⟩
     rw [e1, ix]
    case measure => simp [intOf]
   ·have hdec : decide (2 * R + bt < d) = false := by simp [c]
    obtain ⟨a0, a1, a2, a3, a4, -, -, -, -, -⟩ := S4.r5.zero
    obtain ⟨d0, d1, d2, d3, d4, -, -, -, -, -⟩ := S4.r1.zero
    go_wp2_with fail
    refine (fS (2 * R + bt) d _ _ _ _ _ _ _ _ _ _ _ (IsW.self _) (IsW.self _) (by omega)).mono ?_
    rintro e w5 ⟨rfl, hb5⟩
    have S5 := S4.below hb5
    clear S4 hb5 a0 a1 a2 a3 a4 d0 d1 d2 d3 d4
    obtain ⟨a0, a1, a2, a3, a4, f0, f1, f2, f3, f4⟩ := S5.r5.zero
    have b0 := S5.r4.nth j (by omega)
    have g0 := S5.r4.nthf j (by omega)
    have q0 : q < w5.heap.size := by have := S5.hi; omega
    go_wp2
    refine aX 7 (by kernel_rfl) (by kernel_rfl) ?_
    iterate 7 (refine wpQuiet_step (fun K hK => ?_); go_simp; first | (refine hK _ ?_; clear hK K) | (apply Exists.intro; refine ⟨fun xq => ?_, hK _ ?_⟩; (fail); clear hK K))
    refine wpQuiet_nil ?_
    intro xq
    simp only [List.drop_succ_cons, List.drop_zero]
    go_wp2
    go_roundw
    case rel =>
     obtain ⟨e1, e2⟩ := HS.out.2 (by omega)
     obtain ⟨l1, l2⟩ := pE (m / 2 ^ (k + 1) / d) k j t Hk.out (by omega)
     rw [l1]
     refine ⟨k, (k : Int) - 1, by omega, by show (k : Int) - 1 + 1 = k; omega, rfl, (((S5.rest (2 * R + bt - d)).quo (by omega) l2).ext xq).congr ?_ e2.symm⟩
     rw [e1, ix, Nat.add_mul, Nat.one_mul]
    case measure => simp [intOf]
  ·obtain rfl : k1 = 0 := by omega
   clear hk1
   rw [Nat.pow_zero, Nat.div_one, Nat.mul_one] at S
   obtain ⟨a0, a1, a2, a3, a4, -, -, -, -, -⟩ := S.r4.zero
   obtain ⟨b0, b1, b2, b3, b4, -, -, -, -, -⟩ := S.r5.zero
   obtain ⟨c0, c1, c2, c3, c4, f0, f1, f2, f3, f4⟩ := S.r2.zero
   obtain ⟨d0, d1, d2, d3, d4, g0, g1, g2, g3, g4⟩ := S.r3.zero
   have q0 : w.heap.size + 1 + 1 < wr.heap.size := by have := S.lo; have := S.hi; omega
   have q1 : w.heap.size + 1 + 1 + 1 < wr.heap.size := by have := S.lo; have := S.hi; omega
   have q2 : q < wr.heap.size := by have := S.hi; omega
   have q3 : q + 1 < wr.heap.size := S.hi
   have L := S.bel
   have q4 : w.heap.size < wr.heap.size := by omega
   have n1 : ¬ w.heap.size + 1 = q := by have := S.lo; omega
   have n2 : ¬ w.heap.size + 1 + 1 = q := by have := S.lo; omega
   have n3 : ¬ w.heap.size + 1 + 1 + 1 = q := by have := S.lo; omega
   clear S
   go_wp2
   go_region
   go_wp2
   refine bodyPost_ret (v := .tuple #[.agg #[.int .u64 (wd (m / d) 0), .int .u64 (wd (m / d) 1), .int .u64 (wd (m / d) 2), .int .u64 (wd (m / d) 3), .int .u64 (wd (m / d) 4)], .agg #[.int .u64 (wd (m % d) 0), .int .u64 (wd (m % d) 1), .int .u64 (wd (m % d) 2), .int .u64 (wd (m % d) 3), .int .u64 (wd (m % d) 4)]]) (by simp [results, results100, go_sem, c0, c1, c2, c3, c4, d0, d1, d2, d3, d4]) rfl ⟨rfl, ?_⟩
   refine Below.drew ?_
   iterate 10 refine Below.setCell ?_ (by simp <;> omega) _
   exact L
theorem cO (m d : Nat) (a0 a1 a2 a3 a4 b0 b1 b2 b3 b4 : Int) (w : World) (ha : IsW m a0 a1 a2 a3 a4) (hb : IsW d b0 b1 b2 b3 b4) (hm : m < B ^ 5) (hd : 0 < d) (hd5 : 2 * d ≤ B ^ 5) :
  Calls prog 100 #[.agg #[.int .u64 a0, .int .u64 a1, .int .u64 a2, .int .u64 a3, .int .u64 a4], .agg #[.int .u64 b0, .int .u64 b1, .int .u64 b2, .int .u64 b3, .int .u64 b4]] w
   fun e w' => e = .returned (.tuple #[.agg #[.int .u64 (wd (m / d) 0), .int .u64 (wd (m / d) 1), .int .u64 (wd (m / d) 2), .int .u64 (wd (m / d) 3), .int .u64 (wd (m / d) 4)], .agg #[.int .u64 (wd (m % d) 0), .int .u64 (wd (m % d) 1), .int .u64 (wd (m % d) 2), .int .u64 (wd (m % d) 3), .int .u64 (wd (m % d) 4)]]) ∧ Below w.heap.size w w' := by
 rcases Nat.lt_or_ge d B with c | c
 ·exact jq m d _ _ _ _ _ _ _ _ _ _ w ha hb hm hd c
 ·obtain ⟨rfl, rfl, rfl, rfl, rfl⟩ := ha
  obtain ⟨rfl, rfl, rfl, rfl, rfl⟩ := hb
  exact jp m d w hm c hd5
end Go.Proofs.YtjkiplndbcmmbaaGreatDoor