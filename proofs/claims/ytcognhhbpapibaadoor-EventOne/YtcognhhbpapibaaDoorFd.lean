/- event: the walk of EventOne. -/
import Derived.Test.YtcognhhbpapibaaDoorFc
namespace Go.Proofs.YtcognhhbpapibaaDoor
open Go.RowKit
set_option linter.unusedVariables false

set_option maxHeartbeats 2000000 in
set_option maxRecDepth 100000 in
theorem one_walk (x y : E8) (tv tu mv : Value) (cut : Nat) (ms : List Nat) (w : World) (hx : x.ok) (hy : y.ok) (T : Tc w) (R : Tr w tv x.ts) (S : Tr w tu y.ts) (hc : cut ≤ 255) (M : Bs w mv ms) (hml : ms.length ≤ 140737488351232) :
    Calls Tryd.prog 5 #[.agg (x.cells tv).toArray, .agg (y.cells tu).toArray, .int .u8 cut, mv] w fun e w' => e = .returned (.bool true) ∧ Below w.heap.size w w' := by
  obtain ⟨b, hb⟩ : ∃ b : Bool, b = true ↔ x = y := by
    by_cases e : x = y
    · exact ⟨true, by simp [e]⟩
    · exact ⟨false, by simp [e]⟩
  have wx := R.wf
  have wy := S.wf
  obtain ⟨m, hm⟩ : ∃ m, m = ms.length := ⟨_, rfl⟩
  obtain ⟨ma, mc, rfl, hm1, hm2⟩ : ∃ a c, mv = .slice a m c ∧ m ≤ c ∧ c ≤ 9223372036854775807 := by obtain ⟨_, a, c, e, h1, h2, _⟩ := M; exact ⟨a, c, by rw [hm]; exact e, by rw [hm]; exact h1, h2⟩
  have HM := (show Hid _ from hm)
  rw [← hm] at hml
  have A := (va_new w (x.cells tv) 26).alloc (.cells (y.cells tu).toArray 26)
  have B := va_new (w.alloc (.cells (x.cells tv).toArray 26)) (y.cells tu) 26
  rw [World.size_alloc] at B
  have D := ((Below.refl w.heap.size w).alloc (Nat.le_refl _) (.cells (x.cells tv).toArray 26)).alloc (by simp) (.cells (y.cells tu).toArray 26)
  have hw0 := T.lt
  have HA := (show Hid _ from A)
  have HB := (show Hid _ from B)
  have HD := (show Hid _ from D)
  have HT := (show Hid _ from T)
  have HR := (show Hid _ from R)
  have HS := (show Hid _ from S)
  have HMS := (show Hid _ from M)
  have HX := (show Hid _ from hx)
  have HY := (show Hid _ from hy)
  have HE := (show Hid _ from hb)
  have HWX := (show Hid _ from wx)
  have HWY := (show Hid _ from wy)
  have lx := E8.len11 hx
  have ly := E8.len11 hy
  clear A B D T R S M hx hy hb wx wy hm
  go_enter Tryd.func5, Tryd.ntmps5
  go_wp2_with fail
  generalize (w.alloc (.cells (x.cells tv).toArray 26)).alloc (.cells (y.cells tu).toArray 26) = w1 at *
  refine (awake_ok _ (HT.out.step HD.out (by omega))).mono ?_
  rintro e w2 ⟨rfl, b2⟩
  have D2 := (show Hid _ from HD.out.trans (b2.mono HD.out.size))
  have A2 := (show Hid _ from HA.out.step b2)
  have B2 := (show Hid _ from HB.out.step b2)
  clear b2 HD HA HB
  go_wp2_with (first
    | (refine ldA rfl 26 _ rfl w.heap.size (by rfl) _ _ A2.out _ Tryd.underlying26 rfl (info26.trans (by rw [lx])) ?_)
    | (refine ldA rfl 26 _ rfl (w.heap.size + 1) (by rfl) _ _ B2.out _ Tryd.underlying26 rfl (info26.trans (by rw [ly])) ?_))
  refine (esame_any x y tv tu _ HX.out HY.out (HR.out.step D2.out) (HS.out.step D2.out) b HE.out).mono ?_
  rintro e w3 ⟨rfl, b3⟩
  have D3 := (show Hid _ from D2.out.trans (b3.mono D2.out.size))
  have A3 := (show Hid _ from A2.out.step b3)
  have B3 := (show Hid _ from B2.out.step b3)
  clear b3 D2 A2 B2
  go_wp2_with (first
    | (refine ldA rfl 26 _ rfl w.heap.size (by rfl) _ _ A3.out _ Tryd.underlying26 rfl (info26.trans (by rw [lx])) ?_)
    | (refine ldA rfl 26 _ rfl (w.heap.size + 1) (by rfl) _ _ B3.out _ Tryd.underlying26 rfl (info26.trans (by rw [ly])) ?_))
  refine (rsame_any x y tv tu _ HX.out HY.out (HR.out.step D3.out) (HS.out.step D3.out) b HE.out).mono ?_
  rintro e w4 ⟨rfl, b4⟩
  have D4 := (show Hid _ from D3.out.trans (b4.mono D3.out.size))
  have A4 := (show Hid _ from A3.out.step b4)
  have B4 := (show Hid _ from B3.out.step b4)
  clear b4 D3 A3 B3
  have hbb : (b != b) = false := by simp
  go_wp2_with (first
    | (refine ldAw (by rfl) 26 _ rfl w.heap.size (by rfl) _ _ A4.out _ Tryd.underlying26 rfl (info26.trans (by rw [lx])) ?_))
  refine (esame_any x x tv tv _ HX.out HX.out (HR.out.step D4.out) (HR.out.step D4.out) true (by simp)).mono ?_
  rintro e w5 ⟨rfl, b5⟩
  have D5 := (show Hid _ from D4.out.trans (b5.mono D4.out.size))
  have A5 := (show Hid _ from A4.out.step b5)
  have B5 := (show Hid _ from B4.out.step b5)
  clear b5 D4 A4 B4 hbb
  go_wp2_with (first
    | (refine ldA rfl 26 _ rfl w.heap.size (by rfl) _ _ A5.out _ Tryd.underlying26 rfl (info26.trans (by rw [lx])) ?_))
  by_cases fx : x.form
  rotate_left
  · refine (write_no x tv _ HX.out (HT.out.step D5.out (by omega)) (HR.out.step D5.out) fx).mono ?_
    rintro e w6 ⟨rfl, b6⟩
    have D6 := (show Hid _ from D5.out.trans (b6.mono D5.out.size))
    have B6 := (show Hid _ from B5.out.step b6)
    clear b6 D5 A5 B5
    go_wp2_with (first
      | (refine ldA rfl 26 _ rfl (w.heap.size + 1) (by rfl) _ _ B6.out _ Tryd.underlying26 rfl (info26.trans (by rw [ly])) ?_))
    by_cases fy : y.form
    · refine (write_yes y tu _ HY.out (HT.out.step D6.out (by omega)) (HS.out.step D6.out) fy).mono ?_
      rintro e w7 ⟨⟨u7, rfl, o7⟩, b7⟩
      have D7 := (show Hid _ from D6.out.trans (b7.mono D6.out.size))
      clear o7 b7
      go_wp2_with fail
      go_ret
      exact ⟨rfl, D7.out⟩
    · refine (write_no y tu _ HY.out (HT.out.step D6.out (by omega)) (HS.out.step D6.out) fy).mono ?_
      rintro e w7 ⟨rfl, b7⟩
      have D7 := (show Hid _ from D6.out.trans (b7.mono D6.out.size))
      clear b7
      go_wp2_with fail
      go_ret
      exact ⟨rfl, D7.out⟩
  refine (write_yes x tv _ HX.out (HT.out.step D5.out (by omega)) (HR.out.step D5.out) fx).mono ?_
  rintro e w6 ⟨⟨p, rfl, o6⟩, b6⟩
  have D6 := (show Hid _ from D5.out.trans (b6.mono D5.out.size))
  have B6 := (show Hid _ from B5.out.step b6)
  have P6 := (show Hid _ from o6.bs)
  have GX : Hid x.good := ⟨HX.out, fx, HWX.out⟩
  clear b6 D5 A5 B5 o6 fx
  go_wp2_with (first
    | (refine ldA rfl 26 _ rfl (w.heap.size + 1) (by rfl) _ _ B6.out _ Tryd.underlying26 rfl (info26.trans (by rw [ly])) ?_))
  by_cases fy : y.form
  rotate_left
  · refine (write_no y tu _ HY.out (HT.out.step D6.out (by omega)) (HS.out.step D6.out) fy).mono ?_
    rintro e w7 ⟨rfl, b7⟩
    have D7 := (show Hid _ from D6.out.trans (b7.mono D6.out.size))
    clear b7
    go_wp2_with fail
    go_ret
    exact ⟨rfl, D7.out⟩
  refine (write_yes y tu _ HY.out (HT.out.step D6.out (by omega)) (HS.out.step D6.out) fy).mono ?_
  rintro e w7 ⟨⟨q, rfl, o7⟩, b7⟩
  have D7 := (show Hid _ from D6.out.trans (b7.mono D6.out.size))
  have P7 := (show Hid _ from P6.out.step b7)
  have Q7 := (show Hid _ from o7.bs)
  have GY : Hid y.good := ⟨HY.out, fy, HWY.out⟩
  clear b7 D6 B6 P6 o7 fy
  go_wp2_with fail
  refine (same_ok _ _ _ _ _ P7.out Q7.out).mono ?_
  rintro e w8 ⟨rfl, b8⟩
  have hdec : decide (x.bytes = y.bytes) = b := by
    by_cases e : x = y
    · rw [decide_eq_true ((bytes_iff GX.out GY.out).2 e)]; exact (HE.out.2 e).symm
    · rw [decide_eq_false (fun h => e ((bytes_iff GX.out GY.out).1 h))]; exact (Bool.eq_false_iff.2 (fun h => e (HE.out.1 h))).symm
  rw [hdec]
  have D8 := (show Hid _ from D7.out.trans (b8.mono D7.out.size))
  have P8 := (show Hid _ from P7.out.step b8)
  clear b8 D7 P7 Q7 hdec
  have hbb : (b != b) = false := by simp
  obtain ⟨bl1, bl2⟩ := bytes_len HX.out GX.out.form HWX.out
  obtain ⟨L, hL⟩ : ∃ L, L = x.bytes.length := ⟨_, rfl⟩
  have HL := (show Hid _ from hL)
  obtain ⟨pa, pc, rfl, hp1, hp2⟩ : ∃ a c, p = .slice a L c ∧ L ≤ c ∧ c ≤ 9223372036854775807 := by obtain ⟨_, a, c, e, h1, h2, _⟩ := P8.out; exact ⟨a, c, by rw [hL]; exact e, by rw [hL]; exact h1, h2⟩
  rw [← hL] at bl1 bl2
  obtain ⟨k, hk⟩ : ∃ k, k = cut % L := ⟨_, rfl⟩
  have hkL : k < L := by rw [hk]; exact Nat.mod_lt _ (by omega)
  have e1 : (cut : Int).tmod (L : Int) = (k : Int) := by rw [hk, Int.tmod_eq_emod_of_nonneg (by omega)]; rfl
  have e2 : ((L : Int) == 0) = false := by
    have : ¬ ((L : Int) = 0) := by omega
    simpa using this
  clear hL hk
  go_wp2_with fail
  have C8 := (show Hid _ from P8.out.cut k (by rw [← HL.out]; omega))
  refine (read_no _ _ _ (HT.out.step D8.out (by omega)) C8.out (by rw [List.length_take]; omega) (fun z hz => bytes_cut GX.out hz (by rw [← HL.out]; exact hkL))).mono ?_
  rintro e w9 ⟨rfl, b9⟩
  have D9 := (show Hid _ from D8.out.trans (b9.mono D8.out.size))
  have P9 := (show Hid _ from P8.out.step b9)
  clear b9 D8 P8 C8
  by_cases hm0 : m = 0
  · subst hm0
    go_wp2_with (first
      | (refine stA rfl 26 _ _ rfl w9.heap.size (by rfl) (E8.cells ⟨0, 0, List.replicate 8 0, []⟩ (.slice none 0 0)) (E8.cells ⟨0, 0, List.replicate 8 0, []⟩ (.slice none 0 0)) (by rfl) 26 (va_new w9 (E8.cells ⟨0, 0, List.replicate 8 0, []⟩ (.slice none 0 0)) 26) (info26.trans rfl) rfl (fun u hu => ev_one hu) ?_; intro w10 V10 U10))
    have b10 := U10.bel ((Below.refl w9.heap.size w9).alloc (Nat.le_refl _) (.cells (E8.cells ⟨0, 0, List.replicate 8 0, []⟩ (.slice none 0 0)).toArray 26)) (Nat.le_refl _)
    have D10 := (show Hid _ from D9.out.trans (b10.mono D9.out.size))
    go_ret
    exact ⟨rfl, D10.out⟩
  have hm0' : ((m : Int) == 0) = false := by
    have : ¬ ((m : Int) = 0) := by omega
    simpa using this
  by_cases hbig : 4096 < L + m
  · have d1 : (4096 : Int) < (L : Int) + (m : Int) := by omega
    go_wp2_with (first
      | (refine stA rfl 26 _ _ rfl w9.heap.size (by rfl) (E8.cells ⟨0, 0, List.replicate 8 0, []⟩ (.slice none 0 0)) (E8.cells ⟨0, 0, List.replicate 8 0, []⟩ (.slice none 0 0)) (by rfl) 26 (va_new w9 (E8.cells ⟨0, 0, List.replicate 8 0, []⟩ (.slice none 0 0)) 26) (info26.trans rfl) rfl (fun u hu => ev_one hu) ?_; intro w10 V10 U10))
    have b10 := U10.bel ((Below.refl w9.heap.size w9).alloc (Nat.le_refl _) (.cells (E8.cells ⟨0, 0, List.replicate 8 0, []⟩ (.slice none 0 0)).toArray 26)) (Nat.le_refl _)
    have D10 := (show Hid _ from D9.out.trans (b10.mono D9.out.size))
    go_ret
    exact ⟨rfl, D10.out⟩
  · have d1 : ((4096 : Int) < (L : Int) + (m : Int)) = False := by simp; omega
    go_wp2_with (first
      | (refine stA rfl 26 _ _ rfl w9.heap.size (by rfl) (E8.cells ⟨0, 0, List.replicate 8 0, []⟩ (.slice none 0 0)) (E8.cells ⟨0, 0, List.replicate 8 0, []⟩ (.slice none 0 0)) (by rfl) 26 (va_new w9 (E8.cells ⟨0, 0, List.replicate 8 0, []⟩ (.slice none 0 0)) 26) (info26.trans rfl) rfl (fun u hu => ev_one hu) ?_; intro w10 V10 U10))
    have b10 := U10.bel ((Below.refl w9.heap.size w9).alloc (Nat.le_refl _) (.cells (E8.cells ⟨0, 0, List.replicate 8 0, []⟩ (.slice none 0 0)).toArray 26)) (Nat.le_refl _)
    have D10 := (show Hid _ from D9.out.trans (b10.mono D9.out.size))
    have P10 := (show Hid _ from P9.out.step b10)
    clear b10 V10 U10 D9 P9 d1 hm0' e1 e2
    refine (twin_ok _ _ _ P10.out (by rw [← HL.out]; omega)).mono ?_
    rintro e w11 ⟨⟨t, rfl, o11⟩, b11⟩
    have D11 := (show Hid _ from D10.out.trans (b11.mono D10.out.size))
    have O11 := (show Hid _ from o11)
    have M11 := (show Hid _ from HMS.out.step D11.out)
    have sz := b11.size
    clear o11 b11 P10
    go_wp2_with (at_builtin; refine appB rfl _ _ rfl w10.heap.size x.bytes ms _ _ (by rfl) (by rfl) O11.out M11.out sz (by rw [← HL.out, ← HM.out]; omega) ?_; intro t2 w12 o12 b12)
    have D12 := (show Hid _ from D11.out.trans (b12.mono D10.out.size))
    have O12 := (show Hid _ from o12.bs)
    clear o12 b12 O11 M11 sz
    refine (read_no _ _ _ (HT.out.step D12.out (by omega)) O12.out (by rw [List.length_append, ← HL.out, ← HM.out]; omega) (fun z hz => bytes_more GX.out hz (fun e => hm0 (by rw [HM.out, e]; rfl)))).mono ?_
    rintro e w13 ⟨rfl, b13⟩
    have D13 := (show Hid _ from D12.out.trans (b13.mono D12.out.size))
    clear b13 D12 O12 D11 D10
    go_wp2_with (first
      | (refine stA rfl 26 _ _ rfl w13.heap.size (by rfl) (E8.cells ⟨0, 0, List.replicate 8 0, []⟩ (.slice none 0 0)) (E8.cells ⟨0, 0, List.replicate 8 0, []⟩ (.slice none 0 0)) (by rfl) 26 (va_new w13 (E8.cells ⟨0, 0, List.replicate 8 0, []⟩ (.slice none 0 0)) 26) (info26.trans rfl) rfl (fun u hu => ev_one hu) ?_; intro w14 V14 U14))
    have b14 := U14.bel ((Below.refl w13.heap.size w13).alloc (Nat.le_refl _) (.cells (E8.cells ⟨0, 0, List.replicate 8 0, []⟩ (.slice none 0 0)).toArray 26)) (Nat.le_refl _)
    go_ret
    exact ⟨rfl, D13.out.trans (b14.mono D13.out.size)⟩
end Go.Proofs.YtcognhhbpapibaaDoor
