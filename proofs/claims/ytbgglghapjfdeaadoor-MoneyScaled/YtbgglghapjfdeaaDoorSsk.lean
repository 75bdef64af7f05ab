/- money: total, shares. -/
import Derived.Test.YtbgglghapjfdeaaDoorSsj
import Derived.Test.YtbgglghapjfdeaaDoorM5
namespace Go.Proofs.YtbgglghapjfdeaaDoor
open Go.RowKit
set_option linter.unusedVariables false

/-- the slice v holds the weights W, n of them -/
structure Wts (w : World) (v : Value) (n : Nat) (W : Nat → Nat) : Prop where
  form : ∃ a c, v = .slice a n c ∧ (0 < n → ∃ b off, a = some ⟨b, off, none⟩ ∧ b < w.heap.size ∧ ∀ k, k < n → w.cell? ⟨b, off + k, none⟩ = some (.int .i64 (W k : Int)))
theorem Wts.step {w w' : World} {v : Value} {n : Nat} {W : Nat → Nat} (h : Wts w v n W) (k : Below w.heap.size w w') : Wts w' v n W := by
  obtain ⟨a, c, e, h3⟩ := h
  refine ⟨a, c, e, fun h0 => ?_⟩
  obtain ⟨b, off, e, hb, hx⟩ := h3 h0
  exact ⟨b, off, e, Nat.lt_of_lt_of_le hb k.size, fun j hj => (k.cell (p := ⟨b, off + j, none⟩) hb).trans (hx j hj)⟩
theorem Is.wts {w : World} {v : Value} {zs : List Int} {W : Nat → Nat} (h : Is w v zs) (hW : ∀ i, i < zs.length → zs.getD i 0 = (W i : Int)) : Wts w v zs.length W := by
  obtain ⟨a, c, e, h1, h2, h3⟩ := h
  refine ⟨a, c, e, fun h0 => ?_⟩
  obtain ⟨b, off, e, hb, hx⟩ := h3 h0
  exact ⟨b, off, e, hb, fun k hk => by rw [hx k hk, hW k hk]⟩
set_option maxHeartbeats 1000000 in
theorem total_ok (n : Nat) (W : Nat → Nat) (v : Value) (w : World) (I : Wts w v n W) (hn : n ≤ 64) (hb : ∀ i, i < n → W i ≤ 1000000000) : Calls Tryd.prog 29 #[v] w fun e w' => e = .returned (.int .u64 (sm W n : Int)) ∧ w' = w := by
  obtain ⟨a, c, rfl, h3⟩ := I
  have HB := (show Hid _ from hb)
  have H3 := (show Hid _ from h3)
  clear hb h3
  have hn1 : (n : Int) ≤ 64 := by omega
  go_enter Tryd.func29, Tryd.ntmps29
  go_wp2_with fail
  go_loop [3, 5, 8] (fun s3 s5 s8 => ∃ i s : Nat, i ≤ n ∧ s8 = .int .i64 (i : Int) ∧ s3 = .int .u64 (s : Int) ∧ (s : Int) ≤ 64000000000 ∧ Hid (s = sm W i)) (fun _ _ s8 => n - (intOf s8).toNat)
  case atStart => exact ⟨0, 0, by omega, by go_num, by go_num, by omega, rfl⟩
  case round =>
    obtain ⟨i, s, hi, rfl, rfl, hs, HS⟩ := hrel
    by_cases hin : (n : Int) ≤ (i : Int)
    · go_wp2_with fail
      go_ret
      rw [HS.out, show i = n by omega]
      exact ⟨rfl, rfl⟩
    · obtain ⟨b, off, rfl, hb0, hx⟩ := H3.out (by omega)
      have c0 := hx i (by omega)
      have hw := HB.out i (by omega)
      have hw1 : (W i : Int) ≤ 1000000000 := by omega
      clear hx
      have hi1 : (i : Int) < (n : Int) := by omega
      go_wp2_with fail
      refine ⟨⟨i + 1, s + W i, by omega, by go_num, by go_num, ?_, by show _ = _; rw [HS.out]; rfl⟩, by simp [intOf]; omega⟩
      have h1 : sm W (i + 1) ≤ (i + 1) * 1000000000 := sm_bound (fun j hj => HB.out j (by omega))
      have h2 := HS.out
      rw [sm_succ] at h1
      omega
theorem div_whole (x t : Nat) (w : World) (h1 : x / 18446744073709551616 < t) (h2 : t < 18446744073709551616) :
    Calls Tryd.prog 32 #[.int .u64 ((x / 18446744073709551616 : Nat) : Int), .int .u64 ((x % 18446744073709551616 : Nat) : Int), .int .u64 (t : Int)] w fun e w' => e = .returned (.tuple #[.int .u64 ((x / t : Nat) : Int), .int .u64 ((x % t : Nat) : Int)]) ∧ Below w.heap.size w w' := by
  have h := div64_any (x / 18446744073709551616) (x % 18446744073709551616) t w h1 (by rw [B_eq]; omega) (by rw [B_eq]; omega)
  rw [show x / 18446744073709551616 * B + x % 18446744073709551616 = x by rw [B_eq]; omega] at h
  exact h
/-- the first i are done -/
def upto (f : Nat → Nat) (i : Nat) : Nat → Nat := fun j => if j < i then f j else 0
theorem upto_zero (f : Nat → Nat) : upto f 0 = fun _ => 0 := funext fun j => by simp [upto]
theorem upto_next (f : Nat → Nat) (i : Nat) : upn (upto f i) i (f i) = upto f (i + 1) := by
  funext j
  simp only [upn, upto]
  by_cases e : j = i
  · rw [if_pos e, if_pos (by omega), e]
  · rw [if_neg e]
    by_cases e2 : j < i
    · rw [if_pos e2, if_pos (by omega)]
    · rw [if_neg e2, if_neg (by omega)]
set_option maxHeartbeats 4000000 in
set_option maxRecDepth 100000 in
theorem shares_ok (sz n : Nat) (W : Nat → Nat) (v : Value) (w : World) (I : Wts w v n W) (hn : n ≤ 64) (hb : ∀ i, i < n → W i ≤ 1000000000) (ht : 0 < sm W n) (hs : sz ≤ 10000000000000) :
    Calls Tryd.prog 17 #[.int .u64 (sz : Int), v] w fun e w' => e = .returned (.slice (some ⟨w.heap.size, 0, none⟩) n n) ∧ (∃ g, Pm (fun x => x) g 0 n ∧ Srt (pr sz (sm W n) W) g 0 n ∧ VA w' w.heap.size (shr (got sz (sm W n) W g n) (pr sz (sm W n) W) n) 54) ∧ Below w.heap.size w w' := by
  obtain ⟨t, et⟩ : ∃ t, sm W n = t := ⟨_, rfl⟩
  have HT := (show Hid _ from et)
  have HT0 : Hid (0 < t) := by show _; rw [← et]; exact ht
  have ht1 : (t : Int) ≤ 64000000000 := by
    have := sm_bound (f := W) (n := n) (fun i hi => hb i hi)
    omega
  have HW := (show Hid _ from I)
  have HB := (show Hid _ from hb)
  have HX : Hid (∀ i, i < n → sz * W i / 18446744073709551616 < t) := by
    intro i hi
    have h1 : W i ≤ t := by rw [← et]; exact sm_pos hi
    have h2 : sz * W i ≤ 10000000000000 * t := Nat.mul_le_mul hs h1
    have := HT0.out
    omega
  have HUL : Hid (∀ i, i ≤ n → sm (pu sz t W) i ≤ sz) := by
    intro i hi
    have h1 := sm_mono (pu sz t W) hi
    have h2 := units_le sz W n ht
    rw [et] at h2; omega
  have HPL : Hid (∀ i, i < n → pu sz t W i ≤ sz ∧ pr sz t W i < t) := by
    intro i hi
    have h2 := pu_le sz W n i hi ht
    rw [et] at h2
    exact ⟨h2, pr_lt HT0.out W i⟩
  have HLL : Hid (plf sz t W n < n) := by have h2 := left_lt sz W n ht; rw [et] at h2; exact h2
  have hs1 : (sz : Int) ≤ 10000000000000 := by omega
  have hn1 : (n : Int) ≤ 64 := by omega
  have hvf := I.form
  clear I hb ht
  rw [et]
  clear et
  have HVF := (show Hid _ from hvf)
  obtain ⟨va, vc, rfl, _⟩ := hvf
  go_enter Tryd.func17, Tryd.ntmps17
  go_wp2_with fail
  refine (total_ok n W _ _ HW.out hn HB.out).mono ?_
  rintro e wx ⟨rfl, hq⟩
  obtain rfl := hq.symm
  rw [HT.out]
  go_upto_region 4 with (refine mkV rfl 51 54 _ _ rfl Tryd.underlying51 (.agg #[.int .u64 0, .int .u64 0]) 2 16 n infoShareV (by decide) (by omega) (shr (fun _ => 0) (fun _ => 0) n) (made_shr n) (by rfl) (by rfl) ?_; intro w1 v1 b1; have VL_1 := (show Hid _ from v1); have BB_1 := (show Hid _ from b1); clear v1 b1)
  go_wp2_with fail
  go_loopw [6, 8, 9, 10, 11, 20] (fun s6 s8 s9 s10 s11 s20 wr => ∃ i l : Nat, i ≤ n ∧ s20 = .int .i64 (i : Int) ∧ s6 = .int .u64 (l : Int) ∧ (l : Int) ≤ 10000000000000 ∧ Hid (l = sz - sm (pu sz t W) i) ∧ Hid (VA wr w.heap.size (shr (upto (pu sz t W) i) (upto (pr sz t W) i) n) 54) ∧ Hid (Below w.heap.size w wr)) (fun _ _ _ _ _ s20 _ => n - (intOf s20).toNat)
  case atStart => exact ⟨0, sz, by omega, by go_num, rfl, by omega, by show _ = _; rw [sm_zero]; omega, by rw [upto_zero, upto_zero]; exact VL_1.out, BB_1.out⟩
  case round =>
    rename_i wr
    obtain ⟨i, l, hi, rfl, rfl, hl1, HL, VL, BB⟩ := hrel
    clear VL_1 BB_1
    by_cases hin : (n : Int) ≤ (i : Int)
    · have hin' : i = n := by omega
      subst hin'
      go_wp2_with fail
      refine (handOut_ok w.heap.size i l (pu sz t W) (pr sz t W) _ ?_ (by omega) ?_ ?_).mono ?_
      · have := VL.out
        rw [shr_congr (U' := pu sz t W) (R' := pr sz t W) (fun j hj => by simp only [upto]; rw [if_pos hj]) (fun j hj => by simp only [upto]; rw [if_pos hj])] at this
        exact this
      · have := HL.out; have := HLL.out; simp only [plf] at this; omega
      · intro j hj; have := (HPL.out j hj).1; omega
      rintro e w8 ⟨rfl, g, p8, s8, v8, x8⟩
      have HP : Hid (Pm (fun x => x) g 0 i) := p8
      have HS : Hid (Srt (pr sz t W) g 0 i) := s8
      have HV8 : Hid (VA w8 w.heap.size (shr (got sz t W g i) (pr sz t W) i) 54) := by
        rw [HL.out] at v8
        exact v8
      have BB_8 := (show Hid _ from x8.bel BB.out (Nat.le_refl _) BB.out.size)
      clear p8 s8 v8 x8 VL BB
      go_wp2_with fail
      exact bodyPost_ret (v := .slice (some ⟨w.heap.size, 0, none⟩) i i) (by simp [results, Tryd.results17, go_sem]) rfl ⟨rfl, ⟨g, HP.out, HS.out, HV8.out⟩, BB_8.out⟩
    · have hi1 : (i : Int) < (n : Int) := by omega
      have hi2 : i < n := by omega
      obtain ⟨a0, c0, ea, h3⟩ := (HW.out.step BB.out).form
      obtain ⟨b, off, eb, hb0, hx⟩ := h3 (by omega)
      subst eb
      injection ea with ea1 ea2 ea3
      subst ea1
      subst ea3
      have cw := hx i hi2
      clear hx h3
      have hw0 := HB.out i hi2
      have hw1 : (W i : Int) ≤ 1000000000 := by omega
      go_wp2_with fail
      clear cw
      refine (mul64_any sz (W i) _ (by omega) (by omega)).mono ?_
      rintro e wx ⟨rfl, hq⟩
      obtain rfl := hq.symm
      go_wp2_with fail
      refine (div_whole (sz * W i) t _ (HX.out i hi2) (by omega)).mono ?_
      rintro e w2 ⟨rfl, b2⟩
      have VL_2 := (show Hid _ from VL.out.step b2)
      have BB_2 := (show Hid _ from BB.out.trans (b2.mono BB.out.size))
      clear b2 VL BB
      obtain ⟨u, hu⟩ : ∃ u, pu sz t W i = u := ⟨_, rfl⟩
      obtain ⟨r, hr⟩ : ∃ r, pr sz t W i = r := ⟨_, rfl⟩
      have HUE := (show Hid _ from hu)
      have HRE := (show Hid _ from hr)
      rw [show sz * W i / t = u from hu, show sz * W i % t = r from hr]
      have hul : u ≤ sz := by rw [← hu]; exact (HPL.out i hi2).1
      have hlu : u ≤ l := by
        have h1 := HL.out
        have h2 := HUL.out (i + 1) (by omega)
        rw [sm_succ, hu] at h2
        omega
      have hu1 : (u : Int) ≤ (l : Int) := by omega
      have HRT : Hid (r < t) := by show _; rw [← hr]; exact (HPL.out i hi2).2
      clear hu hr
      have l0 := VL_2.out.cell (i * 2) (shr_u _ _ hi2)
      have f0 := VL_2.out.free (i * 2)
      have l1 := (VL_2.out.set (i * 2) (.int .u64 (u : Int))).cell (i * 2 + 1) (by rw [shr_set_u _ _ hi2]; exact shr_r _ _ hi2)
      have f1 := (VL_2.out.set (i * 2) (.int .u64 (u : Int))).free (i * 2 + 1)
      have V3 := (VL_2.out.set (i * 2) (.int .u64 (u : Int))).set (i * 2 + 1) (.int .u64 (r : Int))
      rw [shr_set_u _ _ hi2, shr_set_r _ _ hi2, ← HUE.out, upto_next, ← HRE.out, upto_next, HUE.out, HRE.out] at V3
      have VL_3 := (show Hid _ from V3)
      have l2 := V3.cell (i * 2) (shr_u _ _ hi2)
      simp only [upto, if_pos (Nat.lt_succ_self i), HUE.out] at l2
      clear V3
      go_wp2_with fail
      refine ⟨⟨i + 1, l - u, by omega, by go_num, by go_num, by omega, ?_, VL_3.out, ?_⟩, by simp [intOf]; omega⟩
      · show _ = _
        have h1 := HL.out
        rw [sm_succ, HUE.out, h1]; omega
      · exact (BB_2.out.setCell (p := ⟨w.heap.size, i * 2, none⟩) (Nat.le_refl _) _).setCell (p := ⟨w.heap.size, i * 2 + 1, none⟩) (Nat.le_refl _) _
end Go.Proofs.YtbgglghapjfdeaaDoor
