/- money: checkSplit, Split. -/
import Derived.Test.YtbgglghapjfdeaaDoorSsk
import Derived.Test.YtbgglghapjfdeaaDoorBh
namespace Go.Proofs.YtbgglghapjfdeaaDoor
open Go.RowKit
set_option linter.unusedVariables false

set_option maxHeartbeats 2000000 in
set_option maxRecDepth 100000 in
theorem check_arg (c m : Int) (zs : List Int) (v : Value) (w : World) (I : Is w v zs) (i0 : Nat) (hi0 : i0 < zs.length) (hb : zs.getD i0 0 < 0 ∨ 1000000000 < zs.getD i0 0) : Calls Tryd.prog 15 #[.agg (mcl c m).toArray, v] w fun e w' => e = .returned (.int .i64 1) ∧ Below w.heap.size w w' := by
  have HB := (show Hid _ from hb)
  clear hb
  have HI := (show Hid _ from I.step ((Below.refl _ _).alloc (Nat.le_refl _) (.cells (mcl c m).toArray 23)))
  have VM_0 := (show Hid _ from va_new w (mcl c m) 23)
  have BB_0 := (show Hid _ from (Below.refl w.heap.size w).alloc (Nat.le_refl _) (.cells (mcl c m).toArray 23))
  obtain ⟨va, vc, e0, _, hc, _⟩ := I.form
  clear I
  obtain ⟨n, hn⟩ : ∃ n, zs.length = n := ⟨_, rfl⟩
  have HN := (show Hid _ from hn)
  have hn1 : (n : Int) ≤ 9223372036854775807 := by omega
  rw [hn] at e0
  subst e0
  clear hc
  have hi3 : i0 < n := by omega
  clear hi0
  clear hn
  go_enter Tryd.func15, Tryd.ntmps15
  go_upto_region 1 with fail
  change Code.wp _ _ _ _ (w.alloc (.cells (mcl c m).toArray 23))
  generalize w.alloc (.cells (mcl c m).toArray 23) = wa at *
  go_wp2_with fail
  go_loop [6, 10] (fun s6 s10 => ∃ i : Nat, i ≤ i0 ∧ s10 = .int .i64 (i : Int)) (fun _ s10 => n - (intOf s10).toNat)
  case atStart => exact ⟨0, by omega, by go_num⟩
  case round =>
    obtain ⟨i, hi, rfl⟩ := hrel
    have hi1 : (i : Int) < (n : Int) := by omega
    obtain ⟨va', vc', ea, _, _, h3⟩ := HI.out.form
    obtain ⟨b, off, eb, hb0, hx⟩ := h3 (by rw [HN.out]; omega)
    subst eb
    rw [HN.out] at ea hx
    injection ea with ea1 ea2 ea3
    subst ea1
    subst ea3
    have cw := hx i (by omega)
    clear hx h3
    obtain ⟨z, hz⟩ : ∃ z, zs.getD i 0 = z := ⟨_, rfl⟩
    rw [hz] at cw
    by_cases g1 : z < 0
    · clear hz
      go_wp2_with fail
      exact bodyPost_ret (v := .int .i64 1) (by simp [results, Tryd.results15, go_sem]) rfl ⟨rfl, BB_0.out⟩
    · by_cases g2 : 1000000000 < z
      · clear hz
        go_wp2_with fail
        exact bodyPost_ret (v := .int .i64 1) (by simp [results, Tryd.results15, go_sem]) rfl ⟨rfl, BB_0.out⟩
      · have hne : i ≠ i0 := by
          rintro rfl
          have := HB.out
          rw [hz] at this; omega
        clear hz
        have g1' : 0 ≤ z := by omega
        have g2' : z ≤ 1000000000 := by omega
        go_wp2_with fail
        refine ⟨⟨i + 1, by omega, by go_num⟩, by simp [intOf]; omega⟩
set_option maxHeartbeats 2000000 in
set_option maxRecDepth 100000 in
theorem check_none (c m : Int) (zs : List Int) (v : Value) (w : World) (I : Is w v zs) (hb : ∀ i, i < zs.length → 0 ≤ zs.getD i 0 ∧ zs.getD i 0 ≤ 1000000000) (hl : zs.length = 0) : Calls Tryd.prog 15 #[.agg (mcl c m).toArray, v] w fun e w' => e = .returned (.int .i64 2) ∧ Below w.heap.size w w' := by
  have HB := (show Hid _ from hb)
  clear hb
  have HI := (show Hid _ from I.step ((Below.refl _ _).alloc (Nat.le_refl _) (.cells (mcl c m).toArray 23)))
  have VM_0 := (show Hid _ from va_new w (mcl c m) 23)
  have BB_0 := (show Hid _ from (Below.refl w.heap.size w).alloc (Nat.le_refl _) (.cells (mcl c m).toArray 23))
  obtain ⟨va, vc, e0, _, hc, _⟩ := I.form
  clear I
  obtain ⟨n, hn⟩ : ∃ n, zs.length = n := ⟨_, rfl⟩
  have HN := (show Hid _ from hn)
  have hn1 : (n : Int) ≤ 9223372036854775807 := by omega
  rw [hn] at e0
  subst e0
  clear hc
  have hn3 : ((n : Int) == 0) = true := by simp; omega
  clear hl
  clear hn
  go_enter Tryd.func15, Tryd.ntmps15
  go_upto_region 1 with fail
  change Code.wp _ _ _ _ (w.alloc (.cells (mcl c m).toArray 23))
  generalize w.alloc (.cells (mcl c m).toArray 23) = wa at *
  go_wp2_with fail
  go_loop [6, 10] (fun s6 s10 => ∃ i : Nat, i ≤ n ∧ s10 = .int .i64 (i : Int)) (fun _ s10 => n - (intOf s10).toNat)
  case atStart => exact ⟨0, by omega, by go_num⟩
  case round =>
    obtain ⟨i, hi, rfl⟩ := hrel
    by_cases hin : (n : Int) ≤ (i : Int)
    · go_wp2_with fail
      exact bodyPost_ret (v := .int .i64 2) (by simp [results, Tryd.results15, go_sem]) rfl ⟨rfl, BB_0.out⟩
    · have hi1 : (i : Int) < (n : Int) := by omega
      obtain ⟨va', vc', ea, _, _, h3⟩ := HI.out.form
      obtain ⟨b, off, eb, hb0, hx⟩ := h3 (by rw [HN.out]; omega)
      subst eb
      rw [HN.out] at ea hx
      injection ea with ea1 ea2 ea3
      subst ea1
      subst ea3
      have cw := hx i (by omega)
      clear hx h3
      obtain ⟨z, hz⟩ : ∃ z, zs.getD i 0 = z := ⟨_, rfl⟩
      rw [hz] at cw
      have hg := HB.out i (by rw [HN.out]; omega)
      rw [hz] at hg
      have g1 : 0 ≤ z := hg.1
      have g2 : z ≤ 1000000000 := hg.2
      clear hg hz
      go_wp2_with fail
      refine ⟨⟨i + 1, by omega, by go_num⟩, by simp [intOf]; omega⟩
set_option maxHeartbeats 2000000 in
set_option maxRecDepth 100000 in
theorem check_long (c m : Int) (zs : List Int) (v : Value) (w : World) (I : Is w v zs) (hb : ∀ i, i < zs.length → 0 ≤ zs.getD i 0 ∧ zs.getD i 0 ≤ 1000000000) (hl : 64 < zs.length) : Calls Tryd.prog 15 #[.agg (mcl c m).toArray, v] w fun e w' => e = .returned (.int .i64 2) ∧ Below w.heap.size w w' := by
  have HB := (show Hid _ from hb)
  clear hb
  have HI := (show Hid _ from I.step ((Below.refl _ _).alloc (Nat.le_refl _) (.cells (mcl c m).toArray 23)))
  have VM_0 := (show Hid _ from va_new w (mcl c m) 23)
  have BB_0 := (show Hid _ from (Below.refl w.heap.size w).alloc (Nat.le_refl _) (.cells (mcl c m).toArray 23))
  obtain ⟨va, vc, e0, _, hc, _⟩ := I.form
  clear I
  obtain ⟨n, hn⟩ : ∃ n, zs.length = n := ⟨_, rfl⟩
  have HN := (show Hid _ from hn)
  have hn1 : (n : Int) ≤ 9223372036854775807 := by omega
  rw [hn] at e0
  subst e0
  clear hc
  have hn2 : 64 < (n : Int) := by omega
  clear hl
  clear hn
  go_enter Tryd.func15, Tryd.ntmps15
  go_upto_region 1 with fail
  change Code.wp _ _ _ _ (w.alloc (.cells (mcl c m).toArray 23))
  generalize w.alloc (.cells (mcl c m).toArray 23) = wa at *
  go_wp2_with fail
  go_loop [6, 10] (fun s6 s10 => ∃ i : Nat, i ≤ n ∧ s10 = .int .i64 (i : Int)) (fun _ s10 => n - (intOf s10).toNat)
  case atStart => exact ⟨0, by omega, by go_num⟩
  case round =>
    obtain ⟨i, hi, rfl⟩ := hrel
    by_cases hin : (n : Int) ≤ (i : Int)
    · have hn3 : ((n : Int) == 0) = false := by simp; omega
      go_wp2_with fail
      exact bodyPost_ret (v := .int .i64 2) (by simp [results, Tryd.results15, go_sem]) rfl ⟨rfl, BB_0.out⟩
    · have hi1 : (i : Int) < (n : Int) := by omega
      obtain ⟨va', vc', ea, _, _, h3⟩ := HI.out.form
      obtain ⟨b, off, eb, hb0, hx⟩ := h3 (by rw [HN.out]; omega)
      subst eb
      rw [HN.out] at ea hx
      injection ea with ea1 ea2 ea3
      subst ea1
      subst ea3
      have cw := hx i (by omega)
      clear hx h3
      obtain ⟨z, hz⟩ : ∃ z, zs.getD i 0 = z := ⟨_, rfl⟩
      rw [hz] at cw
      have hg := HB.out i (by rw [HN.out]; omega)
      rw [hz] at hg
      have g1 : 0 ≤ z := hg.1
      have g2 : z ≤ 1000000000 := hg.2
      clear hg hz
      go_wp2_with fail
      refine ⟨⟨i + 1, by omega, by go_num⟩, by simp [intOf]; omega⟩
set_option maxHeartbeats 2000000 in
set_option maxRecDepth 100000 in
theorem check_form (c m : Int) (zs : List Int) (v : Value) (w : World) (I : Is w v zs) (hb : ∀ i, i < zs.length → 0 ≤ zs.getD i 0 ∧ zs.getD i 0 ≤ 1000000000) (hl0 : 0 < zs.length) (hl : zs.length ≤ 64) (hm : mform c m = false) : Calls Tryd.prog 15 #[.agg (mcl c m).toArray, v] w fun e w' => e = .returned (.int .i64 3) ∧ Below w.heap.size w w' := by
  have HB := (show Hid _ from hb)
  clear hb
  have HI := (show Hid _ from I.step ((Below.refl _ _).alloc (Nat.le_refl _) (.cells (mcl c m).toArray 23)))
  have VM_0 := (show Hid _ from va_new w (mcl c m) 23)
  have BB_0 := (show Hid _ from (Below.refl w.heap.size w).alloc (Nat.le_refl _) (.cells (mcl c m).toArray 23))
  obtain ⟨va, vc, e0, _, hc, _⟩ := I.form
  clear I
  obtain ⟨n, hn⟩ : ∃ n, zs.length = n := ⟨_, rfl⟩
  have HN := (show Hid _ from hn)
  have hn1 : (n : Int) ≤ 9223372036854775807 := by omega
  rw [hn] at e0
  subst e0
  clear hc
  have hn2 : (n : Int) ≤ 64 := by omega
  have hn0 : 0 < n := by omega
  have hn3 : ((n : Int) == 0) = false := by simp; omega
  clear hl hl0
  clear hn
  go_enter Tryd.func15, Tryd.ntmps15
  go_upto_region 1 with fail
  change Code.wp _ _ _ _ (w.alloc (.cells (mcl c m).toArray 23))
  generalize w.alloc (.cells (mcl c m).toArray 23) = wa at *
  go_wp2_with fail
  go_loop [6, 10] (fun s6 s10 => ∃ i : Nat, i ≤ n ∧ s10 = .int .i64 (i : Int)) (fun _ s10 => n - (intOf s10).toNat)
  case atStart => exact ⟨0, by omega, by go_num⟩
  case round =>
    obtain ⟨i, hi, rfl⟩ := hrel
    by_cases hin : (n : Int) ≤ (i : Int)
    · go_wp2_with (refine ldA rfl 23 _ rfl w.heap.size (by rfl) (mcl c m) _ VM_0.out _ Tryd.underlying23 rfl infoM ?_)
      refine (chk_no c m _ hm).mono ?_
      rintro e w1 ⟨rfl, b1⟩
      have BB_1 := (show Hid _ from BB_0.out.trans (b1.mono BB_0.out.size))
      clear b1 VM_0 BB_0
      go_wp2_with fail
      exact bodyPost_ret (v := .int .i64 3) (by simp [results, Tryd.results15, go_sem]) rfl ⟨rfl, BB_1.out⟩
    · have hi1 : (i : Int) < (n : Int) := by omega
      obtain ⟨va', vc', ea, _, _, h3⟩ := HI.out.form
      obtain ⟨b, off, eb, hb0, hx⟩ := h3 (by rw [HN.out]; omega)
      subst eb
      rw [HN.out] at ea hx
      injection ea with ea1 ea2 ea3
      subst ea1
      subst ea3
      have cw := hx i (by omega)
      clear hx h3
      obtain ⟨z, hz⟩ : ∃ z, zs.getD i 0 = z := ⟨_, rfl⟩
      rw [hz] at cw
      have hg := HB.out i (by rw [HN.out]; omega)
      rw [hz] at hg
      have g1 : 0 ≤ z := hg.1
      have g2 : z ≤ 1000000000 := hg.2
      clear hg hz
      go_wp2_with fail
      refine ⟨⟨i + 1, by omega, by go_num⟩, by simp [intOf]; omega⟩
set_option maxHeartbeats 2000000 in
set_option maxRecDepth 100000 in
theorem check_zero (c m : Int) (zs : List Int) (v : Value) (w : World) (I : Is w v zs) (hb : ∀ i, i < zs.length → 0 ≤ zs.getD i 0 ∧ zs.getD i 0 ≤ 1000000000) (hl0 : 0 < zs.length) (hl : zs.length ≤ 64) (hm : mform c m = true) (W : Nat → Nat) (hW : ∀ i, i < zs.length → zs.getD i 0 = (W i : Int)) (ht : sm W zs.length = 0) : Calls Tryd.prog 15 #[.agg (mcl c m).toArray, v] w fun e w' => e = .returned (.int .i64 5) ∧ Below w.heap.size w w' := by
  have HB := (show Hid _ from hb)
  clear hb
  have HW := (show Hid _ from hW)
  clear hW
  have HI := (show Hid _ from I.step ((Below.refl _ _).alloc (Nat.le_refl _) (.cells (mcl c m).toArray 23)))
  have VM_0 := (show Hid _ from va_new w (mcl c m) 23)
  have BB_0 := (show Hid _ from (Below.refl w.heap.size w).alloc (Nat.le_refl _) (.cells (mcl c m).toArray 23))
  obtain ⟨va, vc, e0, _, hc, _⟩ := I.form
  clear I
  obtain ⟨n, hn⟩ : ∃ n, zs.length = n := ⟨_, rfl⟩
  have HN := (show Hid _ from hn)
  have hn1 : (n : Int) ≤ 9223372036854775807 := by omega
  rw [hn] at e0
  subst e0
  clear hc
  have hn2 : (n : Int) ≤ 64 := by omega
  have hn0 : 0 < n := by omega
  have hn3 : ((n : Int) == 0) = false := by simp; omega
  clear hl hl0
  rw [hn] at ht
  have HT := (show Hid _ from ht)
  clear ht
  clear hn
  go_enter Tryd.func15, Tryd.ntmps15
  go_upto_region 1 with fail
  change Code.wp _ _ _ _ (w.alloc (.cells (mcl c m).toArray 23))
  generalize w.alloc (.cells (mcl c m).toArray 23) = wa at *
  go_wp2_with fail
  go_loop [6, 10] (fun s6 s10 => ∃ i : Nat, i ≤ n ∧ s10 = .int .i64 (i : Int)) (fun _ s10 => n - (intOf s10).toNat)
  case atStart => exact ⟨0, by omega, by go_num⟩
  case round =>
    obtain ⟨i, hi, rfl⟩ := hrel
    by_cases hin : (n : Int) ≤ (i : Int)
    · go_wp2_with (refine ldA rfl 23 _ rfl w.heap.size (by rfl) (mcl c m) _ VM_0.out _ Tryd.underlying23 rfl infoM ?_)
      refine (chk_yes c m _ hm).mono ?_
      rintro e w1 ⟨rfl, b1⟩
      have HI_1 := (show Hid _ from HI.out.step b1)
      have BB_1 := (show Hid _ from BB_0.out.trans (b1.mono BB_0.out.size))
      clear b1 VM_0 BB_0
      go_wp2_with fail
      refine (total_ok n W _ _ (by have h := HI_1.out.wts HW.out; rw [HN.out] at h; exact h) (by omega) (fun i hi => ?_)).mono ?_
      · have h1 := HB.out i (by rw [HN.out]; exact hi)
        have h2 := HW.out i (by rw [HN.out]; exact hi)
        omega
      rintro e wx ⟨rfl, hq⟩
      obtain rfl := hq.symm
      rw [HT.out]
      go_wp2_with fail
      exact bodyPost_ret (v := .int .i64 5) (by simp [results, Tryd.results15, go_sem]) rfl ⟨rfl, BB_1.out⟩
    · have hi1 : (i : Int) < (n : Int) := by omega
      obtain ⟨va', vc', ea, _, _, h3⟩ := HI.out.form
      obtain ⟨b, off, eb, hb0, hx⟩ := h3 (by rw [HN.out]; omega)
      subst eb
      rw [HN.out] at ea hx
      injection ea with ea1 ea2 ea3
      subst ea1
      subst ea3
      have cw := hx i (by omega)
      clear hx h3
      obtain ⟨z, hz⟩ : ∃ z, zs.getD i 0 = z := ⟨_, rfl⟩
      rw [hz] at cw
      have hg := HB.out i (by rw [HN.out]; omega)
      rw [hz] at hg
      have g1 : 0 ≤ z := hg.1
      have g2 : z ≤ 1000000000 := hg.2
      clear hg hz
      go_wp2_with fail
      refine ⟨⟨i + 1, by omega, by go_num⟩, by simp [intOf]; omega⟩
set_option maxHeartbeats 2000000 in
set_option maxRecDepth 100000 in
theorem check_yes (c m : Int) (zs : List Int) (v : Value) (w : World) (I : Is w v zs) (hb : ∀ i, i < zs.length → 0 ≤ zs.getD i 0 ∧ zs.getD i 0 ≤ 1000000000) (hl0 : 0 < zs.length) (hl : zs.length ≤ 64) (hm : mform c m = true) (W : Nat → Nat) (hW : ∀ i, i < zs.length → zs.getD i 0 = (W i : Int)) (ht : 0 < sm W zs.length) : Calls Tryd.prog 15 #[.agg (mcl c m).toArray, v] w fun e w' => e = .returned (.int .i64 0) ∧ Below w.heap.size w w' := by
  have HB := (show Hid _ from hb)
  clear hb
  have HW := (show Hid _ from hW)
  clear hW
  have HI := (show Hid _ from I.step ((Below.refl _ _).alloc (Nat.le_refl _) (.cells (mcl c m).toArray 23)))
  have VM_0 := (show Hid _ from va_new w (mcl c m) 23)
  have BB_0 := (show Hid _ from (Below.refl w.heap.size w).alloc (Nat.le_refl _) (.cells (mcl c m).toArray 23))
  obtain ⟨va, vc, e0, _, hc, _⟩ := I.form
  clear I
  obtain ⟨n, hn⟩ : ∃ n, zs.length = n := ⟨_, rfl⟩
  have HN := (show Hid _ from hn)
  have hn1 : (n : Int) ≤ 9223372036854775807 := by omega
  rw [hn] at e0
  subst e0
  clear hc
  have hn2 : (n : Int) ≤ 64 := by omega
  have hn0 : 0 < n := by omega
  have hn3 : ((n : Int) == 0) = false := by simp; omega
  clear hl hl0
  rw [hn] at ht
  have HT := (show Hid _ from ht)
  clear ht
  clear hn
  go_enter Tryd.func15, Tryd.ntmps15
  go_upto_region 1 with fail
  change Code.wp _ _ _ _ (w.alloc (.cells (mcl c m).toArray 23))
  generalize w.alloc (.cells (mcl c m).toArray 23) = wa at *
  go_wp2_with fail
  go_loop [6, 10] (fun s6 s10 => ∃ i : Nat, i ≤ n ∧ s10 = .int .i64 (i : Int)) (fun _ s10 => n - (intOf s10).toNat)
  case atStart => exact ⟨0, by omega, by go_num⟩
  case round =>
    obtain ⟨i, hi, rfl⟩ := hrel
    by_cases hin : (n : Int) ≤ (i : Int)
    · go_wp2_with (refine ldA rfl 23 _ rfl w.heap.size (by rfl) (mcl c m) _ VM_0.out _ Tryd.underlying23 rfl infoM ?_)
      refine (chk_yes c m _ hm).mono ?_
      rintro e w1 ⟨rfl, b1⟩
      have HI_1 := (show Hid _ from HI.out.step b1)
      have BB_1 := (show Hid _ from BB_0.out.trans (b1.mono BB_0.out.size))
      clear b1 VM_0 BB_0
      go_wp2_with fail
      refine (total_ok n W _ _ (by have h := HI_1.out.wts HW.out; rw [HN.out] at h; exact h) (by omega) (fun i hi => ?_)).mono ?_
      · have h1 := HB.out i (by rw [HN.out]; exact hi)
        have h2 := HW.out i (by rw [HN.out]; exact hi)
        omega
      rintro e wx ⟨rfl, hq⟩
      obtain rfl := hq.symm
      obtain ⟨t, et⟩ : ∃ t, sm W n = t := ⟨_, rfl⟩
      have HTE : Hid (0 < t) := by show _; rw [← et]; exact HT.out
      rw [et]
      clear et
      have ht3 : ((t : Int) == 0) = false := by have := HTE.out; simp; omega
      go_wp2_with fail
      exact bodyPost_ret (v := .int .i64 0) (by simp [results, Tryd.results15, go_sem]) rfl ⟨rfl, BB_1.out⟩
    · have hi1 : (i : Int) < (n : Int) := by omega
      obtain ⟨va', vc', ea, _, _, h3⟩ := HI.out.form
      obtain ⟨b, off, eb, hb0, hx⟩ := h3 (by rw [HN.out]; omega)
      subst eb
      rw [HN.out] at ea hx
      injection ea with ea1 ea2 ea3
      subst ea1
      subst ea3
      have cw := hx i (by omega)
      clear hx h3
      obtain ⟨z, hz⟩ : ∃ z, zs.getD i 0 = z := ⟨_, rfl⟩
      rw [hz] at cw
      have hg := HB.out i (by rw [HN.out]; omega)
      rw [hz] at hg
      have g1 : 0 ≤ z := hg.1
      have g2 : z ≤ 1000000000 := hg.2
      clear hg hz
      go_wp2_with fail
      refine ⟨⟨i + 1, by omega, by go_num⟩, by simp [intOf]; omega⟩
/-- Split where checkSplit answers an error -/
theorem split_err (c m : Int) (v : Value) (x : Int) (w : World) (hx : x ≠ 0) (K : Unit → ∀ w', Below w.heap.size w w' → Calls Tryd.prog 15 #[.agg (mcl c m).toArray, v] w' fun e w'' => e = .returned (.int .i64 x) ∧ Below w'.heap.size w' w'') : Calls Tryd.prog 7 #[.agg (mcl c m).toArray, v] w fun e w' => e = .returned (.tuple #[.slice none 0 0, .int .i64 x]) ∧ Below w.heap.size w w' := by
  have VM_0 := (show Hid _ from va_new w (mcl c m) 23)
  have BB_0 := (show Hid _ from (Below.refl w.heap.size w).alloc (Nat.le_refl _) (.cells (mcl c m).toArray 23))
  have hx1 : (x != 0) = true := by simp; exact hx
  clear hx
  go_enter Tryd.func7, Tryd.ntmps7
  go_wp2_with (refine ldA rfl 23 _ rfl w.heap.size (by rfl) (mcl c m) _ VM_0.out _ Tryd.underlying23 rfl infoM ?_)
  refine (K () _ BB_0.out).mono ?_
  rintro e w1 ⟨rfl, b1⟩
  have BB_1 := (show Hid _ from BB_0.out.trans (b1.mono BB_0.out.size))
  clear b1 BB_0 VM_0
  go_wp2_with fail
  exact bodyPost_ret (v := .tuple #[.slice none 0 0, .int .i64 x]) (by simp [results, Tryd.results7, go_sem]) rfl ⟨rfl, BB_1.out⟩
/-- the cells of a row of amounts -/
def mo (A B : Nat → Int) (n : Nat) : List Value := (List.range (n * 2)).map fun c => Value.int .i64 (if c % 2 = 0 then A (c / 2) else B (c / 2))
theorem mo_len (A B : Nat → Int) (n : Nat) : (mo A B n).length = n * 2 := by simp [mo]
theorem mo_a (A B : Nat → Int) {n i : Nat} (h : i < n) : (mo A B n)[i * 2]? = some (.int .i64 (A i)) := by
  simp only [mo, List.getElem?_map]
  rw [List.getElem?_range (by omega)]
  simp
theorem mo_b (A B : Nat → Int) {n i : Nat} (h : i < n) : (mo A B n)[i * 2 + 1]? = some (.int .i64 (B i)) := by
  simp only [mo, List.getElem?_map]
  rw [List.getElem?_range (by omega), Option.map_some, if_neg (by omega), show (i * 2 + 1) / 2 = i by omega]
theorem mo_set (A B A' B' : Nat → Int) {n i : Nat} (h : i < n) (x y : Int) (h1 : ∀ j, j < n → A' j = if j = i then x else A j) (h2 : ∀ j, j < n → B' j = if j = i then y else B j) : ((mo A B n).set (i * 2) (.int .i64 x)).set (i * 2 + 1) (.int .i64 y) = mo A' B' n := by
  refine List.ext_getElem? fun k => ?_
  by_cases hk : k < n * 2
  · simp only [mo, List.getElem?_set, List.getElem?_map, List.length_map, List.length_range, List.length_set]
    rw [List.getElem?_range hk]
    by_cases e1 : i * 2 + 1 = k
    · subst e1; rw [if_pos rfl, if_pos (by omega), Option.map_some, if_neg (by omega), h2 _ (by omega), if_pos (by omega)]
    · rw [if_neg e1]
      by_cases e2 : i * 2 = k
      · subst e2; rw [if_pos rfl, if_pos (by omega), Option.map_some, if_pos (by omega), h1 _ (by omega), if_pos (by omega)]
      · rw [if_neg e2, Option.map_some, Option.map_some]
        by_cases e3 : k % 2 = 0
        · rw [if_pos e3, if_pos e3, h1 _ (by omega), if_neg (by omega)]
        · rw [if_neg e3, if_neg e3, h2 _ (by omega), if_neg (by omega)]
  · rw [List.getElem?_eq_none (by rw [List.length_set, List.length_set, mo_len]; omega), List.getElem?_eq_none (by rw [mo_len]; omega)]
theorem mo_congr {A A' B B' : Nat → Int} {n : Nat} (h : ∀ i, i < n → A i = A' i) (h' : ∀ i, i < n → B i = B' i) : mo A B n = mo A' B' n := by
  simp only [mo]
  refine List.map_congr_left fun c hc => ?_
  rw [List.mem_range] at hc
  rw [h _ (by omega), h' _ (by omega)]
theorem made_mo (n : Nat) : madeCells (Value.agg #[.int .i64 0, .int .i64 0]).cells (n * 2) = (mo (fun _ => 0) (fun _ => 0) n).toArray := by
  show (Array.range (n * 2)).map _ = _
  refine Array.ext_getElem? fun i => ?_
  have e : ∀ i, (Value.agg #[.int .i64 0, .int .i64 0]).cells[i % (Value.agg #[.int .i64 0, .int .i64 0]).cells.size]! = .int .i64 0 := by
    intro i
    show (#[Value.int .i64 0, .int .i64 0] : Array Value)[i % 2]! = _
    rcases (show i % 2 = 0 ∨ i % 2 = 1 by omega) with h | h <;> rw [h] <;> rfl
  by_cases h : i < n * 2
  · simp [mo, h, e]
  · simp [mo, h]
end Go.Proofs.YtbgglghapjfdeaaDoor
