/- money: the document's Split: rows of numbers, the errors. -/
import Derived.Test.YtbgglghapjfdeaaDoorSso
import Derived.Test.YtbgglghapjfdeaaDoorUi
namespace Go.Proofs.YtbgglghapjfdeaaDoor
open Go.RowKit
set_option linter.unusedVariables false

/-- a row of values of one cell each -/
def vrow (V : Nat → Value) (n : Nat) : List Value := (List.range n).map V
theorem vrow_len (V : Nat → Value) (n : Nat) : (vrow V n).length = n := by simp [vrow]
theorem vrow_get (V : Nat → Value) {n i : Nat} (h : i < n) : (vrow V n)[i]? = some (V i) := by simp [vrow, h]
theorem vrow_set (V V' : Nat → Value) {n i : Nat} (h : i < n) (u : Value) (hV : ∀ j, j < n → V' j = if j = i then u else V j) : (vrow V n).set i u = vrow V' n := by
  refine List.ext_getElem? fun k => ?_
  by_cases hk : k < n
  · rw [vrow_get _ hk, List.getElem?_set, vrow_len]
    by_cases e1 : i = k
    · subst e1; rw [if_pos rfl, if_pos hk, hV i hk, if_pos rfl]
    · rw [if_neg e1, vrow_get _ hk, hV k hk, if_neg (fun e => e1 e.symm)]
  · rw [List.getElem?_eq_none (by rw [List.length_set, vrow_len]; omega), List.getElem?_eq_none (by rw [vrow_len]; omega)]
theorem vrow_congr {V V' : Nat → Value} {n : Nat} (h : ∀ i, i < n → V i = V' i) : vrow V n = vrow V' n := by
  simp only [vrow]
  exact List.map_congr_left fun c hc => by rw [List.mem_range] at hc; rw [h _ hc]
theorem mk_mo (n : Nat) (hn : n ≤ 1000000) (w : World) : (Instr.makeSlice 26 (.int .i64 (n : Int)) (.int .i64 (n : Int))).run Tryd.prog w = .ok (.slice (some ⟨w.heap.size, 0, none⟩) n n) (w.alloc (.cells (mo (fun _ => 0) (fun _ => 0) n).toArray 23)) := by
  obtain ⟨i0, hi, hz'⟩ := Option.map_eq_some_iff.1 infoMoney
  simp only [Prod.mk.injEq] at hz'
  obtain ⟨z1, z2, z3⟩ := hz'
  have h := run_make (P := Tryd.prog) w 26 23 i0 _ Tryd.underlying26 hi z1 .i64 .i64 n n (by omega) (by omega) (by rw [z3]; omega) (by omega)
  rw [z2] at h
  simp only [Int.toNat_natCast] at h
  rw [made_mo] at h
  exact h
theorem infoRow : (Tryd.prog.info? 37).map (fun i => (i.zero, i.size, i.bytes)) = some (some (.slice none 0 0), 1, 24) := by kernel_rfl
theorem made_vrow (n : Nat) : madeCells (Value.slice none 0 0).cells (n * 1) = (vrow (fun _ => .slice none 0 0) n).toArray := by
  show (Array.range (n * 1)).map _ = _
  refine Array.ext_getElem? fun i => ?_
  by_cases h : i < n
  · simp [vrow, h, Nat.mod_one, Value.cells]
  · simp [vrow, h]
theorem mk_vr (n : Nat) (hn : n ≤ 1000000) (w : World) : (Instr.makeSlice 59 (.int .i64 (n : Int)) (.int .i64 (n : Int))).run Tryd.prog w = .ok (.slice (some ⟨w.heap.size, 0, none⟩) n n) (w.alloc (.cells (vrow (fun _ => .slice none 0 0) n).toArray 37)) := by
  obtain ⟨i0, hi, hz'⟩ := Option.map_eq_some_iff.1 infoRow
  simp only [Prod.mk.injEq] at hz'
  obtain ⟨z1, z2, z3⟩ := hz'
  have h := run_make (P := Tryd.prog) w 59 37 i0 _ Tryd.underlying59 hi z1 .i64 .i64 n n (by omega) (by omega) (by rw [z3]; omega) (by omega)
  rw [z2] at h
  simp only [Int.toNat_natCast] at h
  rw [made_vrow] at h
  exact h
/-- a number's slice is empty just if the number is nought -/
theorem Nm.len {w : World} {a : Option Addr} {n c x : Nat} (h : Nm w (.slice a n c) x) : (n = 0 ↔ x = 0) ∧ n ≤ 200 ∧ (0 < x → ∃ b, a = some b) := by
  obtain ⟨ds, ⟨hs, a', c', e, hc, f⟩, hd, hv⟩ := h
  injection e with e1 e2 e3
  subst e1 e2 e3
  refine ⟨⟨fun h0 => ?_, fun h0 => ?_⟩, hs, fun h0 => ?_⟩
  · have : ds = [] := List.eq_nil_of_length_eq_zero h0
    subst this; rw [← hv]; rfl
  · rcases Nat.eq_zero_or_pos ds.length with h | h
    · exact h
    · have := hd.top h
      have h2 : 0 < pw (ds.length - 1) := pw_pos _
      omega
  · rcases Nat.eq_zero_or_pos ds.length with h | h
    · have : ds = [] := List.eq_nil_of_length_eq_zero h
      subst this; rw [← hv] at h0; simp [val] at h0
    · obtain ⟨b, off, e, _⟩ := f h
      exact ⟨_, e⟩
set_option maxHeartbeats 2000000 in
set_option maxRecDepth 100000 in
theorem dsp_arg (c m : Int) (zs : List Int) (v : Value) (w : World) (I : Is w v zs) (i0 : Nat) (hi0 : i0 < zs.length) (hb : zs.getD i0 0 < 0 ∨ 1000000000 < zs.getD i0 0) : Calls Tryd.prog 8 #[.agg (mcl c m).toArray, v] w fun e w' => e = .returned (.tuple #[.slice none 0 0, .int .i64 1]) ∧ Below w.heap.size w w' := by
  have HB := (show Hid _ from hb)
  clear hb
  have HI := (show Hid _ from I.step ((Below.refl _ _).alloc (Nat.le_refl _) (.cells (mcl c m).toArray 23)))
  have VM_0 := (show Hid _ from va_new w (mcl c m) 23)
  have BB_0 := (show Hid _ from (Below.refl w.heap.size w).alloc (Nat.le_refl _) (.cells (mcl c m).toArray 23))
  obtain ⟨va, vc, e0, _, hc, _⟩ := I.form
  clear I
  obtain ⟨n, hn⟩ : ∃ n, zs.length = n := ⟨_, rfl⟩
  have HN := (show Hid _ from hn)
  have hn1 : (n : Int) ≤ 9223372036854775807 := by omega
  rw [hn] at e0
  subst e0
  clear hc
  have hi3 : i0 < n := by omega
  clear hi0
  clear hn
  go_enter Tryd.func8, Tryd.ntmps8
  go_upto_region 1 with fail
  change Code.wp _ _ _ _ (w.alloc (.cells (mcl c m).toArray 23))
  generalize w.alloc (.cells (mcl c m).toArray 23) = wa at *
  go_wp2_with fail
  go_loop [7, 26] (fun s7 s26 => ∃ i : Nat, i ≤ i0 ∧ s26 = .int .i64 (i : Int)) (fun _ s26 => n - (intOf s26).toNat)
  case atStart => exact ⟨0, by omega, by go_num⟩
  case round =>
    obtain ⟨i, hi, rfl⟩ := hrel
    have hi1 : (i : Int) < (n : Int) := by omega
    obtain ⟨va', vc', ea, _, _, h3⟩ := HI.out.form
    obtain ⟨b, off, eb, hb0, hx⟩ := h3 (by rw [HN.out]; omega)
    subst eb
    rw [HN.out] at ea hx
    injection ea with ea1 ea2 ea3
    subst ea1
    subst ea3
    have cw := hx i (by omega)
    clear hx h3
    obtain ⟨z, hz⟩ : ∃ z, zs.getD i 0 = z := ⟨_, rfl⟩
    rw [hz] at cw
    by_cases g1 : z < 0
    · clear hz
      go_wp2_with fail
      exact bodyPost_ret (v := .tuple #[.slice none 0 0, .int .i64 1]) (by simp [results, Tryd.results8, go_sem]) rfl ⟨rfl, BB_0.out⟩
    · by_cases g2 : 1000000000 < z
      · clear hz
        go_wp2_with fail
        exact bodyPost_ret (v := .tuple #[.slice none 0 0, .int .i64 1]) (by simp [results, Tryd.results8, go_sem]) rfl ⟨rfl, BB_0.out⟩
      · have hne : i ≠ i0 := by
          rintro rfl
          have := HB.out
          rw [hz] at this; omega
        clear hz
        have g1' : 0 ≤ z := by omega
        have g2' : z ≤ 1000000000 := by omega
        go_wp2_with fail
        refine ⟨⟨i + 1, by omega, by go_num⟩, by simp [intOf]; omega⟩
set_option maxHeartbeats 2000000 in
set_option maxRecDepth 100000 in
theorem dsp_none (c m : Int) (zs : List Int) (v : Value) (w : World) (I : Is w v zs) (hb : ∀ i, i < zs.length → 0 ≤ zs.getD i 0 ∧ zs.getD i 0 ≤ 1000000000) (hl : zs.length = 0) : Calls Tryd.prog 8 #[.agg (mcl c m).toArray, v] w fun e w' => e = .returned (.tuple #[.slice none 0 0, .int .i64 2]) ∧ Below w.heap.size w w' := by
  have HB := (show Hid _ from hb)
  clear hb
  have HI := (show Hid _ from I.step ((Below.refl _ _).alloc (Nat.le_refl _) (.cells (mcl c m).toArray 23)))
  have VM_0 := (show Hid _ from va_new w (mcl c m) 23)
  have BB_0 := (show Hid _ from (Below.refl w.heap.size w).alloc (Nat.le_refl _) (.cells (mcl c m).toArray 23))
  obtain ⟨va, vc, e0, _, hc, _⟩ := I.form
  clear I
  obtain ⟨n, hn⟩ : ∃ n, zs.length = n := ⟨_, rfl⟩
  have HN := (show Hid _ from hn)
  have hn1 : (n : Int) ≤ 9223372036854775807 := by omega
  rw [hn] at e0
  subst e0
  clear hc
  have hn3 : ((n : Int) == 0) = true := by simp; omega
  clear hl
  clear hn
  go_enter Tryd.func8, Tryd.ntmps8
  go_upto_region 1 with fail
  change Code.wp _ _ _ _ (w.alloc (.cells (mcl c m).toArray 23))
  generalize w.alloc (.cells (mcl c m).toArray 23) = wa at *
  go_wp2_with fail
  go_loop [7, 26] (fun s7 s26 => ∃ i : Nat, i ≤ n ∧ s26 = .int .i64 (i : Int)) (fun _ s26 => n - (intOf s26).toNat)
  case atStart => exact ⟨0, by omega, by go_num⟩
  case round =>
    obtain ⟨i, hi, rfl⟩ := hrel
    by_cases hin : (n : Int) ≤ (i : Int)
    · go_wp2_with fail
      exact bodyPost_ret (v := .tuple #[.slice none 0 0, .int .i64 2]) (by simp [results, Tryd.results8, go_sem]) rfl ⟨rfl, BB_0.out⟩
    · have hi1 : (i : Int) < (n : Int) := by omega
      obtain ⟨va', vc', ea, _, _, h3⟩ := HI.out.form
      obtain ⟨b, off, eb, hb0, hx⟩ := h3 (by rw [HN.out]; omega)
      subst eb
      rw [HN.out] at ea hx
      injection ea with ea1 ea2 ea3
      subst ea1
      subst ea3
      have cw := hx i (by omega)
      clear hx h3
      obtain ⟨z, hz⟩ : ∃ z, zs.getD i 0 = z := ⟨_, rfl⟩
      rw [hz] at cw
      have hg := HB.out i (by rw [HN.out]; omega)
      rw [hz] at hg
      have g1 : 0 ≤ z := hg.1
      have g2 : z ≤ 1000000000 := hg.2
      clear hg hz
      go_wp2_with fail
      refine ⟨⟨i + 1, by omega, by go_num⟩, by simp [intOf]; omega⟩
set_option maxHeartbeats 2000000 in
set_option maxRecDepth 100000 in
theorem dsp_long (c m : Int) (zs : List Int) (v : Value) (w : World) (I : Is w v zs) (hb : ∀ i, i < zs.length → 0 ≤ zs.getD i 0 ∧ zs.getD i 0 ≤ 1000000000) (hl : 64 < zs.length) : Calls Tryd.prog 8 #[.agg (mcl c m).toArray, v] w fun e w' => e = .returned (.tuple #[.slice none 0 0, .int .i64 2]) ∧ Below w.heap.size w w' := by
  have HB := (show Hid _ from hb)
  clear hb
  have HI := (show Hid _ from I.step ((Below.refl _ _).alloc (Nat.le_refl _) (.cells (mcl c m).toArray 23)))
  have VM_0 := (show Hid _ from va_new w (mcl c m) 23)
  have BB_0 := (show Hid _ from (Below.refl w.heap.size w).alloc (Nat.le_refl _) (.cells (mcl c m).toArray 23))
  obtain ⟨va, vc, e0, _, hc, _⟩ := I.form
  clear I
  obtain ⟨n, hn⟩ : ∃ n, zs.length = n := ⟨_, rfl⟩
  have HN := (show Hid _ from hn)
  have hn1 : (n : Int) ≤ 9223372036854775807 := by omega
  rw [hn] at e0
  subst e0
  clear hc
  have hn2 : 64 < (n : Int) := by omega
  clear hl
  clear hn
  go_enter Tryd.func8, Tryd.ntmps8
  go_upto_region 1 with fail
  change Code.wp _ _ _ _ (w.alloc (.cells (mcl c m).toArray 23))
  generalize w.alloc (.cells (mcl c m).toArray 23) = wa at *
  go_wp2_with fail
  go_loop [7, 26] (fun s7 s26 => ∃ i : Nat, i ≤ n ∧ s26 = .int .i64 (i : Int)) (fun _ s26 => n - (intOf s26).toNat)
  case atStart => exact ⟨0, by omega, by go_num⟩
  case round =>
    obtain ⟨i, hi, rfl⟩ := hrel
    by_cases hin : (n : Int) ≤ (i : Int)
    · have hn3 : ((n : Int) == 0) = false := by simp; omega
      go_wp2_with fail
      exact bodyPost_ret (v := .tuple #[.slice none 0 0, .int .i64 2]) (by simp [results, Tryd.results8, go_sem]) rfl ⟨rfl, BB_0.out⟩
    · have hi1 : (i : Int) < (n : Int) := by omega
      obtain ⟨va', vc', ea, _, _, h3⟩ := HI.out.form
      obtain ⟨b, off, eb, hb0, hx⟩ := h3 (by rw [HN.out]; omega)
      subst eb
      rw [HN.out] at ea hx
      injection ea with ea1 ea2 ea3
      subst ea1
      subst ea3
      have cw := hx i (by omega)
      clear hx h3
      obtain ⟨z, hz⟩ : ∃ z, zs.getD i 0 = z := ⟨_, rfl⟩
      rw [hz] at cw
      have hg := HB.out i (by rw [HN.out]; omega)
      rw [hz] at hg
      have g1 : 0 ≤ z := hg.1
      have g2 : z ≤ 1000000000 := hg.2
      clear hg hz
      go_wp2_with fail
      refine ⟨⟨i + 1, by omega, by go_num⟩, by simp [intOf]; omega⟩
set_option maxHeartbeats 2000000 in
set_option maxRecDepth 100000 in
theorem dsp_form (c m : Int) (zs : List Int) (v : Value) (w : World) (I : Is w v zs) (hb : ∀ i, i < zs.length → 0 ≤ zs.getD i 0 ∧ zs.getD i 0 ≤ 1000000000) (hl0 : 0 < zs.length) (hl : zs.length ≤ 64) (hm : mform c m = false) : Calls Tryd.prog 8 #[.agg (mcl c m).toArray, v] w fun e w' => e = .returned (.tuple #[.slice none 0 0, .int .i64 3]) ∧ Below w.heap.size w w' := by
  have HB := (show Hid _ from hb)
  clear hb
  have HI := (show Hid _ from I.step ((Below.refl _ _).alloc (Nat.le_refl _) (.cells (mcl c m).toArray 23)))
  have VM_0 := (show Hid _ from va_new w (mcl c m) 23)
  have BB_0 := (show Hid _ from (Below.refl w.heap.size w).alloc (Nat.le_refl _) (.cells (mcl c m).toArray 23))
  obtain ⟨va, vc, e0, _, hc, _⟩ := I.form
  clear I
  obtain ⟨n, hn⟩ : ∃ n, zs.length = n := ⟨_, rfl⟩
  have HN := (show Hid _ from hn)
  have hn1 : (n : Int) ≤ 9223372036854775807 := by omega
  rw [hn] at e0
  subst e0
  clear hc
  have hn2 : (n : Int) ≤ 64 := by omega
  have hn0 : 0 < n := by omega
  have hn3 : ((n : Int) == 0) = false := by simp; omega
  clear hl hl0
  clear hn
  go_enter Tryd.func8, Tryd.ntmps8
  go_upto_region 1 with fail
  change Code.wp _ _ _ _ (w.alloc (.cells (mcl c m).toArray 23))
  generalize w.alloc (.cells (mcl c m).toArray 23) = wa at *
  go_wp2_with fail
  go_loop [7, 26] (fun s7 s26 => ∃ i : Nat, i ≤ n ∧ s26 = .int .i64 (i : Int)) (fun _ s26 => n - (intOf s26).toNat)
  case atStart => exact ⟨0, by omega, by go_num⟩
  case round =>
    obtain ⟨i, hi, rfl⟩ := hrel
    by_cases hin : (n : Int) ≤ (i : Int)
    · have y0 := VM_0.out.cell 0 (v := .int .i64 c) rfl
      have y1 := VM_0.out.cell 1 (v := .int .i64 m) rfl
      go_wp2_with fail
      clear y0 y1
      refine (rform_ok c m _).mono ?_
      rintro e w1 ⟨rfl, b1⟩
      have BB_1 := (show Hid _ from BB_0.out.trans (b1.mono BB_0.out.size))
      clear b1 VM_0 BB_0
      rw [hm]
      go_wp2_with fail
      exact bodyPost_ret (v := .tuple #[.slice none 0 0, .int .i64 3]) (by simp [results, Tryd.results8, go_sem]) rfl ⟨rfl, BB_1.out⟩
    · have hi1 : (i : Int) < (n : Int) := by omega
      obtain ⟨va', vc', ea, _, _, h3⟩ := HI.out.form
      obtain ⟨b, off, eb, hb0, hx⟩ := h3 (by rw [HN.out]; omega)
      subst eb
      rw [HN.out] at ea hx
      injection ea with ea1 ea2 ea3
      subst ea1
      subst ea3
      have cw := hx i (by omega)
      clear hx h3
      obtain ⟨z, hz⟩ : ∃ z, zs.getD i 0 = z := ⟨_, rfl⟩
      rw [hz] at cw
      have hg := HB.out i (by rw [HN.out]; omega)
      rw [hz] at hg
      have g1 : 0 ≤ z := hg.1
      have g2 : z ≤ 1000000000 := hg.2
      clear hg hz
      go_wp2_with fail
      refine ⟨⟨i + 1, by omega, by go_num⟩, by simp [intOf]; omega⟩
set_option maxHeartbeats 2000000 in
set_option maxRecDepth 100000 in
theorem dsp_zero (c m : Int) (zs : List Int) (v : Value) (w : World) (I : Is w v zs) (hb : ∀ i, i < zs.length → 0 ≤ zs.getD i 0 ∧ zs.getD i 0 ≤ 1000000000) (hl0 : 0 < zs.length) (hl : zs.length ≤ 64) (hm : mform c m = true) (W : Nat → Nat) (hW : ∀ i, i < zs.length → zs.getD i 0 = (W i : Int)) (ht : sm W zs.length = 0) : Calls Tryd.prog 8 #[.agg (mcl c m).toArray, v] w fun e w' => e = .returned (.tuple #[.slice none 0 0, .int .i64 5]) ∧ Below w.heap.size w w' := by
  have HB := (show Hid _ from hb)
  clear hb
  have HW := (show Hid _ from hW)
  clear hW
  have HI := (show Hid _ from I.step ((Below.refl _ _).alloc (Nat.le_refl _) (.cells (mcl c m).toArray 23)))
  have VM_0 := (show Hid _ from va_new w (mcl c m) 23)
  have BB_0 := (show Hid _ from (Below.refl w.heap.size w).alloc (Nat.le_refl _) (.cells (mcl c m).toArray 23))
  obtain ⟨va, vc, e0, _, hc, _⟩ := I.form
  clear I
  obtain ⟨n, hn⟩ : ∃ n, zs.length = n := ⟨_, rfl⟩
  have HN := (show Hid _ from hn)
  have hn1 : (n : Int) ≤ 9223372036854775807 := by omega
  rw [hn] at e0
  subst e0
  clear hc
  have hn2 : (n : Int) ≤ 64 := by omega
  have hn0 : 0 < n := by omega
  have hn3 : ((n : Int) == 0) = false := by simp; omega
  clear hl hl0
  rw [hn] at ht
  have HT := (show Hid _ from ht)
  clear ht
  clear hn
  go_enter Tryd.func8, Tryd.ntmps8
  go_upto_region 1 with fail
  change Code.wp _ _ _ _ (w.alloc (.cells (mcl c m).toArray 23))
  generalize w.alloc (.cells (mcl c m).toArray 23) = wa at *
  go_wp2_with fail
  go_loop [7, 26] (fun s7 s26 => ∃ i : Nat, i ≤ n ∧ s26 = .int .i64 (i : Int)) (fun _ s26 => n - (intOf s26).toNat)
  case atStart => exact ⟨0, by omega, by go_num⟩
  case round =>
    obtain ⟨i, hi, rfl⟩ := hrel
    by_cases hin : (n : Int) ≤ (i : Int)
    · have y0 := VM_0.out.cell 0 (v := .int .i64 c) rfl
      have y1 := VM_0.out.cell 1 (v := .int .i64 m) rfl
      go_wp2_with fail
      clear y0 y1
      refine (rform_ok c m _).mono ?_
      rintro e w1 ⟨rfl, b1⟩
      have HI_1 := (show Hid _ from (HI.out.step b1))
      have VM_1 := (show Hid _ from VM_0.out.step b1)
      have BB_1 := (show Hid _ from BB_0.out.trans (b1.mono BB_0.out.size))
      clear b1 VM_0 BB_0 HI
      rw [hm]
      go_wp2_with fail
      refine (word_ok 0 _ (by omega) (by omega)).mono ?_
      rintro e w2 ⟨⟨u2, rfl, n2⟩, b2⟩
      have HW_2 : Hid (Wts w2 (.slice va n vc) n W) := by have h := (HI_1.out.step b2).wts HW.out; rw [HN.out] at h; exact h
      have VM_2 := (show Hid _ from VM_1.out.step b2)
      have BB_2 := (show Hid _ from BB_1.out.trans (b2.mono BB_1.out.size))
      have NN_2 : Hid (Nm w2 u2 0) := n2
      clear b2 n2 HI_1 VM_1 BB_1
      go_wp2_with fail
      go_loopw [8, 10, 51] (fun s8 s10 s51 wr => ∃ (i : Nat) (u : Value), i ≤ n ∧ s51 = .int .i64 (i : Int) ∧ u = s8 ∧ Hid (Nm wr u (sm W i)) ∧ Hid (Below w2.heap.size w2 wr)) (fun _ _ s51 _ => n - (intOf s51).toNat)
      case atStart => exact ⟨0, u2, by omega, by go_num, rfl, NN_2.out, Below.refl _ _⟩
      case round =>
        obtain ⟨i, u, hi, rfl, rfl, NN, BB⟩ := hrel
        by_cases hin : (n : Int) ≤ (i : Int)
        · obtain rfl : i = n := by omega
          have h0 := NN.out
          rw [HT.out] at h0
          obtain ⟨ua, un, uc, rfl⟩ := h0.form
          obtain rfl : un = 0 := h0.len.1.2 rfl
          clear h0
          have BB_9 := (show Hid _ from BB_2.out.trans (BB.out.mono BB_2.out.size))
          go_wp2_with fail
          exact bodyPost_ret (v := .tuple #[.slice none 0 0, .int .i64 5]) (by simp [results, Tryd.results8, go_sem]) rfl ⟨rfl, BB_9.out⟩
        · have hi1 : (i : Int) < (n : Int) := by omega
          have hi2 : i < n := by omega
          obtain ⟨a0, c0', ea, h3⟩ := (HW_2.out.step BB.out).form
          obtain ⟨b, off, eb, hb0, hx⟩ := h3 (by omega)
          subst eb
          injection ea with ea1 ea2 ea3
          subst ea1
          subst ea3
          have cw := hx i hi2
          clear hx h3 ea2
          obtain ⟨x, hxe⟩ : ∃ x, W i = x := ⟨_, rfl⟩
          rw [hxe] at cw
          have HXE := (show Hid _ from hxe)
          have hx1 : (x : Int) ≤ 1000000000 := by
            have h1 := HB.out i (by rw [HN.out]; exact hi2)
            have h2 := HW.out i (by rw [HN.out]; exact hi2)
            omega
          clear hxe
          go_wp2_with fail
          clear cw
          refine (word_ok (x : Int) _ (by omega) (by omega)).mono ?_
          rintro e w4 ⟨⟨u4, rfl, n4⟩, b4⟩
          rw [Int.toNat_natCast] at n4
          have N4 := (show Hid _ from n4)
          have NN_4 := (show Hid _ from NN.out.step b4)
          have BB_4 := (show Hid _ from BB.out.trans (b4.mono BB.out.size))
          clear n4 b4 NN BB
          go_wp2_with fail
          refine (plus_ok u u4 (sm W i) x _ NN_4.out N4.out (md_small ?_) (md_small (by omega))).mono ?_
          · have h1 := sm_bound (f := W) (n := i) (t := 1000000000) (fun j hj => by
              have h1 := HB.out j (by rw [HN.out]; omega)
              have h2 := HW.out j (by rw [HN.out]; omega)
              omega)
            omega
          rintro e w5 ⟨⟨u5, rfl, n5⟩, b5⟩
          have N5 := (show Hid _ from n5)
          have BB_5 := (show Hid _ from BB_4.out.trans (b5.mono BB_4.out.size))
          clear n5 b5 NN_4 N4 BB_4
          go_wp2_with fail
          refine ⟨⟨i + 1, u5, by omega, by go_num, rfl, ?_, BB_5.out⟩, by simp [intOf]; omega⟩
          rw [sm_succ, HXE.out]; exact N5.out
    · have hi1 : (i : Int) < (n : Int) := by omega
      obtain ⟨va', vc', ea, _, _, h3⟩ := HI.out.form
      obtain ⟨b, off, eb, hb0, hx⟩ := h3 (by rw [HN.out]; omega)
      subst eb
      rw [HN.out] at ea hx
      injection ea with ea1 ea2 ea3
      subst ea1
      subst ea3
      have cw := hx i (by omega)
      clear hx h3
      obtain ⟨z, hz⟩ : ∃ z, zs.getD i 0 = z := ⟨_, rfl⟩
      rw [hz] at cw
      have hg := HB.out i (by rw [HN.out]; omega)
      rw [hz] at hg
      have g1 : 0 ≤ z := hg.1
      have g2 : z ≤ 1000000000 := hg.2
      clear hg hz
      go_wp2_with fail
      refine ⟨⟨i + 1, by omega, by go_num⟩, by simp [intOf]; omega⟩
end Go.Proofs.YtbgglghapjfdeaaDoor
