/- money: the contracts of checkBoth, Add, Sub, Cmp, and of the document's Form, DocTwo, DocCmp, DocDigits. -/
import Derived.Test.YtcnigpkmedgbdaaDoorBa
namespace Go.Proofs.YtcnigpkmedgbdaaDoor
open Go.RowKit
set_option linter.unusedVariables false

theorem chk_yes (c n : Int) (w : World) (h : mform c n = true) : Calls Tryd.prog 16 #[.agg (mcl c n).toArray] w fun e w' => e = .returned (.int .i64 0) ∧ Below w.heap.size w w' := by
  have := mcheck_ok c n w
  rw [if_pos h] at this
  exact this
theorem chk_no (c n : Int) (w : World) (h : mform c n = false) : Calls Tryd.prog 16 #[.agg (mcl c n).toArray] w fun e w' => e = .returned (.int .i64 3) ∧ Below w.heap.size w w' := by
  have := mcheck_ok c n w
  rw [if_neg (by rw [h]; decide)] at this
  exact this
theorem rcur_ok (n : Int) (w : World) : Calls Tryd.prog 34 #[.int .i64 n] w fun e w' => e = .returned (.bool (wi n (0) 3)) ∧ w' = w := by
  unfold wi
  by_cases h1 : 0 ≤ n
  · by_cases h2 : n < 4
    · rw [show decide (0 ≤ n ∧ n ≤ 3) = true by simp; omega]
      go_enter Tryd.func34, Tryd.ntmps34
      go_wp2_with fail
      go_ret
      exact ⟨rfl, rfl⟩
    · rw [show decide (0 ≤ n ∧ n ≤ 3) = false by simp; omega]
      go_enter Tryd.func34, Tryd.ntmps34
      go_wp2_with fail
      go_ret
      exact ⟨rfl, rfl⟩
  · rw [show decide (0 ≤ n ∧ n ≤ 3) = false by simp; omega]
    go_enter Tryd.func34, Tryd.ntmps34
    go_wp2_with fail
    go_ret
    exact ⟨rfl, rfl⟩
theorem ramount_ok (n : Int) (w : World) : Calls Tryd.prog 31 #[.int .i64 n] w fun e w' => e = .returned (.bool (wi n (-10000000000000) 10000000000000)) ∧ w' = w := by
  unfold wi
  by_cases h1 : -10000000000000 ≤ n
  · by_cases h2 : n ≤ 10000000000000
    · rw [show decide (-10000000000000 ≤ n ∧ n ≤ 10000000000000) = true by simp; omega]
      go_enter Tryd.func31, Tryd.ntmps31
      go_wp2_with fail
      go_ret
      exact ⟨rfl, rfl⟩
    · rw [show decide (-10000000000000 ≤ n ∧ n ≤ 10000000000000) = false by simp; omega]
      go_enter Tryd.func31, Tryd.ntmps31
      go_wp2_with fail
      go_ret
      exact ⟨rfl, rfl⟩
  · rw [show decide (-10000000000000 ≤ n ∧ n ≤ 10000000000000) = false by simp; omega]
    go_enter Tryd.func31, Tryd.ntmps31
    go_wp2_with fail
    go_ret
    exact ⟨rfl, rfl⟩
theorem rform_ok (c n : Int) (w : World) : Calls Tryd.prog 17 #[.agg (mcl c n).toArray] w fun e w' => e = .returned (.bool (mform c n)) ∧ Below w.heap.size w w' := by
  have B0 := (show Hid _ from (Below.refl w.heap.size w).alloc (Nat.le_refl _) (.cells #[.int .i64 c, .int .i64 n] 23))
  unfold mform mcl
  by_cases h1 : wi c 0 3 = true
  · rw [h1, Bool.true_and]
    go_enter Tryd.func17, Tryd.ntmps17
    go_wp2_with fail
    refine (rcur_ok c _).mono ?_
    rintro e w1 ⟨rfl, hq⟩
    obtain rfl := hq.symm
    rw [h1]
    go_wp2_with fail
    refine (ramount_ok n _).mono ?_
    rintro e w1 ⟨rfl, hq⟩
    obtain rfl := hq.symm
    go_wp2_with fail
    go_ret
    exact ⟨rfl, B0.out⟩
  · replace h1 : wi c 0 3 = false := by simpa using h1
    rw [h1, Bool.false_and]
    go_enter Tryd.func17, Tryd.ntmps17
    go_wp2_with fail
    refine (rcur_ok c _).mono ?_
    rintro e w1 ⟨rfl, hq⟩
    obtain rfl := hq.symm
    rw [h1]
    go_wp2_with fail
    go_ret
    exact ⟨rfl, B0.out⟩
theorem cb_a (ca na cb nb : Int) (w : World) (h1 : mform ca na = false) :
    Calls Tryd.prog 29 #[.agg (mcl ca na).toArray, .agg (mcl cb nb).toArray] w fun e w' => e = .returned (.int .i64 3) ∧ Below w.heap.size w w' := by
  have VA_0 := (show Hid _ from ((va_new w (mcl ca na) 23).alloc (.cells (mcl cb nb).toArray 23)))
  have VB_0 := (show Hid _ from (va_new (w.alloc (.cells (mcl ca na).toArray 23)) (mcl cb nb) 23))
  rw [show (w.alloc (.cells (mcl ca na).toArray 23)).heap.size = w.heap.size + 1 by simp] at VB_0
  have BX := (Below.refl w.heap.size w).alloc (Nat.le_refl _) (.cells (mcl ca na).toArray 23)
  have BB_0 := (show Hid _ from BX.alloc BX.size (.cells (mcl cb nb).toArray 23))
  clear BX
  go_enter Tryd.func29, Tryd.ntmps29
  go_wp2_with (first | (refine ldA rfl 23 _ rfl w.heap.size (by rfl) (mcl ca na) _ VA_0.out _ Tryd.underlying23 rfl infoM ?_) | (refine ldA rfl 23 _ rfl (w.heap.size + 1) (by rfl) (mcl cb nb) _ VB_0.out _ Tryd.underlying23 rfl infoM ?_))
  refine (chk_no ca na _ h1).mono ?_
  rintro e w1 ⟨rfl, b1⟩
  have VA_1 := (show Hid _ from VA_0.out.step b1)
  have VB_1 := (show Hid _ from VB_0.out.step b1)
  have BB_1 := (show Hid _ from BB_0.out.trans (b1.mono BB_0.out.size))
  clear b1 VA_0 VB_0 BB_0
  clear VA_1 VB_1
  go_wp2_with fail
  exact bodyPost_ret (v := .int .i64 3) (by simp [results, Tryd.results29, go_sem]) rfl ⟨rfl, BB_1.out⟩
theorem cb_b (ca na cb nb : Int) (w : World) (h1 : mform ca na = true) (h2 : mform cb nb = false) :
    Calls Tryd.prog 29 #[.agg (mcl ca na).toArray, .agg (mcl cb nb).toArray] w fun e w' => e = .returned (.int .i64 3) ∧ Below w.heap.size w w' := by
  have VA_0 := (show Hid _ from ((va_new w (mcl ca na) 23).alloc (.cells (mcl cb nb).toArray 23)))
  have VB_0 := (show Hid _ from (va_new (w.alloc (.cells (mcl ca na).toArray 23)) (mcl cb nb) 23))
  rw [show (w.alloc (.cells (mcl ca na).toArray 23)).heap.size = w.heap.size + 1 by simp] at VB_0
  have BX := (Below.refl w.heap.size w).alloc (Nat.le_refl _) (.cells (mcl ca na).toArray 23)
  have BB_0 := (show Hid _ from BX.alloc BX.size (.cells (mcl cb nb).toArray 23))
  clear BX
  go_enter Tryd.func29, Tryd.ntmps29
  go_wp2_with (first | (refine ldA rfl 23 _ rfl w.heap.size (by rfl) (mcl ca na) _ VA_0.out _ Tryd.underlying23 rfl infoM ?_) | (refine ldA rfl 23 _ rfl (w.heap.size + 1) (by rfl) (mcl cb nb) _ VB_0.out _ Tryd.underlying23 rfl infoM ?_))
  refine (chk_yes ca na _ h1).mono ?_
  rintro e w1 ⟨rfl, b1⟩
  have VA_1 := (show Hid _ from VA_0.out.step b1)
  have VB_1 := (show Hid _ from VB_0.out.step b1)
  have BB_1 := (show Hid _ from BB_0.out.trans (b1.mono BB_0.out.size))
  clear b1 VA_0 VB_0 BB_0
  have b0 := VB_1.out.cell 0 (v := .int .i64 cb) rfl
  have b1 := VB_1.out.cell 1 (v := .int .i64 nb) rfl
  go_wp2_with fail
  clear b0 b1
  refine (chk_no cb nb _ h2).mono ?_
  rintro e w2 ⟨rfl, b2⟩
  have VA_2 := (show Hid _ from VA_1.out.step b2)
  have VB_2 := (show Hid _ from VB_1.out.step b2)
  have BB_2 := (show Hid _ from BB_1.out.trans (b2.mono BB_1.out.size))
  clear b2 VA_1 VB_1 BB_1
  clear VA_2 VB_2
  go_wp2_with fail
  exact bodyPost_ret (v := .int .i64 3) (by simp [results, Tryd.results29, go_sem]) rfl ⟨rfl, BB_2.out⟩
theorem cb_cur (ca na cb nb : Int) (w : World) (h1 : mform ca na = true) (h2 : mform cb nb = true) (h3 : ca ≠ cb) :
    Calls Tryd.prog 29 #[.agg (mcl ca na).toArray, .agg (mcl cb nb).toArray] w fun e w' => e = .returned (.int .i64 10) ∧ Below w.heap.size w w' := by
  have VA_0 := (show Hid _ from ((va_new w (mcl ca na) 23).alloc (.cells (mcl cb nb).toArray 23)))
  have VB_0 := (show Hid _ from (va_new (w.alloc (.cells (mcl ca na).toArray 23)) (mcl cb nb) 23))
  rw [show (w.alloc (.cells (mcl ca na).toArray 23)).heap.size = w.heap.size + 1 by simp] at VB_0
  have BX := (Below.refl w.heap.size w).alloc (Nat.le_refl _) (.cells (mcl ca na).toArray 23)
  have BB_0 := (show Hid _ from BX.alloc BX.size (.cells (mcl cb nb).toArray 23))
  clear BX
  go_enter Tryd.func29, Tryd.ntmps29
  go_wp2_with (first | (refine ldA rfl 23 _ rfl w.heap.size (by rfl) (mcl ca na) _ VA_0.out _ Tryd.underlying23 rfl infoM ?_) | (refine ldA rfl 23 _ rfl (w.heap.size + 1) (by rfl) (mcl cb nb) _ VB_0.out _ Tryd.underlying23 rfl infoM ?_))
  refine (chk_yes ca na _ h1).mono ?_
  rintro e w1 ⟨rfl, b1⟩
  have VA_1 := (show Hid _ from VA_0.out.step b1)
  have VB_1 := (show Hid _ from VB_0.out.step b1)
  have BB_1 := (show Hid _ from BB_0.out.trans (b1.mono BB_0.out.size))
  clear b1 VA_0 VB_0 BB_0
  have b0 := VB_1.out.cell 0 (v := .int .i64 cb) rfl
  have b1 := VB_1.out.cell 1 (v := .int .i64 nb) rfl
  go_wp2_with fail
  clear b0 b1
  refine (chk_yes cb nb _ h2).mono ?_
  rintro e w2 ⟨rfl, b2⟩
  have VA_2 := (show Hid _ from VA_1.out.step b2)
  have VB_2 := (show Hid _ from VB_1.out.step b2)
  have BB_2 := (show Hid _ from BB_1.out.trans (b2.mono BB_1.out.size))
  clear b2 VA_1 VB_1 BB_1
  have a0 := VA_2.out.cell 0 (v := .int .i64 ca) rfl
  have a1 := VA_2.out.cell 1 (v := .int .i64 na) rfl
  have b0 := VB_2.out.cell 0 (v := .int .i64 cb) rfl
  have b1 := VB_2.out.cell 1 (v := .int .i64 nb) rfl
  have d : (ca != cb) = true := by rw [bne_iff_ne]; exact h3
  go_wp2_with fail
  exact bodyPost_ret (v := .int .i64 10) (by simp [results, Tryd.results29, go_sem]) rfl ⟨rfl, BB_2.out⟩
theorem cb_ok (ca na nb : Int) (w : World) (h1 : mform ca na = true) (h2 : mform ca nb = true) :
    Calls Tryd.prog 29 #[.agg (mcl ca na).toArray, .agg (mcl ca nb).toArray] w fun e w' => e = .returned (.int .i64 0) ∧ Below w.heap.size w w' := by
  have VA_0 := (show Hid _ from ((va_new w (mcl ca na) 23).alloc (.cells (mcl ca nb).toArray 23)))
  have VB_0 := (show Hid _ from (va_new (w.alloc (.cells (mcl ca na).toArray 23)) (mcl ca nb) 23))
  rw [show (w.alloc (.cells (mcl ca na).toArray 23)).heap.size = w.heap.size + 1 by simp] at VB_0
  have BX := (Below.refl w.heap.size w).alloc (Nat.le_refl _) (.cells (mcl ca na).toArray 23)
  have BB_0 := (show Hid _ from BX.alloc BX.size (.cells (mcl ca nb).toArray 23))
  clear BX
  go_enter Tryd.func29, Tryd.ntmps29
  go_wp2_with (first | (refine ldA rfl 23 _ rfl w.heap.size (by rfl) (mcl ca na) _ VA_0.out _ Tryd.underlying23 rfl infoM ?_) | (refine ldA rfl 23 _ rfl (w.heap.size + 1) (by rfl) (mcl ca nb) _ VB_0.out _ Tryd.underlying23 rfl infoM ?_))
  refine (chk_yes ca na _ h1).mono ?_
  rintro e w1 ⟨rfl, b1⟩
  have VA_1 := (show Hid _ from VA_0.out.step b1)
  have VB_1 := (show Hid _ from VB_0.out.step b1)
  have BB_1 := (show Hid _ from BB_0.out.trans (b1.mono BB_0.out.size))
  clear b1 VA_0 VB_0 BB_0
  have b0 := VB_1.out.cell 0 (v := .int .i64 ca) rfl
  have b1 := VB_1.out.cell 1 (v := .int .i64 nb) rfl
  go_wp2_with fail
  clear b0 b1
  refine (chk_yes ca nb _ h2).mono ?_
  rintro e w2 ⟨rfl, b2⟩
  have VA_2 := (show Hid _ from VA_1.out.step b2)
  have VB_2 := (show Hid _ from VB_1.out.step b2)
  have BB_2 := (show Hid _ from BB_1.out.trans (b2.mono BB_1.out.size))
  clear b2 VA_1 VB_1 BB_1
  have a0 := VA_2.out.cell 0 (v := .int .i64 ca) rfl
  have a1 := VA_2.out.cell 1 (v := .int .i64 na) rfl
  have b0 := VB_2.out.cell 0 (v := .int .i64 ca) rfl
  have b1 := VB_2.out.cell 1 (v := .int .i64 nb) rfl
  have d : (ca != ca) = false := by simp
  go_wp2_with fail
  exact bodyPost_ret (v := .int .i64 0) (by simp [results, Tryd.results29, go_sem]) rfl ⟨rfl, BB_2.out⟩
/-- what checkBoth answers -/
def cbe (ca na cb nb : Int) : Int := if mform ca na && mform cb nb then (if ca = cb then 0 else 10) else 3
theorem cb_any (ca na cb nb : Int) (w : World) : Calls Tryd.prog 29 #[.agg (mcl ca na).toArray, .agg (mcl cb nb).toArray] w fun e w' => e = .returned (.int .i64 (cbe ca na cb nb)) ∧ Below w.heap.size w w' := by
  by_cases h1 : mform ca na = true
  · by_cases h2 : mform cb nb = true
    · by_cases h3 : ca = cb
      · subst h3
        rw [show cbe ca na ca nb = 0 by unfold cbe; rw [h1, h2]; simp]
        exact cb_ok ca na nb w h1 h2
      · rw [show cbe ca na cb nb = 10 by unfold cbe; rw [h1, h2]; simp [h3]]
        exact cb_cur ca na cb nb w h1 h2 h3
    · replace h2 : mform cb nb = false := by simpa using h2
      rw [show cbe ca na cb nb = 3 by unfold cbe; rw [h1, h2]; simp]
      exact cb_b ca na cb nb w h1 h2
  · replace h1 : mform ca na = false := by simpa using h1
    rw [show cbe ca na cb nb = 3 by unfold cbe; rw [h1]; simp]
    exact cb_a ca na cb nb w h1
theorem mf_parts {c n : Int} (h : mform c n = true) : (0 ≤ c ∧ c ≤ 3) ∧ -10000000000000 ≤ n ∧ n ≤ 10000000000000 := by
  unfold mform at h
  rw [Bool.and_eq_true] at h
  exact ⟨of_decide_eq_true h.1, of_decide_eq_true h.2⟩
theorem Add_err (ca na cb nb : Int) (w : World) (E : Int) (he : cbe ca na cb nb = E) (h0 : E ≠ 0) :
    Calls Tryd.prog 8 #[.agg (mcl ca na).toArray, .agg (mcl cb nb).toArray] w fun e w' => e = .returned (.tuple #[.agg (mcl 0 0).toArray, .int .i64 E]) ∧ Below w.heap.size w w' := by
  have VA_0 := (show Hid _ from ((va_new w (mcl ca na) 23).alloc (.cells (mcl cb nb).toArray 23)).alloc (.cells (mcl 0 0).toArray 23))
  have VB_0 := (show Hid _ from (va_new (w.alloc (.cells (mcl ca na).toArray 23)) (mcl cb nb) 23).alloc (.cells (mcl 0 0).toArray 23))
  rw [show (w.alloc (.cells (mcl ca na).toArray 23)).heap.size = w.heap.size + 1 by simp] at VB_0
  have BX := (Below.refl w.heap.size w).alloc (Nat.le_refl _) (.cells (mcl ca na).toArray 23)
  have VR_0 := (show Hid _ from va_new ((w.alloc (.cells (mcl ca na).toArray 23)).alloc (.cells (mcl cb nb).toArray 23)) (mcl 0 0) 23)
  rw [show ((w.alloc (.cells (mcl ca na).toArray 23)).alloc (.cells (mcl cb nb).toArray 23)).heap.size = w.heap.size + 1 + 1 by simp] at VR_0
  have BB_0 := (show Hid _ from (BX.alloc BX.size (.cells (mcl cb nb).toArray 23)).alloc (by simp; omega) (.cells (mcl 0 0).toArray 23))
  clear BX
  have hne : (E != 0) = true := by rw [bne_iff_ne]; exact h0
  have C0 := cb_any ca na cb nb
  rw [he] at C0
  have C := (show Hid _ from C0)
  clear C0 he h0
  go_enter Tryd.func8, Tryd.ntmps8
  go_wp2_with (first | (refine ldA rfl 23 _ rfl w.heap.size (by rfl) (mcl ca na) _ VA_0.out _ Tryd.underlying23 rfl infoM ?_) | (refine ldA rfl 23 _ rfl (w.heap.size + 1) (by rfl) (mcl cb nb) _ VB_0.out _ Tryd.underlying23 rfl infoM ?_))
  refine (C.out _).mono ?_
  rintro e w1 ⟨rfl, b1⟩
  have VA_1 := (show Hid _ from VA_0.out.step b1)
  have VB_1 := (show Hid _ from VB_0.out.step b1)
  have VR_1 := (show Hid _ from VR_0.out.step b1)
  have BB_1 := (show Hid _ from BB_0.out.trans (b1.mono BB_0.out.size))
  clear b1 VA_0 VB_0 VR_0 BB_0
  go_wp2_with (refine stA rfl 23 _ _ rfl (w.heap.size + 1 + 1) (by rfl) (mcl 0 0) (mcl 0 0) (by rfl) 23 VR_1.out infoM rfl (mcl_one _ _) ?_; intro wf vf uf)
  have hld := run_loadVar_row (P := Tryd.prog) wf (w.heap.size + 1 + 1) 23 23 _ (0, 0) _ vf.blk Tryd.underlying23 rfl infoM
  exact bodyPost_ret (v := .tuple #[.agg (mcl 0 0).toArray, .int .i64 E]) (by simp [results, Tryd.results8, asAddr, hld]) rfl ⟨rfl, uf.bel BB_1.out (by omega)⟩
theorem Add_ok (ca na cb nb : Int) (w : World) (he : cbe ca na cb nb = 0) (hb : (-10000000000000 ≤ na ∧ na ≤ 10000000000000) ∧ -10000000000000 ≤ nb ∧ nb ≤ 10000000000000) (hr : wi (na + nb) (-10000000000000) 10000000000000 = true) :
    Calls Tryd.prog 8 #[.agg (mcl ca na).toArray, .agg (mcl cb nb).toArray] w fun e w' => e = .returned (.tuple #[.agg (mcl ca (na + nb)).toArray, .int .i64 0]) ∧ Below w.heap.size w w' := by
  have VA_0 := (show Hid _ from ((va_new w (mcl ca na) 23).alloc (.cells (mcl cb nb).toArray 23)).alloc (.cells (mcl 0 0).toArray 23))
  have VB_0 := (show Hid _ from (va_new (w.alloc (.cells (mcl ca na).toArray 23)) (mcl cb nb) 23).alloc (.cells (mcl 0 0).toArray 23))
  rw [show (w.alloc (.cells (mcl ca na).toArray 23)).heap.size = w.heap.size + 1 by simp] at VB_0
  have BX := (Below.refl w.heap.size w).alloc (Nat.le_refl _) (.cells (mcl ca na).toArray 23)
  have VR_0 := (show Hid _ from va_new ((w.alloc (.cells (mcl ca na).toArray 23)).alloc (.cells (mcl cb nb).toArray 23)) (mcl 0 0) 23)
  rw [show ((w.alloc (.cells (mcl ca na).toArray 23)).alloc (.cells (mcl cb nb).toArray 23)).heap.size = w.heap.size + 1 + 1 by simp] at VR_0
  have BB_0 := (show Hid _ from (BX.alloc BX.size (.cells (mcl cb nb).toArray 23)).alloc (by simp; omega) (.cells (mcl 0 0).toArray 23))
  clear BX
  have C0 := cb_any ca na cb nb
  rw [he] at C0
  have C := (show Hid _ from C0)
  clear C0 he
  go_enter Tryd.func8, Tryd.ntmps8
  go_wp2_with (first | (refine ldA rfl 23 _ rfl w.heap.size (by rfl) (mcl ca na) _ VA_0.out _ Tryd.underlying23 rfl infoM ?_) | (refine ldA rfl 23 _ rfl (w.heap.size + 1) (by rfl) (mcl cb nb) _ VB_0.out _ Tryd.underlying23 rfl infoM ?_))
  refine (C.out _).mono ?_
  rintro e w1 ⟨rfl, b1⟩
  have VA_1 := (show Hid _ from VA_0.out.step b1)
  have VB_1 := (show Hid _ from VB_0.out.step b1)
  have VR_1 := (show Hid _ from VR_0.out.step b1)
  have BB_1 := (show Hid _ from BB_0.out.trans (b1.mono BB_0.out.size))
  clear b1 VA_0 VB_0 VR_0 BB_0
  have a0 := VA_1.out.cell 0 (v := .int .i64 ca) rfl
  have a1 := VA_1.out.cell 1 (v := .int .i64 na) rfl
  have b0 := VB_1.out.cell 0 (v := .int .i64 cb) rfl
  have b1 := VB_1.out.cell 1 (v := .int .i64 nb) rfl
  go_wp2_with fail
  clear a0 a1 b0 b1
  refine (amount_yes ca (na + nb) _ hr).mono ?_
  rintro e w2 ⟨rfl, b2⟩
  have VA_2 := (show Hid _ from VA_1.out.step b2)
  have VB_2 := (show Hid _ from VB_1.out.step b2)
  have VR_2 := (show Hid _ from VR_1.out.step b2)
  have BB_2 := (show Hid _ from BB_1.out.trans (b2.mono BB_1.out.size))
  clear b2 VA_1 VB_1 VR_1 BB_1
  go_wp2_with (refine stA rfl 23 _ _ rfl (w.heap.size + 1 + 1) (by rfl) (mcl 0 0) (mcl ca (na + nb)) (by rfl) 23 VR_2.out infoM rfl (mcl_one _ _) ?_; intro wf vf uf)
  have hld := run_loadVar_row (P := Tryd.prog) wf (w.heap.size + 1 + 1) 23 23 _ (0, 0) _ vf.blk Tryd.underlying23 rfl infoM
  exact bodyPost_ret (v := .tuple #[.agg (mcl ca (na + nb)).toArray, .int .i64 0]) (by simp [results, Tryd.results8, asAddr, hld]) rfl ⟨rfl, uf.bel BB_2.out (by omega)⟩
theorem Add_rng (ca na cb nb : Int) (w : World) (he : cbe ca na cb nb = 0) (hb : (-10000000000000 ≤ na ∧ na ≤ 10000000000000) ∧ -10000000000000 ≤ nb ∧ nb ≤ 10000000000000) (hr : wi (na + nb) (-10000000000000) 10000000000000 = false) :
    Calls Tryd.prog 8 #[.agg (mcl ca na).toArray, .agg (mcl cb nb).toArray] w fun e w' => e = .returned (.tuple #[.agg (mcl 0 0).toArray, .int .i64 4]) ∧ Below w.heap.size w w' := by
  have VA_0 := (show Hid _ from ((va_new w (mcl ca na) 23).alloc (.cells (mcl cb nb).toArray 23)).alloc (.cells (mcl 0 0).toArray 23))
  have VB_0 := (show Hid _ from (va_new (w.alloc (.cells (mcl ca na).toArray 23)) (mcl cb nb) 23).alloc (.cells (mcl 0 0).toArray 23))
  rw [show (w.alloc (.cells (mcl ca na).toArray 23)).heap.size = w.heap.size + 1 by simp] at VB_0
  have BX := (Below.refl w.heap.size w).alloc (Nat.le_refl _) (.cells (mcl ca na).toArray 23)
  have VR_0 := (show Hid _ from va_new ((w.alloc (.cells (mcl ca na).toArray 23)).alloc (.cells (mcl cb nb).toArray 23)) (mcl 0 0) 23)
  rw [show ((w.alloc (.cells (mcl ca na).toArray 23)).alloc (.cells (mcl cb nb).toArray 23)).heap.size = w.heap.size + 1 + 1 by simp] at VR_0
  have BB_0 := (show Hid _ from (BX.alloc BX.size (.cells (mcl cb nb).toArray 23)).alloc (by simp; omega) (.cells (mcl 0 0).toArray 23))
  clear BX
  have C0 := cb_any ca na cb nb
  rw [he] at C0
  have C := (show Hid _ from C0)
  clear C0 he
  go_enter Tryd.func8, Tryd.ntmps8
  go_wp2_with (first | (refine ldA rfl 23 _ rfl w.heap.size (by rfl) (mcl ca na) _ VA_0.out _ Tryd.underlying23 rfl infoM ?_) | (refine ldA rfl 23 _ rfl (w.heap.size + 1) (by rfl) (mcl cb nb) _ VB_0.out _ Tryd.underlying23 rfl infoM ?_))
  refine (C.out _).mono ?_
  rintro e w1 ⟨rfl, b1⟩
  have VA_1 := (show Hid _ from VA_0.out.step b1)
  have VB_1 := (show Hid _ from VB_0.out.step b1)
  have VR_1 := (show Hid _ from VR_0.out.step b1)
  have BB_1 := (show Hid _ from BB_0.out.trans (b1.mono BB_0.out.size))
  clear b1 VA_0 VB_0 VR_0 BB_0
  have a0 := VA_1.out.cell 0 (v := .int .i64 ca) rfl
  have a1 := VA_1.out.cell 1 (v := .int .i64 na) rfl
  have b0 := VB_1.out.cell 0 (v := .int .i64 cb) rfl
  have b1 := VB_1.out.cell 1 (v := .int .i64 nb) rfl
  go_wp2_with fail
  clear a0 a1 b0 b1
  refine (amount_no ca (na + nb) _ hr).mono ?_
  rintro e w2 ⟨rfl, b2⟩
  have VA_2 := (show Hid _ from VA_1.out.step b2)
  have VB_2 := (show Hid _ from VB_1.out.step b2)
  have VR_2 := (show Hid _ from VR_1.out.step b2)
  have BB_2 := (show Hid _ from BB_1.out.trans (b2.mono BB_1.out.size))
  clear b2 VA_1 VB_1 VR_1 BB_1
  go_wp2_with (refine stA rfl 23 _ _ rfl (w.heap.size + 1 + 1) (by rfl) (mcl 0 0) (mcl 0 0) (by rfl) 23 VR_2.out infoM rfl (mcl_one _ _) ?_; intro wf vf uf)
  have hld := run_loadVar_row (P := Tryd.prog) wf (w.heap.size + 1 + 1) 23 23 _ (0, 0) _ vf.blk Tryd.underlying23 rfl infoM
  exact bodyPost_ret (v := .tuple #[.agg (mcl 0 0).toArray, .int .i64 4]) (by simp [results, Tryd.results8, asAddr, hld]) rfl ⟨rfl, uf.bel BB_2.out (by omega)⟩
theorem Sub_err (ca na cb nb : Int) (w : World) (E : Int) (he : cbe ca na cb nb = E) (h0 : E ≠ 0) :
    Calls Tryd.prog 10 #[.agg (mcl ca na).toArray, .agg (mcl cb nb).toArray] w fun e w' => e = .returned (.tuple #[.agg (mcl 0 0).toArray, .int .i64 E]) ∧ Below w.heap.size w w' := by
  have VA_0 := (show Hid _ from ((va_new w (mcl ca na) 23).alloc (.cells (mcl cb nb).toArray 23)).alloc (.cells (mcl 0 0).toArray 23))
  have VB_0 := (show Hid _ from (va_new (w.alloc (.cells (mcl ca na).toArray 23)) (mcl cb nb) 23).alloc (.cells (mcl 0 0).toArray 23))
  rw [show (w.alloc (.cells (mcl ca na).toArray 23)).heap.size = w.heap.size + 1 by simp] at VB_0
  have BX := (Below.refl w.heap.size w).alloc (Nat.le_refl _) (.cells (mcl ca na).toArray 23)
  have VR_0 := (show Hid _ from va_new ((w.alloc (.cells (mcl ca na).toArray 23)).alloc (.cells (mcl cb nb).toArray 23)) (mcl 0 0) 23)
  rw [show ((w.alloc (.cells (mcl ca na).toArray 23)).alloc (.cells (mcl cb nb).toArray 23)).heap.size = w.heap.size + 1 + 1 by simp] at VR_0
  have BB_0 := (show Hid _ from (BX.alloc BX.size (.cells (mcl cb nb).toArray 23)).alloc (by simp; omega) (.cells (mcl 0 0).toArray 23))
  clear BX
  have hne : (E != 0) = true := by rw [bne_iff_ne]; exact h0
  have C0 := cb_any ca na cb nb
  rw [he] at C0
  have C := (show Hid _ from C0)
  clear C0 he h0
  go_enter Tryd.func10, Tryd.ntmps10
  go_wp2_with (first | (refine ldA rfl 23 _ rfl w.heap.size (by rfl) (mcl ca na) _ VA_0.out _ Tryd.underlying23 rfl infoM ?_) | (refine ldA rfl 23 _ rfl (w.heap.size + 1) (by rfl) (mcl cb nb) _ VB_0.out _ Tryd.underlying23 rfl infoM ?_))
  refine (C.out _).mono ?_
  rintro e w1 ⟨rfl, b1⟩
  have VA_1 := (show Hid _ from VA_0.out.step b1)
  have VB_1 := (show Hid _ from VB_0.out.step b1)
  have VR_1 := (show Hid _ from VR_0.out.step b1)
  have BB_1 := (show Hid _ from BB_0.out.trans (b1.mono BB_0.out.size))
  clear b1 VA_0 VB_0 VR_0 BB_0
  go_wp2_with (refine stA rfl 23 _ _ rfl (w.heap.size + 1 + 1) (by rfl) (mcl 0 0) (mcl 0 0) (by rfl) 23 VR_1.out infoM rfl (mcl_one _ _) ?_; intro wf vf uf)
  have hld := run_loadVar_row (P := Tryd.prog) wf (w.heap.size + 1 + 1) 23 23 _ (0, 0) _ vf.blk Tryd.underlying23 rfl infoM
  exact bodyPost_ret (v := .tuple #[.agg (mcl 0 0).toArray, .int .i64 E]) (by simp [results, Tryd.results10, asAddr, hld]) rfl ⟨rfl, uf.bel BB_1.out (by omega)⟩
theorem Sub_ok (ca na cb nb : Int) (w : World) (he : cbe ca na cb nb = 0) (hb : (-10000000000000 ≤ na ∧ na ≤ 10000000000000) ∧ -10000000000000 ≤ nb ∧ nb ≤ 10000000000000) (hr : wi (na - nb) (-10000000000000) 10000000000000 = true) :
    Calls Tryd.prog 10 #[.agg (mcl ca na).toArray, .agg (mcl cb nb).toArray] w fun e w' => e = .returned (.tuple #[.agg (mcl ca (na - nb)).toArray, .int .i64 0]) ∧ Below w.heap.size w w' := by
  have VA_0 := (show Hid _ from ((va_new w (mcl ca na) 23).alloc (.cells (mcl cb nb).toArray 23)).alloc (.cells (mcl 0 0).toArray 23))
  have VB_0 := (show Hid _ from (va_new (w.alloc (.cells (mcl ca na).toArray 23)) (mcl cb nb) 23).alloc (.cells (mcl 0 0).toArray 23))
  rw [show (w.alloc (.cells (mcl ca na).toArray 23)).heap.size = w.heap.size + 1 by simp] at VB_0
  have BX := (Below.refl w.heap.size w).alloc (Nat.le_refl _) (.cells (mcl ca na).toArray 23)
  have VR_0 := (show Hid _ from va_new ((w.alloc (.cells (mcl ca na).toArray 23)).alloc (.cells (mcl cb nb).toArray 23)) (mcl 0 0) 23)
  rw [show ((w.alloc (.cells (mcl ca na).toArray 23)).alloc (.cells (mcl cb nb).toArray 23)).heap.size = w.heap.size + 1 + 1 by simp] at VR_0
  have BB_0 := (show Hid _ from (BX.alloc BX.size (.cells (mcl cb nb).toArray 23)).alloc (by simp; omega) (.cells (mcl 0 0).toArray 23))
  clear BX
  have C0 := cb_any ca na cb nb
  rw [he] at C0
  have C := (show Hid _ from C0)
  clear C0 he
  go_enter Tryd.func10, Tryd.ntmps10
  go_wp2_with (first | (refine ldA rfl 23 _ rfl w.heap.size (by rfl) (mcl ca na) _ VA_0.out _ Tryd.underlying23 rfl infoM ?_) | (refine ldA rfl 23 _ rfl (w.heap.size + 1) (by rfl) (mcl cb nb) _ VB_0.out _ Tryd.underlying23 rfl infoM ?_))
  refine (C.out _).mono ?_
  rintro e w1 ⟨rfl, b1⟩
  have VA_1 := (show Hid _ from VA_0.out.step b1)
  have VB_1 := (show Hid _ from VB_0.out.step b1)
  have VR_1 := (show Hid _ from VR_0.out.step b1)
  have BB_1 := (show Hid _ from BB_0.out.trans (b1.mono BB_0.out.size))
  clear b1 VA_0 VB_0 VR_0 BB_0
  have a0 := VA_1.out.cell 0 (v := .int .i64 ca) rfl
  have a1 := VA_1.out.cell 1 (v := .int .i64 na) rfl
  have b0 := VB_1.out.cell 0 (v := .int .i64 cb) rfl
  have b1 := VB_1.out.cell 1 (v := .int .i64 nb) rfl
  go_wp2_with fail
  clear a0 a1 b0 b1
  refine (amount_yes ca (na - nb) _ hr).mono ?_
  rintro e w2 ⟨rfl, b2⟩
  have VA_2 := (show Hid _ from VA_1.out.step b2)
  have VB_2 := (show Hid _ from VB_1.out.step b2)
  have VR_2 := (show Hid _ from VR_1.out.step b2)
  have BB_2 := (show Hid _ from BB_1.out.trans (b2.mono BB_1.out.size))
  clear b2 VA_1 VB_1 VR_1 BB_1
  go_wp2_with (refine stA rfl 23 _ _ rfl (w.heap.size + 1 + 1) (by rfl) (mcl 0 0) (mcl ca (na - nb)) (by rfl) 23 VR_2.out infoM rfl (mcl_one _ _) ?_; intro wf vf uf)
  have hld := run_loadVar_row (P := Tryd.prog) wf (w.heap.size + 1 + 1) 23 23 _ (0, 0) _ vf.blk Tryd.underlying23 rfl infoM
  exact bodyPost_ret (v := .tuple #[.agg (mcl ca (na - nb)).toArray, .int .i64 0]) (by simp [results, Tryd.results10, asAddr, hld]) rfl ⟨rfl, uf.bel BB_2.out (by omega)⟩
theorem Sub_rng (ca na cb nb : Int) (w : World) (he : cbe ca na cb nb = 0) (hb : (-10000000000000 ≤ na ∧ na ≤ 10000000000000) ∧ -10000000000000 ≤ nb ∧ nb ≤ 10000000000000) (hr : wi (na - nb) (-10000000000000) 10000000000000 = false) :
    Calls Tryd.prog 10 #[.agg (mcl ca na).toArray, .agg (mcl cb nb).toArray] w fun e w' => e = .returned (.tuple #[.agg (mcl 0 0).toArray, .int .i64 4]) ∧ Below w.heap.size w w' := by
  have VA_0 := (show Hid _ from ((va_new w (mcl ca na) 23).alloc (.cells (mcl cb nb).toArray 23)).alloc (.cells (mcl 0 0).toArray 23))
  have VB_0 := (show Hid _ from (va_new (w.alloc (.cells (mcl ca na).toArray 23)) (mcl cb nb) 23).alloc (.cells (mcl 0 0).toArray 23))
  rw [show (w.alloc (.cells (mcl ca na).toArray 23)).heap.size = w.heap.size + 1 by simp] at VB_0
  have BX := (Below.refl w.heap.size w).alloc (Nat.le_refl _) (.cells (mcl ca na).toArray 23)
  have VR_0 := (show Hid _ from va_new ((w.alloc (.cells (mcl ca na).toArray 23)).alloc (.cells (mcl cb nb).toArray 23)) (mcl 0 0) 23)
  rw [show ((w.alloc (.cells (mcl ca na).toArray 23)).alloc (.cells (mcl cb nb).toArray 23)).heap.size = w.heap.size + 1 + 1 by simp] at VR_0
  have BB_0 := (show Hid _ from (BX.alloc BX.size (.cells (mcl cb nb).toArray 23)).alloc (by simp; omega) (.cells (mcl 0 0).toArray 23))
  clear BX
  have C0 := cb_any ca na cb nb
  rw [he] at C0
  have C := (show Hid _ from C0)
  clear C0 he
  go_enter Tryd.func10, Tryd.ntmps10
  go_wp2_with (first | (refine ldA rfl 23 _ rfl w.heap.size (by rfl) (mcl ca na) _ VA_0.out _ Tryd.underlying23 rfl infoM ?_) | (refine ldA rfl 23 _ rfl (w.heap.size + 1) (by rfl) (mcl cb nb) _ VB_0.out _ Tryd.underlying23 rfl infoM ?_))
  refine (C.out _).mono ?_
  rintro e w1 ⟨rfl, b1⟩
  have VA_1 := (show Hid _ from VA_0.out.step b1)
  have VB_1 := (show Hid _ from VB_0.out.step b1)
  have VR_1 := (show Hid _ from VR_0.out.step b1)
  have BB_1 := (show Hid _ from BB_0.out.trans (b1.mono BB_0.out.size))
  clear b1 VA_0 VB_0 VR_0 BB_0
  have a0 := VA_1.out.cell 0 (v := .int .i64 ca) rfl
  have a1 := VA_1.out.cell 1 (v := .int .i64 na) rfl
  have b0 := VB_1.out.cell 0 (v := .int .i64 cb) rfl
  have b1 := VB_1.out.cell 1 (v := .int .i64 nb) rfl
  go_wp2_with fail
  clear a0 a1 b0 b1
  refine (amount_no ca (na - nb) _ hr).mono ?_
  rintro e w2 ⟨rfl, b2⟩
  have VA_2 := (show Hid _ from VA_1.out.step b2)
  have VB_2 := (show Hid _ from VB_1.out.step b2)
  have VR_2 := (show Hid _ from VR_1.out.step b2)
  have BB_2 := (show Hid _ from BB_1.out.trans (b2.mono BB_1.out.size))
  clear b2 VA_1 VB_1 VR_1 BB_1
  go_wp2_with (refine stA rfl 23 _ _ rfl (w.heap.size + 1 + 1) (by rfl) (mcl 0 0) (mcl 0 0) (by rfl) 23 VR_2.out infoM rfl (mcl_one _ _) ?_; intro wf vf uf)
  have hld := run_loadVar_row (P := Tryd.prog) wf (w.heap.size + 1 + 1) 23 23 _ (0, 0) _ vf.blk Tryd.underlying23 rfl infoM
  exact bodyPost_ret (v := .tuple #[.agg (mcl 0 0).toArray, .int .i64 4]) (by simp [results, Tryd.results10, asAddr, hld]) rfl ⟨rfl, uf.bel BB_2.out (by omega)⟩
theorem isnan_ok (n : Int) (w : World) : Calls Tryd.prog 57 #[.int .i64 n] w fun e w' => e = .returned (.bool false) ∧ w' = w := by
  have h : (n != n) = false := by simp
  go_enter Tryd.func57, Tryd.ntmps57
  go_wp2_with fail
  go_ret
  exact ⟨rfl, rfl⟩
/-- the order of two numbers -/
def ord (a b : Int) : Int := if a < b then -1 else if b < a then 1 else 0
theorem cmp64_ok (a b : Int) (w : World) : Calls Tryd.prog 32 #[.int .i64 a, .int .i64 b] w fun e w' => e = .returned (.int .i64 (ord a b)) ∧ w' = w := by
  by_cases h1 : a < b
  · have e : ord a b = -1 := by unfold ord; rw [if_pos h1]
    rw [e]
    have d1 : decide (a < b) = true := decide_eq_true h1
    clear h1 e
    go_enter Tryd.func32, Tryd.ntmps32
    go_wp2_with fail
    refine (isnan_ok a _).mono ?_
    rintro e w1 ⟨rfl, hq⟩
    obtain rfl := hq.symm
    go_wp2_with fail
    refine (isnan_ok b _).mono ?_
    rintro e w1 ⟨rfl, hq⟩
    obtain rfl := hq.symm
    go_wp2_with fail
    go_ret
    exact ⟨rfl, rfl⟩
  · have d1 : decide (a < b) = false := decide_eq_false h1
    by_cases h2 : b < a
    · have e : ord a b = 1 := by unfold ord; rw [if_neg h1, if_pos h2]
      rw [e]
      have d2 : decide (b < a) = true := decide_eq_true h2
      clear h1 h2 e
      go_enter Tryd.func32, Tryd.ntmps32
      go_wp2_with fail
      refine (isnan_ok a _).mono ?_
      rintro e w1 ⟨rfl, hq⟩
      obtain rfl := hq.symm
      go_wp2_with fail
      refine (isnan_ok b _).mono ?_
      rintro e w1 ⟨rfl, hq⟩
      obtain rfl := hq.symm
      go_wp2_with fail
      go_ret
      exact ⟨rfl, rfl⟩
    · have e : ord a b = 0 := by unfold ord; rw [if_neg h1, if_neg h2]
      rw [e]
      have d2 : decide (b < a) = false := decide_eq_false h2
      clear h1 h2 e
      go_enter Tryd.func32, Tryd.ntmps32
      go_wp2_with fail
      refine (isnan_ok a _).mono ?_
      rintro e w1 ⟨rfl, hq⟩
      obtain rfl := hq.symm
      go_wp2_with fail
      refine (isnan_ok b _).mono ?_
      rintro e w1 ⟨rfl, hq⟩
      obtain rfl := hq.symm
      go_wp2_with fail
      go_ret
      exact ⟨rfl, rfl⟩
theorem MCmp_err (ca na cb nb : Int) (w : World) (E : Int) (he : cbe ca na cb nb = E) (h0 : E ≠ 0) :
    Calls Tryd.prog 11 #[.agg (mcl ca na).toArray, .agg (mcl cb nb).toArray] w fun e w' => e = .returned (.tuple #[.int .i64 0, .int .i64 E]) ∧ Below w.heap.size w w' := by
  have VA_0 := (show Hid _ from ((va_new w (mcl ca na) 23).alloc (.cells (mcl cb nb).toArray 23)))
  have VB_0 := (show Hid _ from (va_new (w.alloc (.cells (mcl ca na).toArray 23)) (mcl cb nb) 23))
  rw [show (w.alloc (.cells (mcl ca na).toArray 23)).heap.size = w.heap.size + 1 by simp] at VB_0
  have BX := (Below.refl w.heap.size w).alloc (Nat.le_refl _) (.cells (mcl ca na).toArray 23)
  have BB_0 := (show Hid _ from BX.alloc BX.size (.cells (mcl cb nb).toArray 23))
  clear BX
  have hne : (E != 0) = true := by rw [bne_iff_ne]; exact h0
  have C0 := cb_any ca na cb nb
  rw [he] at C0
  have C := (show Hid _ from C0)
  clear C0 he h0
  go_enter Tryd.func11, Tryd.ntmps11
  go_wp2_with (first | (refine ldA rfl 23 _ rfl w.heap.size (by rfl) (mcl ca na) _ VA_0.out _ Tryd.underlying23 rfl infoM ?_) | (refine ldA rfl 23 _ rfl (w.heap.size + 1) (by rfl) (mcl cb nb) _ VB_0.out _ Tryd.underlying23 rfl infoM ?_))
  refine (C.out _).mono ?_
  rintro e w1 ⟨rfl, b1⟩
  have VA_1 := (show Hid _ from VA_0.out.step b1)
  have VB_1 := (show Hid _ from VB_0.out.step b1)
  have BB_1 := (show Hid _ from BB_0.out.trans (b1.mono BB_0.out.size))
  clear b1 VA_0 VB_0 BB_0
  go_wp2_with fail
  refine bodyPost_ret (v := .tuple #[.int .i64 0, .int .i64 E]) (by simp [results, Tryd.results11, go_sem]) rfl ?_
  exact ⟨rfl, BB_1.out⟩
theorem MCmp_ok (ca na cb nb : Int) (w : World) (he : cbe ca na cb nb = 0) :
    Calls Tryd.prog 11 #[.agg (mcl ca na).toArray, .agg (mcl cb nb).toArray] w fun e w' => e = .returned (.tuple #[.int .i64 (ord na nb), .int .i64 0]) ∧ Below w.heap.size w w' := by
  have VA_0 := (show Hid _ from ((va_new w (mcl ca na) 23).alloc (.cells (mcl cb nb).toArray 23)))
  have VB_0 := (show Hid _ from (va_new (w.alloc (.cells (mcl ca na).toArray 23)) (mcl cb nb) 23))
  rw [show (w.alloc (.cells (mcl ca na).toArray 23)).heap.size = w.heap.size + 1 by simp] at VB_0
  have BX := (Below.refl w.heap.size w).alloc (Nat.le_refl _) (.cells (mcl ca na).toArray 23)
  have BB_0 := (show Hid _ from BX.alloc BX.size (.cells (mcl cb nb).toArray 23))
  clear BX
  have C0 := cb_any ca na cb nb
  rw [he] at C0
  have C := (show Hid _ from C0)
  clear C0 he
  go_enter Tryd.func11, Tryd.ntmps11
  go_wp2_with (first | (refine ldA rfl 23 _ rfl w.heap.size (by rfl) (mcl ca na) _ VA_0.out _ Tryd.underlying23 rfl infoM ?_) | (refine ldA rfl 23 _ rfl (w.heap.size + 1) (by rfl) (mcl cb nb) _ VB_0.out _ Tryd.underlying23 rfl infoM ?_))
  refine (C.out _).mono ?_
  rintro e w1 ⟨rfl, b1⟩
  have VA_1 := (show Hid _ from VA_0.out.step b1)
  have VB_1 := (show Hid _ from VB_0.out.step b1)
  have BB_1 := (show Hid _ from BB_0.out.trans (b1.mono BB_0.out.size))
  clear b1 VA_0 VB_0 BB_0
  have a0 := VA_1.out.cell 0 (v := .int .i64 ca) rfl
  have a1 := VA_1.out.cell 1 (v := .int .i64 na) rfl
  have b0 := VB_1.out.cell 0 (v := .int .i64 cb) rfl
  have b1 := VB_1.out.cell 1 (v := .int .i64 nb) rfl
  go_wp2_with fail
  refine (cmp64_ok na nb _).mono ?_
  rintro e w2 ⟨rfl, hq⟩
  obtain rfl := hq.symm
  go_wp2_with fail
  refine bodyPost_ret (v := .tuple #[.int .i64 (ord na nb), .int .i64 0]) (by simp [results, Tryd.results11, go_sem]) rfl ?_
  exact ⟨rfl, BB_1.out⟩
end Go.Proofs.YtcnigpkmedgbdaaDoor
