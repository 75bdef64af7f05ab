/- money: the contracts of the document's DocTwo, DocCmp, DocDigits. -/
import Derived.Test.YtcnigpkmedgbdaaDoorBd
import Derived.Deep.DeepCutAuto
namespace Go.Proofs.YtcnigpkmedgbdaaDoor
open Go.RowKit
set_option linter.unusedVariables false

theorem dadd_a (ca na cb nb : Int) (w : World) (h1 : mform ca na = false) :
    Calls Tryd.prog 9 #[.agg (mcl ca na).toArray, .agg (mcl cb nb).toArray, .int .i64 (1)] w fun e w' => e = .returned (.tuple #[.agg (mcl 0 0).toArray, .int .i64 3]) ∧ Below w.heap.size w w' := by
  have VA_0 := (show Hid _ from ((va_new w (mcl ca na) 23).alloc (.cells (mcl cb nb).toArray 23)).alloc (.cells (mcl 0 0).toArray 23))
  have VB_0 := (show Hid _ from (va_new (w.alloc (.cells (mcl ca na).toArray 23)) (mcl cb nb) 23).alloc (.cells (mcl 0 0).toArray 23))
  rw [show (w.alloc (.cells (mcl ca na).toArray 23)).heap.size = w.heap.size + 1 by simp] at VB_0
  have BX := (Below.refl w.heap.size w).alloc (Nat.le_refl _) (.cells (mcl ca na).toArray 23)
  have VR_0 := (show Hid _ from va_new ((w.alloc (.cells (mcl ca na).toArray 23)).alloc (.cells (mcl cb nb).toArray 23)) (mcl 0 0) 23)
  rw [show ((w.alloc (.cells (mcl ca na).toArray 23)).alloc (.cells (mcl cb nb).toArray 23)).heap.size = w.heap.size + 1 + 1 by simp] at VR_0
  have BB_0 := (show Hid _ from (BX.alloc BX.size (.cells (mcl cb nb).toArray 23)).alloc (by simp; omega) (.cells (mcl 0 0).toArray 23))
  clear BX
  go_enter Tryd.func9, Tryd.ntmps9
  go_wp2_with (first | (refine ldA rfl 23 _ rfl w.heap.size (by rfl) (mcl ca na) _ VA_0.out _ Tryd.underlying23 rfl infoM ?_) | (refine ldA rfl 23 _ rfl (w.heap.size + 1) (by rfl) (mcl cb nb) _ VB_0.out _ Tryd.underlying23 rfl infoM ?_))
  refine (rform_ok ca na _).mono ?_
  rintro e w1 ⟨rfl, b1⟩
  have VA_1 := (show Hid _ from VA_0.out.step b1)
  have VB_1 := (show Hid _ from VB_0.out.step b1)
  have VR_1 := (show Hid _ from VR_0.out.step b1)
  have BB_1 := (show Hid _ from BB_0.out.trans (b1.mono BB_0.out.size))
  clear b1 VA_0 VB_0 VR_0 BB_0
  rw [h1]
  go_wp2_with (refine stA rfl 23 _ _ rfl (w.heap.size + 1 + 1) (by rfl) (mcl 0 0) (mcl 0 0) (by rfl) 23 VR_1.out infoM rfl (mcl_one _ _) ?_; intro wf vf uf)
  have hld := run_loadVar_row (P := Tryd.prog) wf (w.heap.size + 1 + 1) 23 23 _ (0, 0) _ vf.blk Tryd.underlying23 rfl infoM
  exact bodyPost_ret (v := .tuple #[.agg (mcl 0 0).toArray, .int .i64 3]) (by simp [results, Tryd.results9, asAddr, hld]) rfl ⟨rfl, uf.bel BB_1.out (by omega)⟩
theorem dadd_b (ca na cb nb : Int) (w : World) (h1 : mform ca na = true) (h2 : mform cb nb = false) :
    Calls Tryd.prog 9 #[.agg (mcl ca na).toArray, .agg (mcl cb nb).toArray, .int .i64 (1)] w fun e w' => e = .returned (.tuple #[.agg (mcl 0 0).toArray, .int .i64 3]) ∧ Below w.heap.size w w' := by
  have VA_0 := (show Hid _ from ((va_new w (mcl ca na) 23).alloc (.cells (mcl cb nb).toArray 23)).alloc (.cells (mcl 0 0).toArray 23))
  have VB_0 := (show Hid _ from (va_new (w.alloc (.cells (mcl ca na).toArray 23)) (mcl cb nb) 23).alloc (.cells (mcl 0 0).toArray 23))
  rw [show (w.alloc (.cells (mcl ca na).toArray 23)).heap.size = w.heap.size + 1 by simp] at VB_0
  have BX := (Below.refl w.heap.size w).alloc (Nat.le_refl _) (.cells (mcl ca na).toArray 23)
  have VR_0 := (show Hid _ from va_new ((w.alloc (.cells (mcl ca na).toArray 23)).alloc (.cells (mcl cb nb).toArray 23)) (mcl 0 0) 23)
  rw [show ((w.alloc (.cells (mcl ca na).toArray 23)).alloc (.cells (mcl cb nb).toArray 23)).heap.size = w.heap.size + 1 + 1 by simp] at VR_0
  have BB_0 := (show Hid _ from (BX.alloc BX.size (.cells (mcl cb nb).toArray 23)).alloc (by simp; omega) (.cells (mcl 0 0).toArray 23))
  clear BX
  go_enter Tryd.func9, Tryd.ntmps9
  go_wp2_with (first | (refine ldA rfl 23 _ rfl w.heap.size (by rfl) (mcl ca na) _ VA_0.out _ Tryd.underlying23 rfl infoM ?_) | (refine ldA rfl 23 _ rfl (w.heap.size + 1) (by rfl) (mcl cb nb) _ VB_0.out _ Tryd.underlying23 rfl infoM ?_))
  refine (rform_ok ca na _).mono ?_
  rintro e w1 ⟨rfl, b1⟩
  have VA_1 := (show Hid _ from VA_0.out.step b1)
  have VB_1 := (show Hid _ from VB_0.out.step b1)
  have VR_1 := (show Hid _ from VR_0.out.step b1)
  have BB_1 := (show Hid _ from BB_0.out.trans (b1.mono BB_0.out.size))
  clear b1 VA_0 VB_0 VR_0 BB_0
  rw [h1]
  have b0 := VB_1.out.cell 0 (v := .int .i64 cb) rfl
  have b1 := VB_1.out.cell 1 (v := .int .i64 nb) rfl
  go_wp2_with fail
  clear b0 b1
  refine (rform_ok cb nb _).mono ?_
  rintro e w2 ⟨rfl, b2⟩
  have VA_2 := (show Hid _ from VA_1.out.step b2)
  have VB_2 := (show Hid _ from VB_1.out.step b2)
  have VR_2 := (show Hid _ from VR_1.out.step b2)
  have BB_2 := (show Hid _ from BB_1.out.trans (b2.mono BB_1.out.size))
  clear b2 VA_1 VB_1 VR_1 BB_1
  rw [h2]
  go_wp2_with (refine stA rfl 23 _ _ rfl (w.heap.size + 1 + 1) (by rfl) (mcl 0 0) (mcl 0 0) (by rfl) 23 VR_2.out infoM rfl (mcl_one _ _) ?_; intro wf vf uf)
  have hld := run_loadVar_row (P := Tryd.prog) wf (w.heap.size + 1 + 1) 23 23 _ (0, 0) _ vf.blk Tryd.underlying23 rfl infoM
  exact bodyPost_ret (v := .tuple #[.agg (mcl 0 0).toArray, .int .i64 3]) (by simp [results, Tryd.results9, asAddr, hld]) rfl ⟨rfl, uf.bel BB_2.out (by omega)⟩
theorem dadd_c (ca na cb nb : Int) (w : World) (h1 : mform ca na = true) (h2 : mform cb nb = true) (h3 : ca ≠ cb) :
    Calls Tryd.prog 9 #[.agg (mcl ca na).toArray, .agg (mcl cb nb).toArray, .int .i64 (1)] w fun e w' => e = .returned (.tuple #[.agg (mcl 0 0).toArray, .int .i64 10]) ∧ Below w.heap.size w w' := by
  have VA_0 := (show Hid _ from ((va_new w (mcl ca na) 23).alloc (.cells (mcl cb nb).toArray 23)).alloc (.cells (mcl 0 0).toArray 23))
  have VB_0 := (show Hid _ from (va_new (w.alloc (.cells (mcl ca na).toArray 23)) (mcl cb nb) 23).alloc (.cells (mcl 0 0).toArray 23))
  rw [show (w.alloc (.cells (mcl ca na).toArray 23)).heap.size = w.heap.size + 1 by simp] at VB_0
  have BX := (Below.refl w.heap.size w).alloc (Nat.le_refl _) (.cells (mcl ca na).toArray 23)
  have VR_0 := (show Hid _ from va_new ((w.alloc (.cells (mcl ca na).toArray 23)).alloc (.cells (mcl cb nb).toArray 23)) (mcl 0 0) 23)
  rw [show ((w.alloc (.cells (mcl ca na).toArray 23)).alloc (.cells (mcl cb nb).toArray 23)).heap.size = w.heap.size + 1 + 1 by simp] at VR_0
  have BB_0 := (show Hid _ from (BX.alloc BX.size (.cells (mcl cb nb).toArray 23)).alloc (by simp; omega) (.cells (mcl 0 0).toArray 23))
  clear BX
  go_enter Tryd.func9, Tryd.ntmps9
  go_wp2_with (first | (refine ldA rfl 23 _ rfl w.heap.size (by rfl) (mcl ca na) _ VA_0.out _ Tryd.underlying23 rfl infoM ?_) | (refine ldA rfl 23 _ rfl (w.heap.size + 1) (by rfl) (mcl cb nb) _ VB_0.out _ Tryd.underlying23 rfl infoM ?_))
  refine (rform_ok ca na _).mono ?_
  rintro e w1 ⟨rfl, b1⟩
  have VA_1 := (show Hid _ from VA_0.out.step b1)
  have VB_1 := (show Hid _ from VB_0.out.step b1)
  have VR_1 := (show Hid _ from VR_0.out.step b1)
  have BB_1 := (show Hid _ from BB_0.out.trans (b1.mono BB_0.out.size))
  clear b1 VA_0 VB_0 VR_0 BB_0
  rw [h1]
  have b0 := VB_1.out.cell 0 (v := .int .i64 cb) rfl
  have b1 := VB_1.out.cell 1 (v := .int .i64 nb) rfl
  go_wp2_with fail
  clear b0 b1
  refine (rform_ok cb nb _).mono ?_
  rintro e w2 ⟨rfl, b2⟩
  have VA_2 := (show Hid _ from VA_1.out.step b2)
  have VB_2 := (show Hid _ from VB_1.out.step b2)
  have VR_2 := (show Hid _ from VR_1.out.step b2)
  have BB_2 := (show Hid _ from BB_1.out.trans (b2.mono BB_1.out.size))
  clear b2 VA_1 VB_1 VR_1 BB_1
  rw [h2]
  have a0 := VA_2.out.cell 0 (v := .int .i64 ca) rfl
  have a1 := VA_2.out.cell 1 (v := .int .i64 na) rfl
  have b0 := VB_2.out.cell 0 (v := .int .i64 cb) rfl
  have b1 := VB_2.out.cell 1 (v := .int .i64 nb) rfl
  have d : (ca != cb) = true := by rw [bne_iff_ne]; exact h3
  go_wp2_with (refine stA rfl 23 _ _ rfl (w.heap.size + 1 + 1) (by rfl) (mcl 0 0) (mcl 0 0) (by rfl) 23 VR_2.out infoM rfl (mcl_one _ _) ?_; intro wf vf uf)
  have hld := run_loadVar_row (P := Tryd.prog) wf (w.heap.size + 1 + 1) 23 23 _ (0, 0) _ vf.blk Tryd.underlying23 rfl infoM
  exact bodyPost_ret (v := .tuple #[.agg (mcl 0 0).toArray, .int .i64 10]) (by simp [results, Tryd.results9, asAddr, hld]) rfl ⟨rfl, uf.bel BB_2.out (by omega)⟩
theorem dadd_ok (ca na nb : Int) (w : World) (h1 : mform ca na = true) (h2 : mform ca nb = true) (hr : wi (na + nb) (-10000000000000) 10000000000000 = true) :
    Calls Tryd.prog 9 #[.agg (mcl ca na).toArray, .agg (mcl ca nb).toArray, .int .i64 (1)] w fun e w' => e = .returned (.tuple #[.agg (mcl ca (na + nb)).toArray, .int .i64 0]) ∧ Below w.heap.size w w' := by
  obtain ⟨_, n1, n2⟩ := mf_parts h1
  obtain ⟨_, n3, n4⟩ := mf_parts h2
  have VA_0 := (show Hid _ from ((va_new w (mcl ca na) 23).alloc (.cells (mcl ca nb).toArray 23)).alloc (.cells (mcl 0 0).toArray 23))
  have VB_0 := (show Hid _ from (va_new (w.alloc (.cells (mcl ca na).toArray 23)) (mcl ca nb) 23).alloc (.cells (mcl 0 0).toArray 23))
  rw [show (w.alloc (.cells (mcl ca na).toArray 23)).heap.size = w.heap.size + 1 by simp] at VB_0
  have BX := (Below.refl w.heap.size w).alloc (Nat.le_refl _) (.cells (mcl ca na).toArray 23)
  have VR_0 := (show Hid _ from va_new ((w.alloc (.cells (mcl ca na).toArray 23)).alloc (.cells (mcl ca nb).toArray 23)) (mcl 0 0) 23)
  rw [show ((w.alloc (.cells (mcl ca na).toArray 23)).alloc (.cells (mcl ca nb).toArray 23)).heap.size = w.heap.size + 1 + 1 by simp] at VR_0
  have BB_0 := (show Hid _ from (BX.alloc BX.size (.cells (mcl ca nb).toArray 23)).alloc (by simp; omega) (.cells (mcl 0 0).toArray 23))
  clear BX
  go_enter Tryd.func9, Tryd.ntmps9
  go_wp2_with (first | (refine ldA rfl 23 _ rfl w.heap.size (by rfl) (mcl ca na) _ VA_0.out _ Tryd.underlying23 rfl infoM ?_) | (refine ldA rfl 23 _ rfl (w.heap.size + 1) (by rfl) (mcl ca nb) _ VB_0.out _ Tryd.underlying23 rfl infoM ?_))
  refine (rform_ok ca na _).mono ?_
  rintro e w1 ⟨rfl, b1⟩
  have VA_1 := (show Hid _ from VA_0.out.step b1)
  have VB_1 := (show Hid _ from VB_0.out.step b1)
  have VR_1 := (show Hid _ from VR_0.out.step b1)
  have BB_1 := (show Hid _ from BB_0.out.trans (b1.mono BB_0.out.size))
  clear b1 VA_0 VB_0 VR_0 BB_0
  rw [h1]
  have b0 := VB_1.out.cell 0 (v := .int .i64 ca) rfl
  have b1 := VB_1.out.cell 1 (v := .int .i64 nb) rfl
  go_wp2_with fail
  clear b0 b1
  refine (rform_ok ca nb _).mono ?_
  rintro e w2 ⟨rfl, b2⟩
  have VA_2 := (show Hid _ from VA_1.out.step b2)
  have VB_2 := (show Hid _ from VB_1.out.step b2)
  have VR_2 := (show Hid _ from VR_1.out.step b2)
  have BB_2 := (show Hid _ from BB_1.out.trans (b2.mono BB_1.out.size))
  clear b2 VA_1 VB_1 VR_1 BB_1
  rw [h2]
  have a0 := VA_2.out.cell 0 (v := .int .i64 ca) rfl
  have a1 := VA_2.out.cell 1 (v := .int .i64 na) rfl
  have b0 := VB_2.out.cell 0 (v := .int .i64 ca) rfl
  have b1 := VB_2.out.cell 1 (v := .int .i64 nb) rfl
  have d : (ca != ca) = false := by simp
  go_upto_region 6 with fail
  go_wp2_with fail
  refine (ramount_ok (na + nb) _).mono ?_
  rintro e w3 ⟨rfl, hq⟩
  obtain rfl := hq.symm
  rw [hr]
  go_wp2_with (refine stA rfl 23 _ _ rfl (w.heap.size + 1 + 1) (by rfl) (mcl 0 0) (mcl ca (na + nb)) (by rfl) 23 VR_2.out infoM rfl (mcl_one _ _) ?_; intro wf vf uf)
  have hld := run_loadVar_row (P := Tryd.prog) wf (w.heap.size + 1 + 1) 23 23 _ (0, 0) _ vf.blk Tryd.underlying23 rfl infoM
  exact bodyPost_ret (v := .tuple #[.agg (mcl ca (na + nb)).toArray, .int .i64 0]) (by simp [results, Tryd.results9, asAddr, hld]) rfl ⟨rfl, uf.bel BB_2.out (by omega)⟩
theorem dadd_r (ca na nb : Int) (w : World) (h1 : mform ca na = true) (h2 : mform ca nb = true) (hr : wi (na + nb) (-10000000000000) 10000000000000 = false) :
    Calls Tryd.prog 9 #[.agg (mcl ca na).toArray, .agg (mcl ca nb).toArray, .int .i64 (1)] w fun e w' => e = .returned (.tuple #[.agg (mcl 0 0).toArray, .int .i64 4]) ∧ Below w.heap.size w w' := by
  obtain ⟨_, n1, n2⟩ := mf_parts h1
  obtain ⟨_, n3, n4⟩ := mf_parts h2
  have VA_0 := (show Hid _ from ((va_new w (mcl ca na) 23).alloc (.cells (mcl ca nb).toArray 23)).alloc (.cells (mcl 0 0).toArray 23))
  have VB_0 := (show Hid _ from (va_new (w.alloc (.cells (mcl ca na).toArray 23)) (mcl ca nb) 23).alloc (.cells (mcl 0 0).toArray 23))
  rw [show (w.alloc (.cells (mcl ca na).toArray 23)).heap.size = w.heap.size + 1 by simp] at VB_0
  have BX := (Below.refl w.heap.size w).alloc (Nat.le_refl _) (.cells (mcl ca na).toArray 23)
  have VR_0 := (show Hid _ from va_new ((w.alloc (.cells (mcl ca na).toArray 23)).alloc (.cells (mcl ca nb).toArray 23)) (mcl 0 0) 23)
  rw [show ((w.alloc (.cells (mcl ca na).toArray 23)).alloc (.cells (mcl ca nb).toArray 23)).heap.size = w.heap.size + 1 + 1 by simp] at VR_0
  have BB_0 := (show Hid _ from (BX.alloc BX.size (.cells (mcl ca nb).toArray 23)).alloc (by simp; omega) (.cells (mcl 0 0).toArray 23))
  clear BX
  go_enter Tryd.func9, Tryd.ntmps9
  go_wp2_with (first | (refine ldA rfl 23 _ rfl w.heap.size (by rfl) (mcl ca na) _ VA_0.out _ Tryd.underlying23 rfl infoM ?_) | (refine ldA rfl 23 _ rfl (w.heap.size + 1) (by rfl) (mcl ca nb) _ VB_0.out _ Tryd.underlying23 rfl infoM ?_))
  refine (rform_ok ca na _).mono ?_
  rintro e w1 ⟨rfl, b1⟩
  have VA_1 := (show Hid _ from VA_0.out.step b1)
  have VB_1 := (show Hid _ from VB_0.out.step b1)
  have VR_1 := (show Hid _ from VR_0.out.step b1)
  have BB_1 := (show Hid _ from BB_0.out.trans (b1.mono BB_0.out.size))
  clear b1 VA_0 VB_0 VR_0 BB_0
  rw [h1]
  have b0 := VB_1.out.cell 0 (v := .int .i64 ca) rfl
  have b1 := VB_1.out.cell 1 (v := .int .i64 nb) rfl
  go_wp2_with fail
  clear b0 b1
  refine (rform_ok ca nb _).mono ?_
  rintro e w2 ⟨rfl, b2⟩
  have VA_2 := (show Hid _ from VA_1.out.step b2)
  have VB_2 := (show Hid _ from VB_1.out.step b2)
  have VR_2 := (show Hid _ from VR_1.out.step b2)
  have BB_2 := (show Hid _ from BB_1.out.trans (b2.mono BB_1.out.size))
  clear b2 VA_1 VB_1 VR_1 BB_1
  rw [h2]
  have a0 := VA_2.out.cell 0 (v := .int .i64 ca) rfl
  have a1 := VA_2.out.cell 1 (v := .int .i64 na) rfl
  have b0 := VB_2.out.cell 0 (v := .int .i64 ca) rfl
  have b1 := VB_2.out.cell 1 (v := .int .i64 nb) rfl
  have d : (ca != ca) = false := by simp
  go_upto_region 6 with fail
  go_wp2_with fail
  refine (ramount_ok (na + nb) _).mono ?_
  rintro e w3 ⟨rfl, hq⟩
  obtain rfl := hq.symm
  rw [hr]
  go_wp2_with (refine stA rfl 23 _ _ rfl (w.heap.size + 1 + 1) (by rfl) (mcl 0 0) (mcl 0 0) (by rfl) 23 VR_2.out infoM rfl (mcl_one _ _) ?_; intro wf vf uf)
  have hld := run_loadVar_row (P := Tryd.prog) wf (w.heap.size + 1 + 1) 23 23 _ (0, 0) _ vf.blk Tryd.underlying23 rfl infoM
  exact bodyPost_ret (v := .tuple #[.agg (mcl 0 0).toArray, .int .i64 4]) (by simp [results, Tryd.results9, asAddr, hld]) rfl ⟨rfl, uf.bel BB_2.out (by omega)⟩
theorem dsub_a (ca na cb nb : Int) (w : World) (h1 : mform ca na = false) :
    Calls Tryd.prog 9 #[.agg (mcl ca na).toArray, .agg (mcl cb nb).toArray, .int .i64 (-1)] w fun e w' => e = .returned (.tuple #[.agg (mcl 0 0).toArray, .int .i64 3]) ∧ Below w.heap.size w w' := by
  have VA_0 := (show Hid _ from ((va_new w (mcl ca na) 23).alloc (.cells (mcl cb nb).toArray 23)).alloc (.cells (mcl 0 0).toArray 23))
  have VB_0 := (show Hid _ from (va_new (w.alloc (.cells (mcl ca na).toArray 23)) (mcl cb nb) 23).alloc (.cells (mcl 0 0).toArray 23))
  rw [show (w.alloc (.cells (mcl ca na).toArray 23)).heap.size = w.heap.size + 1 by simp] at VB_0
  have BX := (Below.refl w.heap.size w).alloc (Nat.le_refl _) (.cells (mcl ca na).toArray 23)
  have VR_0 := (show Hid _ from va_new ((w.alloc (.cells (mcl ca na).toArray 23)).alloc (.cells (mcl cb nb).toArray 23)) (mcl 0 0) 23)
  rw [show ((w.alloc (.cells (mcl ca na).toArray 23)).alloc (.cells (mcl cb nb).toArray 23)).heap.size = w.heap.size + 1 + 1 by simp] at VR_0
  have BB_0 := (show Hid _ from (BX.alloc BX.size (.cells (mcl cb nb).toArray 23)).alloc (by simp; omega) (.cells (mcl 0 0).toArray 23))
  clear BX
  go_enter Tryd.func9, Tryd.ntmps9
  go_wp2_with (first | (refine ldA rfl 23 _ rfl w.heap.size (by rfl) (mcl ca na) _ VA_0.out _ Tryd.underlying23 rfl infoM ?_) | (refine ldA rfl 23 _ rfl (w.heap.size + 1) (by rfl) (mcl cb nb) _ VB_0.out _ Tryd.underlying23 rfl infoM ?_))
  refine (rform_ok ca na _).mono ?_
  rintro e w1 ⟨rfl, b1⟩
  have VA_1 := (show Hid _ from VA_0.out.step b1)
  have VB_1 := (show Hid _ from VB_0.out.step b1)
  have VR_1 := (show Hid _ from VR_0.out.step b1)
  have BB_1 := (show Hid _ from BB_0.out.trans (b1.mono BB_0.out.size))
  clear b1 VA_0 VB_0 VR_0 BB_0
  rw [h1]
  go_wp2_with (refine stA rfl 23 _ _ rfl (w.heap.size + 1 + 1) (by rfl) (mcl 0 0) (mcl 0 0) (by rfl) 23 VR_1.out infoM rfl (mcl_one _ _) ?_; intro wf vf uf)
  have hld := run_loadVar_row (P := Tryd.prog) wf (w.heap.size + 1 + 1) 23 23 _ (0, 0) _ vf.blk Tryd.underlying23 rfl infoM
  exact bodyPost_ret (v := .tuple #[.agg (mcl 0 0).toArray, .int .i64 3]) (by simp [results, Tryd.results9, asAddr, hld]) rfl ⟨rfl, uf.bel BB_1.out (by omega)⟩
theorem dsub_b (ca na cb nb : Int) (w : World) (h1 : mform ca na = true) (h2 : mform cb nb = false) :
    Calls Tryd.prog 9 #[.agg (mcl ca na).toArray, .agg (mcl cb nb).toArray, .int .i64 (-1)] w fun e w' => e = .returned (.tuple #[.agg (mcl 0 0).toArray, .int .i64 3]) ∧ Below w.heap.size w w' := by
  have VA_0 := (show Hid _ from ((va_new w (mcl ca na) 23).alloc (.cells (mcl cb nb).toArray 23)).alloc (.cells (mcl 0 0).toArray 23))
  have VB_0 := (show Hid _ from (va_new (w.alloc (.cells (mcl ca na).toArray 23)) (mcl cb nb) 23).alloc (.cells (mcl 0 0).toArray 23))
  rw [show (w.alloc (.cells (mcl ca na).toArray 23)).heap.size = w.heap.size + 1 by simp] at VB_0
  have BX := (Below.refl w.heap.size w).alloc (Nat.le_refl _) (.cells (mcl ca na).toArray 23)
  have VR_0 := (show Hid _ from va_new ((w.alloc (.cells (mcl ca na).toArray 23)).alloc (.cells (mcl cb nb).toArray 23)) (mcl 0 0) 23)
  rw [show ((w.alloc (.cells (mcl ca na).toArray 23)).alloc (.cells (mcl cb nb).toArray 23)).heap.size = w.heap.size + 1 + 1 by simp] at VR_0
  have BB_0 := (show Hid _ from (BX.alloc BX.size (.cells (mcl cb nb).toArray 23)).alloc (by simp; omega) (.cells (mcl 0 0).toArray 23))
  clear BX
  go_enter Tryd.func9, Tryd.ntmps9
  go_wp2_with (first | (refine ldA rfl 23 _ rfl w.heap.size (by rfl) (mcl ca na) _ VA_0.out _ Tryd.underlying23 rfl infoM ?_) | (refine ldA rfl 23 _ rfl (w.heap.size + 1) (by rfl) (mcl cb nb) _ VB_0.out _ Tryd.underlying23 rfl infoM ?_))
  refine (rform_ok ca na _).mono ?_
  rintro e w1 ⟨rfl, b1⟩
  have VA_1 := (show Hid _ from VA_0.out.step b1)
  have VB_1 := (show Hid _ from VB_0.out.step b1)
  have VR_1 := (show Hid _ from VR_0.out.step b1)
  have BB_1 := (show Hid _ from BB_0.out.trans (b1.mono BB_0.out.size))
  clear b1 VA_0 VB_0 VR_0 BB_0
  rw [h1]
  have b0 := VB_1.out.cell 0 (v := .int .i64 cb) rfl
  have b1 := VB_1.out.cell 1 (v := .int .i64 nb) rfl
  go_wp2_with fail
  clear b0 b1
  refine (rform_ok cb nb _).mono ?_
  rintro e w2 ⟨rfl, b2⟩
  have VA_2 := (show Hid _ from VA_1.out.step b2)
  have VB_2 := (show Hid _ from VB_1.out.step b2)
  have VR_2 := (show Hid _ from VR_1.out.step b2)
  have BB_2 := (show Hid _ from BB_1.out.trans (b2.mono BB_1.out.size))
  clear b2 VA_1 VB_1 VR_1 BB_1
  rw [h2]
  go_wp2_with (refine stA rfl 23 _ _ rfl (w.heap.size + 1 + 1) (by rfl) (mcl 0 0) (mcl 0 0) (by rfl) 23 VR_2.out infoM rfl (mcl_one _ _) ?_; intro wf vf uf)
  have hld := run_loadVar_row (P := Tryd.prog) wf (w.heap.size + 1 + 1) 23 23 _ (0, 0) _ vf.blk Tryd.underlying23 rfl infoM
  exact bodyPost_ret (v := .tuple #[.agg (mcl 0 0).toArray, .int .i64 3]) (by simp [results, Tryd.results9, asAddr, hld]) rfl ⟨rfl, uf.bel BB_2.out (by omega)⟩
theorem dsub_c (ca na cb nb : Int) (w : World) (h1 : mform ca na = true) (h2 : mform cb nb = true) (h3 : ca ≠ cb) :
    Calls Tryd.prog 9 #[.agg (mcl ca na).toArray, .agg (mcl cb nb).toArray, .int .i64 (-1)] w fun e w' => e = .returned (.tuple #[.agg (mcl 0 0).toArray, .int .i64 10]) ∧ Below w.heap.size w w' := by
  have VA_0 := (show Hid _ from ((va_new w (mcl ca na) 23).alloc (.cells (mcl cb nb).toArray 23)).alloc (.cells (mcl 0 0).toArray 23))
  have VB_0 := (show Hid _ from (va_new (w.alloc (.cells (mcl ca na).toArray 23)) (mcl cb nb) 23).alloc (.cells (mcl 0 0).toArray 23))
  rw [show (w.alloc (.cells (mcl ca na).toArray 23)).heap.size = w.heap.size + 1 by simp] at VB_0
  have BX := (Below.refl w.heap.size w).alloc (Nat.le_refl _) (.cells (mcl ca na).toArray 23)
  have VR_0 := (show Hid _ from va_new ((w.alloc (.cells (mcl ca na).toArray 23)).alloc (.cells (mcl cb nb).toArray 23)) (mcl 0 0) 23)
  rw [show ((w.alloc (.cells (mcl ca na).toArray 23)).alloc (.cells (mcl cb nb).toArray 23)).heap.size = w.heap.size + 1 + 1 by simp] at VR_0
  have BB_0 := (show Hid _ from (BX.alloc BX.size (.cells (mcl cb nb).toArray 23)).alloc (by simp; omega) (.cells (mcl 0 0).toArray 23))
  clear BX
  go_enter Tryd.func9, Tryd.ntmps9
  go_wp2_with (first | (refine ldA rfl 23 _ rfl w.heap.size (by rfl) (mcl ca na) _ VA_0.out _ Tryd.underlying23 rfl infoM ?_) | (refine ldA rfl 23 _ rfl (w.heap.size + 1) (by rfl) (mcl cb nb) _ VB_0.out _ Tryd.underlying23 rfl infoM ?_))
  refine (rform_ok ca na _).mono ?_
  rintro e w1 ⟨rfl, b1⟩
  have VA_1 := (show Hid _ from VA_0.out.step b1)
  have VB_1 := (show Hid _ from VB_0.out.step b1)
  have VR_1 := (show Hid _ from VR_0.out.step b1)
  have BB_1 := (show Hid _ from BB_0.out.trans (b1.mono BB_0.out.size))
  clear b1 VA_0 VB_0 VR_0 BB_0
  rw [h1]
  have b0 := VB_1.out.cell 0 (v := .int .i64 cb) rfl
  have b1 := VB_1.out.cell 1 (v := .int .i64 nb) rfl
  go_wp2_with fail
  clear b0 b1
  refine (rform_ok cb nb _).mono ?_
  rintro e w2 ⟨rfl, b2⟩
  have VA_2 := (show Hid _ from VA_1.out.step b2)
  have VB_2 := (show Hid _ from VB_1.out.step b2)
  have VR_2 := (show Hid _ from VR_1.out.step b2)
  have BB_2 := (show Hid _ from BB_1.out.trans (b2.mono BB_1.out.size))
  clear b2 VA_1 VB_1 VR_1 BB_1
  rw [h2]
  have a0 := VA_2.out.cell 0 (v := .int .i64 ca) rfl
  have a1 := VA_2.out.cell 1 (v := .int .i64 na) rfl
  have b0 := VB_2.out.cell 0 (v := .int .i64 cb) rfl
  have b1 := VB_2.out.cell 1 (v := .int .i64 nb) rfl
  have d : (ca != cb) = true := by rw [bne_iff_ne]; exact h3
  go_wp2_with (refine stA rfl 23 _ _ rfl (w.heap.size + 1 + 1) (by rfl) (mcl 0 0) (mcl 0 0) (by rfl) 23 VR_2.out infoM rfl (mcl_one _ _) ?_; intro wf vf uf)
  have hld := run_loadVar_row (P := Tryd.prog) wf (w.heap.size + 1 + 1) 23 23 _ (0, 0) _ vf.blk Tryd.underlying23 rfl infoM
  exact bodyPost_ret (v := .tuple #[.agg (mcl 0 0).toArray, .int .i64 10]) (by simp [results, Tryd.results9, asAddr, hld]) rfl ⟨rfl, uf.bel BB_2.out (by omega)⟩
theorem dsub_ok (ca na nb : Int) (w : World) (h1 : mform ca na = true) (h2 : mform ca nb = true) (hr : wi (na - nb) (-10000000000000) 10000000000000 = true) :
    Calls Tryd.prog 9 #[.agg (mcl ca na).toArray, .agg (mcl ca nb).toArray, .int .i64 (-1)] w fun e w' => e = .returned (.tuple #[.agg (mcl ca (na - nb)).toArray, .int .i64 0]) ∧ Below w.heap.size w w' := by
  obtain ⟨_, n1, n2⟩ := mf_parts h1
  obtain ⟨_, n3, n4⟩ := mf_parts h2
  have VA_0 := (show Hid _ from ((va_new w (mcl ca na) 23).alloc (.cells (mcl ca nb).toArray 23)).alloc (.cells (mcl 0 0).toArray 23))
  have VB_0 := (show Hid _ from (va_new (w.alloc (.cells (mcl ca na).toArray 23)) (mcl ca nb) 23).alloc (.cells (mcl 0 0).toArray 23))
  rw [show (w.alloc (.cells (mcl ca na).toArray 23)).heap.size = w.heap.size + 1 by simp] at VB_0
  have BX := (Below.refl w.heap.size w).alloc (Nat.le_refl _) (.cells (mcl ca na).toArray 23)
  have VR_0 := (show Hid _ from va_new ((w.alloc (.cells (mcl ca na).toArray 23)).alloc (.cells (mcl ca nb).toArray 23)) (mcl 0 0) 23)
  rw [show ((w.alloc (.cells (mcl ca na).toArray 23)).alloc (.cells (mcl ca nb).toArray 23)).heap.size = w.heap.size + 1 + 1 by simp] at VR_0
  have BB_0 := (show Hid _ from (BX.alloc BX.size (.cells (mcl ca nb).toArray 23)).alloc (by simp; omega) (.cells (mcl 0 0).toArray 23))
  clear BX
  go_enter Tryd.func9, Tryd.ntmps9
  go_wp2_with (first | (refine ldA rfl 23 _ rfl w.heap.size (by rfl) (mcl ca na) _ VA_0.out _ Tryd.underlying23 rfl infoM ?_) | (refine ldA rfl 23 _ rfl (w.heap.size + 1) (by rfl) (mcl ca nb) _ VB_0.out _ Tryd.underlying23 rfl infoM ?_))
  refine (rform_ok ca na _).mono ?_
  rintro e w1 ⟨rfl, b1⟩
  have VA_1 := (show Hid _ from VA_0.out.step b1)
  have VB_1 := (show Hid _ from VB_0.out.step b1)
  have VR_1 := (show Hid _ from VR_0.out.step b1)
  have BB_1 := (show Hid _ from BB_0.out.trans (b1.mono BB_0.out.size))
  clear b1 VA_0 VB_0 VR_0 BB_0
  rw [h1]
  have b0 := VB_1.out.cell 0 (v := .int .i64 ca) rfl
  have b1 := VB_1.out.cell 1 (v := .int .i64 nb) rfl
  go_wp2_with fail
  clear b0 b1
  refine (rform_ok ca nb _).mono ?_
  rintro e w2 ⟨rfl, b2⟩
  have VA_2 := (show Hid _ from VA_1.out.step b2)
  have VB_2 := (show Hid _ from VB_1.out.step b2)
  have VR_2 := (show Hid _ from VR_1.out.step b2)
  have BB_2 := (show Hid _ from BB_1.out.trans (b2.mono BB_1.out.size))
  clear b2 VA_1 VB_1 VR_1 BB_1
  rw [h2]
  have a0 := VA_2.out.cell 0 (v := .int .i64 ca) rfl
  have a1 := VA_2.out.cell 1 (v := .int .i64 na) rfl
  have b0 := VB_2.out.cell 0 (v := .int .i64 ca) rfl
  have b1 := VB_2.out.cell 1 (v := .int .i64 nb) rfl
  have d : (ca != ca) = false := by simp
  go_upto_region 6 with fail
  go_wp2_with fail
  refine (ramount_ok (na - nb) _).mono ?_
  rintro e w3 ⟨rfl, hq⟩
  obtain rfl := hq.symm
  rw [hr]
  go_wp2_with (refine stA rfl 23 _ _ rfl (w.heap.size + 1 + 1) (by rfl) (mcl 0 0) (mcl ca (na - nb)) (by rfl) 23 VR_2.out infoM rfl (mcl_one _ _) ?_; intro wf vf uf)
  have hld := run_loadVar_row (P := Tryd.prog) wf (w.heap.size + 1 + 1) 23 23 _ (0, 0) _ vf.blk Tryd.underlying23 rfl infoM
  exact bodyPost_ret (v := .tuple #[.agg (mcl ca (na - nb)).toArray, .int .i64 0]) (by simp [results, Tryd.results9, asAddr, hld]) rfl ⟨rfl, uf.bel BB_2.out (by omega)⟩
theorem dsub_r (ca na nb : Int) (w : World) (h1 : mform ca na = true) (h2 : mform ca nb = true) (hr : wi (na - nb) (-10000000000000) 10000000000000 = false) :
    Calls Tryd.prog 9 #[.agg (mcl ca na).toArray, .agg (mcl ca nb).toArray, .int .i64 (-1)] w fun e w' => e = .returned (.tuple #[.agg (mcl 0 0).toArray, .int .i64 4]) ∧ Below w.heap.size w w' := by
  obtain ⟨_, n1, n2⟩ := mf_parts h1
  obtain ⟨_, n3, n4⟩ := mf_parts h2
  have VA_0 := (show Hid _ from ((va_new w (mcl ca na) 23).alloc (.cells (mcl ca nb).toArray 23)).alloc (.cells (mcl 0 0).toArray 23))
  have VB_0 := (show Hid _ from (va_new (w.alloc (.cells (mcl ca na).toArray 23)) (mcl ca nb) 23).alloc (.cells (mcl 0 0).toArray 23))
  rw [show (w.alloc (.cells (mcl ca na).toArray 23)).heap.size = w.heap.size + 1 by simp] at VB_0
  have BX := (Below.refl w.heap.size w).alloc (Nat.le_refl _) (.cells (mcl ca na).toArray 23)
  have VR_0 := (show Hid _ from va_new ((w.alloc (.cells (mcl ca na).toArray 23)).alloc (.cells (mcl ca nb).toArray 23)) (mcl 0 0) 23)
  rw [show ((w.alloc (.cells (mcl ca na).toArray 23)).alloc (.cells (mcl ca nb).toArray 23)).heap.size = w.heap.size + 1 + 1 by simp] at VR_0
  have BB_0 := (show Hid _ from (BX.alloc BX.size (.cells (mcl ca nb).toArray 23)).alloc (by simp; omega) (.cells (mcl 0 0).toArray 23))
  clear BX
  go_enter Tryd.func9, Tryd.ntmps9
  go_wp2_with (first | (refine ldA rfl 23 _ rfl w.heap.size (by rfl) (mcl ca na) _ VA_0.out _ Tryd.underlying23 rfl infoM ?_) | (refine ldA rfl 23 _ rfl (w.heap.size + 1) (by rfl) (mcl ca nb) _ VB_0.out _ Tryd.underlying23 rfl infoM ?_))
  refine (rform_ok ca na _).mono ?_
  rintro e w1 ⟨rfl, b1⟩
  have VA_1 := (show Hid _ from VA_0.out.step b1)
  have VB_1 := (show Hid _ from VB_0.out.step b1)
  have VR_1 := (show Hid _ from VR_0.out.step b1)
  have BB_1 := (show Hid _ from BB_0.out.trans (b1.mono BB_0.out.size))
  clear b1 VA_0 VB_0 VR_0 BB_0
  rw [h1]
  have b0 := VB_1.out.cell 0 (v := .int .i64 ca) rfl
  have b1 := VB_1.out.cell 1 (v := .int .i64 nb) rfl
  go_wp2_with fail
  clear b0 b1
  refine (rform_ok ca nb _).mono ?_
  rintro e w2 ⟨rfl, b2⟩
  have VA_2 := (show Hid _ from VA_1.out.step b2)
  have VB_2 := (show Hid _ from VB_1.out.step b2)
  have VR_2 := (show Hid _ from VR_1.out.step b2)
  have BB_2 := (show Hid _ from BB_1.out.trans (b2.mono BB_1.out.size))
  clear b2 VA_1 VB_1 VR_1 BB_1
  rw [h2]
  have a0 := VA_2.out.cell 0 (v := .int .i64 ca) rfl
  have a1 := VA_2.out.cell 1 (v := .int .i64 na) rfl
  have b0 := VB_2.out.cell 0 (v := .int .i64 ca) rfl
  have b1 := VB_2.out.cell 1 (v := .int .i64 nb) rfl
  have d : (ca != ca) = false := by simp
  go_upto_region 6 with fail
  go_wp2_with fail
  refine (ramount_ok (na - nb) _).mono ?_
  rintro e w3 ⟨rfl, hq⟩
  obtain rfl := hq.symm
  rw [hr]
  go_wp2_with (refine stA rfl 23 _ _ rfl (w.heap.size + 1 + 1) (by rfl) (mcl 0 0) (mcl 0 0) (by rfl) 23 VR_2.out infoM rfl (mcl_one _ _) ?_; intro wf vf uf)
  have hld := run_loadVar_row (P := Tryd.prog) wf (w.heap.size + 1 + 1) 23 23 _ (0, 0) _ vf.blk Tryd.underlying23 rfl infoM
  exact bodyPost_ret (v := .tuple #[.agg (mcl 0 0).toArray, .int .i64 4]) (by simp [results, Tryd.results9, asAddr, hld]) rfl ⟨rfl, uf.bel BB_2.out (by omega)⟩
theorem dcmp_a (ca na cb nb : Int) (w : World) (h1 : mform ca na = false) :
    Calls Tryd.prog 12 #[.agg (mcl ca na).toArray, .agg (mcl cb nb).toArray] w fun e w' => e = .returned (.tuple #[.int .i64 0, .int .i64 3]) ∧ Below w.heap.size w w' := by
  have VA_0 := (show Hid _ from ((va_new w (mcl ca na) 23).alloc (.cells (mcl cb nb).toArray 23)))
  have VB_0 := (show Hid _ from (va_new (w.alloc (.cells (mcl ca na).toArray 23)) (mcl cb nb) 23))
  rw [show (w.alloc (.cells (mcl ca na).toArray 23)).heap.size = w.heap.size + 1 by simp] at VB_0
  have BX := (Below.refl w.heap.size w).alloc (Nat.le_refl _) (.cells (mcl ca na).toArray 23)
  have BB_0 := (show Hid _ from BX.alloc BX.size (.cells (mcl cb nb).toArray 23))
  clear BX
  go_enter Tryd.func12, Tryd.ntmps12
  go_wp2_with (first | (refine ldA rfl 23 _ rfl w.heap.size (by rfl) (mcl ca na) _ VA_0.out _ Tryd.underlying23 rfl infoM ?_) | (refine ldA rfl 23 _ rfl (w.heap.size + 1) (by rfl) (mcl cb nb) _ VB_0.out _ Tryd.underlying23 rfl infoM ?_))
  refine (rform_ok ca na _).mono ?_
  rintro e w1 ⟨rfl, b1⟩
  have VA_1 := (show Hid _ from VA_0.out.step b1)
  have VB_1 := (show Hid _ from VB_0.out.step b1)
  have BB_1 := (show Hid _ from BB_0.out.trans (b1.mono BB_0.out.size))
  clear b1 VA_0 VB_0 BB_0
  rw [h1]
  go_wp2_with fail
  refine bodyPost_ret (v := .tuple #[.int .i64 0, .int .i64 3]) (by simp [results, Tryd.results12, go_sem]) rfl ?_
  exact ⟨rfl, BB_1.out⟩
theorem dcmp_b (ca na cb nb : Int) (w : World) (h1 : mform ca na = true) (h2 : mform cb nb = false) :
    Calls Tryd.prog 12 #[.agg (mcl ca na).toArray, .agg (mcl cb nb).toArray] w fun e w' => e = .returned (.tuple #[.int .i64 0, .int .i64 3]) ∧ Below w.heap.size w w' := by
  have VA_0 := (show Hid _ from ((va_new w (mcl ca na) 23).alloc (.cells (mcl cb nb).toArray 23)))
  have VB_0 := (show Hid _ from (va_new (w.alloc (.cells (mcl ca na).toArray 23)) (mcl cb nb) 23))
  rw [show (w.alloc (.cells (mcl ca na).toArray 23)).heap.size = w.heap.size + 1 by simp] at VB_0
  have BX := (Below.refl w.heap.size w).alloc (Nat.le_refl _) (.cells (mcl ca na).toArray 23)
  have BB_0 := (show Hid _ from BX.alloc BX.size (.cells (mcl cb nb).toArray 23))
  clear BX
  go_enter Tryd.func12, Tryd.ntmps12
  go_wp2_with (first | (refine ldA rfl 23 _ rfl w.heap.size (by rfl) (mcl ca na) _ VA_0.out _ Tryd.underlying23 rfl infoM ?_) | (refine ldA rfl 23 _ rfl (w.heap.size + 1) (by rfl) (mcl cb nb) _ VB_0.out _ Tryd.underlying23 rfl infoM ?_))
  refine (rform_ok ca na _).mono ?_
  rintro e w1 ⟨rfl, b1⟩
  have VA_1 := (show Hid _ from VA_0.out.step b1)
  have VB_1 := (show Hid _ from VB_0.out.step b1)
  have BB_1 := (show Hid _ from BB_0.out.trans (b1.mono BB_0.out.size))
  clear b1 VA_0 VB_0 BB_0
  rw [h1]
  have b0 := VB_1.out.cell 0 (v := .int .i64 cb) rfl
  have b1 := VB_1.out.cell 1 (v := .int .i64 nb) rfl
  go_wp2_with fail
  clear b0 b1
  refine (rform_ok cb nb _).mono ?_
  rintro e w2 ⟨rfl, b2⟩
  have VA_2 := (show Hid _ from VA_1.out.step b2)
  have VB_2 := (show Hid _ from VB_1.out.step b2)
  have BB_2 := (show Hid _ from BB_1.out.trans (b2.mono BB_1.out.size))
  clear b2 VA_1 VB_1 BB_1
  rw [h2]
  go_wp2_with fail
  refine bodyPost_ret (v := .tuple #[.int .i64 0, .int .i64 3]) (by simp [results, Tryd.results12, go_sem]) rfl ?_
  exact ⟨rfl, BB_2.out⟩
theorem dcmp_c (ca na cb nb : Int) (w : World) (h1 : mform ca na = true) (h2 : mform cb nb = true) (h3 : ca ≠ cb) :
    Calls Tryd.prog 12 #[.agg (mcl ca na).toArray, .agg (mcl cb nb).toArray] w fun e w' => e = .returned (.tuple #[.int .i64 0, .int .i64 10]) ∧ Below w.heap.size w w' := by
  have VA_0 := (show Hid _ from ((va_new w (mcl ca na) 23).alloc (.cells (mcl cb nb).toArray 23)))
  have VB_0 := (show Hid _ from (va_new (w.alloc (.cells (mcl ca na).toArray 23)) (mcl cb nb) 23))
  rw [show (w.alloc (.cells (mcl ca na).toArray 23)).heap.size = w.heap.size + 1 by simp] at VB_0
  have BX := (Below.refl w.heap.size w).alloc (Nat.le_refl _) (.cells (mcl ca na).toArray 23)
  have BB_0 := (show Hid _ from BX.alloc BX.size (.cells (mcl cb nb).toArray 23))
  clear BX
  go_enter Tryd.func12, Tryd.ntmps12
  go_wp2_with (first | (refine ldA rfl 23 _ rfl w.heap.size (by rfl) (mcl ca na) _ VA_0.out _ Tryd.underlying23 rfl infoM ?_) | (refine ldA rfl 23 _ rfl (w.heap.size + 1) (by rfl) (mcl cb nb) _ VB_0.out _ Tryd.underlying23 rfl infoM ?_))
  refine (rform_ok ca na _).mono ?_
  rintro e w1 ⟨rfl, b1⟩
  have VA_1 := (show Hid _ from VA_0.out.step b1)
  have VB_1 := (show Hid _ from VB_0.out.step b1)
  have BB_1 := (show Hid _ from BB_0.out.trans (b1.mono BB_0.out.size))
  clear b1 VA_0 VB_0 BB_0
  rw [h1]
  have b0 := VB_1.out.cell 0 (v := .int .i64 cb) rfl
  have b1 := VB_1.out.cell 1 (v := .int .i64 nb) rfl
  go_wp2_with fail
  clear b0 b1
  refine (rform_ok cb nb _).mono ?_
  rintro e w2 ⟨rfl, b2⟩
  have VA_2 := (show Hid _ from VA_1.out.step b2)
  have VB_2 := (show Hid _ from VB_1.out.step b2)
  have BB_2 := (show Hid _ from BB_1.out.trans (b2.mono BB_1.out.size))
  clear b2 VA_1 VB_1 BB_1
  rw [h2]
  have a0 := VA_2.out.cell 0 (v := .int .i64 ca) rfl
  have a1 := VA_2.out.cell 1 (v := .int .i64 na) rfl
  have b0 := VB_2.out.cell 0 (v := .int .i64 cb) rfl
  have b1 := VB_2.out.cell 1 (v := .int .i64 nb) rfl
  have d : (ca != cb) = true := by rw [bne_iff_ne]; exact h3
  go_wp2_with fail
  refine bodyPost_ret (v := .tuple #[.int .i64 0, .int .i64 10]) (by simp [results, Tryd.results12, go_sem]) rfl ?_
  exact ⟨rfl, BB_2.out⟩
theorem dcmp_ok (ca na nb : Int) (w : World) (h1 : mform ca na = true) (h2 : mform ca nb = true) :
    Calls Tryd.prog 12 #[.agg (mcl ca na).toArray, .agg (mcl ca nb).toArray] w fun e w' => e = .returned (.tuple #[.int .i64 (ord na nb), .int .i64 0]) ∧ Below w.heap.size w w' := by
  by_cases g1 : na < nb
  · have e : ord na nb = -1 := by unfold ord; rw [if_pos g1]
    rw [e]
    have d1 : decide (na < nb) = true := decide_eq_true g1
    clear e
    have VA_0 := (show Hid _ from ((va_new w (mcl ca na) 23).alloc (.cells (mcl ca nb).toArray 23)))
    have VB_0 := (show Hid _ from (va_new (w.alloc (.cells (mcl ca na).toArray 23)) (mcl ca nb) 23))
    rw [show (w.alloc (.cells (mcl ca na).toArray 23)).heap.size = w.heap.size + 1 by simp] at VB_0
    have BX := (Below.refl w.heap.size w).alloc (Nat.le_refl _) (.cells (mcl ca na).toArray 23)
    have BB_0 := (show Hid _ from BX.alloc BX.size (.cells (mcl ca nb).toArray 23))
    clear BX
    go_enter Tryd.func12, Tryd.ntmps12
    go_wp2_with (first | (refine ldA rfl 23 _ rfl w.heap.size (by rfl) (mcl ca na) _ VA_0.out _ Tryd.underlying23 rfl infoM ?_) | (refine ldA rfl 23 _ rfl (w.heap.size + 1) (by rfl) (mcl ca nb) _ VB_0.out _ Tryd.underlying23 rfl infoM ?_))
    refine (rform_ok ca na _).mono ?_
    rintro e w1 ⟨rfl, b1⟩
    have VA_1 := (show Hid _ from VA_0.out.step b1)
    have VB_1 := (show Hid _ from VB_0.out.step b1)
    have BB_1 := (show Hid _ from BB_0.out.trans (b1.mono BB_0.out.size))
    clear b1 VA_0 VB_0 BB_0
    rw [h1]
    have b0 := VB_1.out.cell 0 (v := .int .i64 ca) rfl
    have b1 := VB_1.out.cell 1 (v := .int .i64 nb) rfl
    go_wp2_with fail
    clear b0 b1
    refine (rform_ok ca nb _).mono ?_
    rintro e w2 ⟨rfl, b2⟩
    have VA_2 := (show Hid _ from VA_1.out.step b2)
    have VB_2 := (show Hid _ from VB_1.out.step b2)
    have BB_2 := (show Hid _ from BB_1.out.trans (b2.mono BB_1.out.size))
    clear b2 VA_1 VB_1 BB_1
    rw [h2]
    have a0 := VA_2.out.cell 0 (v := .int .i64 ca) rfl
    have a1 := VA_2.out.cell 1 (v := .int .i64 na) rfl
    have b0 := VB_2.out.cell 0 (v := .int .i64 ca) rfl
    have b1 := VB_2.out.cell 1 (v := .int .i64 nb) rfl
    have d : (ca != ca) = false := by simp
    go_wp2_with fail
    refine bodyPost_ret (v := .tuple #[.int .i64 (-1), .int .i64 0]) (by simp [results, Tryd.results12, go_sem]) rfl ?_
    exact ⟨rfl, BB_2.out⟩
  · have d1 : decide (na < nb) = false := decide_eq_false g1
    by_cases g2 : nb < na
    · have e : ord na nb = 1 := by unfold ord; rw [if_neg g1, if_pos g2]
      rw [e]
      have d2 : decide (nb < na) = true := decide_eq_true g2
      clear e
      have VA_0 := (show Hid _ from ((va_new w (mcl ca na) 23).alloc (.cells (mcl ca nb).toArray 23)))
      have VB_0 := (show Hid _ from (va_new (w.alloc (.cells (mcl ca na).toArray 23)) (mcl ca nb) 23))
      rw [show (w.alloc (.cells (mcl ca na).toArray 23)).heap.size = w.heap.size + 1 by simp] at VB_0
      have BX := (Below.refl w.heap.size w).alloc (Nat.le_refl _) (.cells (mcl ca na).toArray 23)
      have BB_0 := (show Hid _ from BX.alloc BX.size (.cells (mcl ca nb).toArray 23))
      clear BX
      go_enter Tryd.func12, Tryd.ntmps12
      go_wp2_with (first | (refine ldA rfl 23 _ rfl w.heap.size (by rfl) (mcl ca na) _ VA_0.out _ Tryd.underlying23 rfl infoM ?_) | (refine ldA rfl 23 _ rfl (w.heap.size + 1) (by rfl) (mcl ca nb) _ VB_0.out _ Tryd.underlying23 rfl infoM ?_))
      refine (rform_ok ca na _).mono ?_
      rintro e w1 ⟨rfl, b1⟩
      have VA_1 := (show Hid _ from VA_0.out.step b1)
      have VB_1 := (show Hid _ from VB_0.out.step b1)
      have BB_1 := (show Hid _ from BB_0.out.trans (b1.mono BB_0.out.size))
      clear b1 VA_0 VB_0 BB_0
      rw [h1]
      have b0 := VB_1.out.cell 0 (v := .int .i64 ca) rfl
      have b1 := VB_1.out.cell 1 (v := .int .i64 nb) rfl
      go_wp2_with fail
      clear b0 b1
      refine (rform_ok ca nb _).mono ?_
      rintro e w2 ⟨rfl, b2⟩
      have VA_2 := (show Hid _ from VA_1.out.step b2)
      have VB_2 := (show Hid _ from VB_1.out.step b2)
      have BB_2 := (show Hid _ from BB_1.out.trans (b2.mono BB_1.out.size))
      clear b2 VA_1 VB_1 BB_1
      rw [h2]
      have a0 := VA_2.out.cell 0 (v := .int .i64 ca) rfl
      have a1 := VA_2.out.cell 1 (v := .int .i64 na) rfl
      have b0 := VB_2.out.cell 0 (v := .int .i64 ca) rfl
      have b1 := VB_2.out.cell 1 (v := .int .i64 nb) rfl
      have d : (ca != ca) = false := by simp
      go_wp2_with fail
      refine bodyPost_ret (v := .tuple #[.int .i64 (1), .int .i64 0]) (by simp [results, Tryd.results12, go_sem]) rfl ?_
      exact ⟨rfl, BB_2.out⟩
    · have e : ord na nb = 0 := by unfold ord; rw [if_neg g1, if_neg g2]
      rw [e]
      have d2 : decide (nb < na) = false := decide_eq_false g2
      clear e
      have VA_0 := (show Hid _ from ((va_new w (mcl ca na) 23).alloc (.cells (mcl ca nb).toArray 23)))
      have VB_0 := (show Hid _ from (va_new (w.alloc (.cells (mcl ca na).toArray 23)) (mcl ca nb) 23))
      rw [show (w.alloc (.cells (mcl ca na).toArray 23)).heap.size = w.heap.size + 1 by simp] at VB_0
      have BX := (Below.refl w.heap.size w).alloc (Nat.le_refl _) (.cells (mcl ca na).toArray 23)
      have BB_0 := (show Hid _ from BX.alloc BX.size (.cells (mcl ca nb).toArray 23))
      clear BX
      go_enter Tryd.func12, Tryd.ntmps12
      go_wp2_with (first | (refine ldA rfl 23 _ rfl w.heap.size (by rfl) (mcl ca na) _ VA_0.out _ Tryd.underlying23 rfl infoM ?_) | (refine ldA rfl 23 _ rfl (w.heap.size + 1) (by rfl) (mcl ca nb) _ VB_0.out _ Tryd.underlying23 rfl infoM ?_))
      refine (rform_ok ca na _).mono ?_
      rintro e w1 ⟨rfl, b1⟩
      have VA_1 := (show Hid _ from VA_0.out.step b1)
      have VB_1 := (show Hid _ from VB_0.out.step b1)
      have BB_1 := (show Hid _ from BB_0.out.trans (b1.mono BB_0.out.size))
      clear b1 VA_0 VB_0 BB_0
      rw [h1]
      have b0 := VB_1.out.cell 0 (v := .int .i64 ca) rfl
      have b1 := VB_1.out.cell 1 (v := .int .i64 nb) rfl
      go_wp2_with fail
      clear b0 b1
      refine (rform_ok ca nb _).mono ?_
      rintro e w2 ⟨rfl, b2⟩
      have VA_2 := (show Hid _ from VA_1.out.step b2)
      have VB_2 := (show Hid _ from VB_1.out.step b2)
      have BB_2 := (show Hid _ from BB_1.out.trans (b2.mono BB_1.out.size))
      clear b2 VA_1 VB_1 BB_1
      rw [h2]
      have a0 := VA_2.out.cell 0 (v := .int .i64 ca) rfl
      have a1 := VA_2.out.cell 1 (v := .int .i64 na) rfl
      have b0 := VB_2.out.cell 0 (v := .int .i64 ca) rfl
      have b1 := VB_2.out.cell 1 (v := .int .i64 nb) rfl
      have d : (ca != ca) = false := by simp
      go_wp2_with fail
      refine bodyPost_ret (v := .tuple #[.int .i64 (0), .int .i64 0]) (by simp [results, Tryd.results12, go_sem]) rfl ?_
      exact ⟨rfl, BB_2.out⟩
theorem rdigits_ok (i : Nat) (w : World) (hi : i < 4) : Calls Tryd.prog 35 #[.int .i64 i] w fun e w' => e = .returned (.int .i64 (cdg i : Nat)) ∧ w' = w := by
  match i, hi with
  | 0, _ =>
    show Calls Tryd.prog 35 #[.int .i64 0] w fun e w' => e = .returned (.int .i64 2) ∧ w' = w
    go_enter Tryd.func35, Tryd.ntmps35
    go_wp2_with fail
    go_ret
    exact ⟨rfl, rfl⟩
  | 1, _ =>
    show Calls Tryd.prog 35 #[.int .i64 1] w fun e w' => e = .returned (.int .i64 2) ∧ w' = w
    go_enter Tryd.func35, Tryd.ntmps35
    go_wp2_with fail
    go_ret
    exact ⟨rfl, rfl⟩
  | 2, _ =>
    show Calls Tryd.prog 35 #[.int .i64 2] w fun e w' => e = .returned (.int .i64 0) ∧ w' = w
    go_enter Tryd.func35, Tryd.ntmps35
    go_wp2_with fail
    go_ret
    exact ⟨rfl, rfl⟩
  | 3, _ =>
    show Calls Tryd.prog 35 #[.int .i64 3] w fun e w' => e = .returned (.int .i64 3) ∧ w' = w
    go_enter Tryd.func35, Tryd.ntmps35
    go_wp2_with fail
    go_ret
    exact ⟨rfl, rfl⟩
theorem ddig_yes (i : Nat) (w : World) (hi : i < 4) : Calls Tryd.prog 14 #[.int .i64 i] w fun e w' => e = .returned (.tuple #[.int .i64 (cdg i : Nat), .int .i64 0]) ∧ w' = w := by
  have hw := wi_yes (n := (i : Int)) (l := 0) (g := 3) (by omega) (by omega)
  go_enter Tryd.func14, Tryd.ntmps14
  go_wp2_with fail
  refine (rcur_ok i _).mono ?_
  rintro e w1 ⟨rfl, hq⟩
  obtain rfl := hq.symm
  rw [hw]
  go_wp2_with fail
  refine (rdigits_ok i _ hi).mono ?_
  rintro e w1 ⟨rfl, hq⟩
  obtain rfl := hq.symm
  go_wp2_with fail
  go_ret2
  exact ⟨rfl, rfl⟩
theorem ddig_no (c : Int) (w : World) (hc : ¬ (0 ≤ c ∧ c ≤ 3)) : Calls Tryd.prog 14 #[.int .i64 c] w fun e w' => e = .returned (.tuple #[.int .i64 0, .int .i64 1]) ∧ w' = w := by
  have hw := wi_no hc
  clear hc
  go_enter Tryd.func14, Tryd.ntmps14
  go_wp2_with fail
  refine (rcur_ok c _).mono ?_
  rintro e w1 ⟨rfl, hq⟩
  obtain rfl := hq.symm
  rw [hw]
  go_wp2_with fail
  go_ret2
  exact ⟨rfl, rfl⟩
end Go.Proofs.YtcnigpkmedgbdaaDoor
