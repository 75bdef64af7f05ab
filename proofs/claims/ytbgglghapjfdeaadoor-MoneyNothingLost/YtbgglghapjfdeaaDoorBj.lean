/- money: the example of awake: the text of JPY 12; awake. -/
import Derived.Test.YtbgglghapjfdeaaDoorBi
import Derived.Laws.BytesArg
import Derived.ChangeKeysEq
namespace Go.Proofs.YtbgglghapjfdeaaDoor
open Go.RowKit
set_option linter.unusedVariables false

theorem t12 (w : World) : Calls Tryd.prog 39 #[.agg #[.int .u64 12, .int .u64 0]] w fun e w' => e = .returned (.tuple #[.agg #[.int .u64 1, .int .u64 0], .int .u64 2]) ∧ Below w.heap.size w w' := tenth_ok 12 0 w (by decide) (by decide) 1 2 (by decide) (by decide)
theorem t1 (w : World) : Calls Tryd.prog 39 #[.agg #[.int .u64 1, .int .u64 0]] w fun e w' => e = .returned (.tuple #[.agg #[.int .u64 0, .int .u64 0], .int .u64 1]) ∧ Below w.heap.size w w' := tenth_ok 1 0 w (by decide) (by decide) 0 1 (by decide) (by decide)
theorem eq_size (a0 a1 b0 b1 : Int) (w : World) : (Op.equalIn 10000 86 (.agg #[.int .u64 a0, .int .u64 a1]) (.agg #[.int .u64 b0, .int .u64 b1])).run Tryd.prog w = .ok ((a0 == b0) && (a1 == b1)) w := by
  obtain ⟨i, hi⟩ : ∃ i, Tryd.prog.info? 42 = some i := Option.isSome_iff_exists.1 (by kernel_rfl)
  rw [show (10000 : Nat) = 9999 + 1 from rfl, run_equalIn_array (P := Tryd.prog) w 9999 _ _ Tryd.underlying86 hi]
  have hc : Tryd.prog.cellsOf 42 = 1 := by kernel_rfl
  rw [hc]
  simp [Op.eqItems, List.range, List.range.loop, go_sem]
  by_cases h0 : a0 = b0 <;> by_cases h1 : a1 = b1 <;> simp [h0, h1]
def d12 : List Value := [.int .i64 0, .int .u64 12, .int .i64 0]
theorem s12 (w : World) : Calls Tryd.prog 37 #[.agg d12.toArray] w fun e w' => e = .returned (.tuple #[.int .i64 1, .int .i64 0]) ∧ Below w.heap.size w w' := sign_ok 12 0 12 0 w ⟨rfl, rfl⟩ ⟨by decide, by decide⟩ (by decide)
set_option maxHeartbeats 4000000 in
set_option maxRecDepth 100000 in
theorem write12 (w : World) : Calls Tryd.prog 27 #[.agg d12.toArray] w fun e w' => e = .returned (.tuple #[.string (strOfNums [49, 50]), .int .i64 0]) ∧ Below w.heap.size w w' := by
  have VD_0 := (show Hid _ from va_new w d12 65)
  have BB_0 := (show Hid _ from (Below.refl w.heap.size w).alloc (Nat.le_refl _) (.cells d12.toArray 65))
  have E1 : ∀ w, (Op.equalIn 10000 86 (.agg #[.int .u64 1, .int .u64 0]) (.agg #[.int .u64 0, .int .u64 0])).run Tryd.prog w = .ok false w := fun w => eq_size 1 0 0 0 w
  have E2 : ∀ w, (Op.equalIn 10000 86 (.agg #[.int .u64 0, .int .u64 0]) (.agg #[.int .u64 0, .int .u64 0])).run Tryd.prog w = .ok true w := fun w => eq_size 0 0 0 0 w
  go_enter Tryd.func27, Tryd.ntmps27
  go_wp2_with (refine ldA rfl 65 _ rfl w.heap.size (by rfl) d12 _ VD_0.out _ Tryd.underlying65 rfl infoD ?_)
  refine (s12 _).mono ?_
  rintro e w1 ⟨rfl, b1⟩
  have VD_1 := (show Hid _ from VD_0.out.step b1)
  have BB_1 := (show Hid _ from BB_0.out.trans (b1.mono BB_0.out.size))
  clear b1 VD_0 BB_0
  have d0 := VD_1.out.cell 0 (v := .int .i64 0) rfl
  have d1 := VD_1.out.cell 1 (v := .int .u64 12) rfl
  have dl := VD_1.out.lt
  go_upto_region 9 with fail
  clear d0 d1
  have HP0 : Hid (w.heap.size < w1.heap.size) := dl
  have eT : (w1.alloc (.cells ([.int .u8 0, .int .u8 0, .int .u8 0, .int .u8 0, .int .u8 0, .int .u8 0, .int .u8 0, .int .u8 0, .int .u8 0, .int .u8 0, .int .u8 0, .int .u8 0, .int .u8 0, .int .u8 0, .int .u8 0, .int .u8 0, .int .u8 0, .int .u8 0, .int .u8 0, .int .u8 0, .int .u8 0, .int .u8 0, .int .u8 0, .int .u8 0, .int .u8 0, .int .u8 0, .int .u8 0, .int .u8 0, .int .u8 0, .int .u8 0, .int .u8 0, .int .u8 0, .int .u8 0, .int .u8 0, .int .u8 0, .int .u8 0, .int .u8 0, .int .u8 0, .int .u8 0, .int .u8 0, .int .u8 0] : List Value).toArray 84)).heap.size = w1.heap.size + 1 := by simp
  change Code.wp _ _ _ _ ((w1.alloc (.cells ([.int .u8 0, .int .u8 0, .int .u8 0, .int .u8 0, .int .u8 0, .int .u8 0, .int .u8 0, .int .u8 0, .int .u8 0, .int .u8 0, .int .u8 0, .int .u8 0, .int .u8 0, .int .u8 0, .int .u8 0, .int .u8 0, .int .u8 0, .int .u8 0, .int .u8 0, .int .u8 0, .int .u8 0, .int .u8 0, .int .u8 0, .int .u8 0, .int .u8 0, .int .u8 0, .int .u8 0, .int .u8 0, .int .u8 0, .int .u8 0, .int .u8 0, .int .u8 0, .int .u8 0, .int .u8 0, .int .u8 0, .int .u8 0, .int .u8 0, .int .u8 0, .int .u8 0, .int .u8 0, .int .u8 0] : List Value).toArray 84)).alloc (.cells (zc 12 0).toArray 86))
  have VT_2 := (show Hid _ from (va_new w1 [.int .u8 0, .int .u8 0, .int .u8 0, .int .u8 0, .int .u8 0, .int .u8 0, .int .u8 0, .int .u8 0, .int .u8 0, .int .u8 0, .int .u8 0, .int .u8 0, .int .u8 0, .int .u8 0, .int .u8 0, .int .u8 0, .int .u8 0, .int .u8 0, .int .u8 0, .int .u8 0, .int .u8 0, .int .u8 0, .int .u8 0, .int .u8 0, .int .u8 0, .int .u8 0, .int .u8 0, .int .u8 0, .int .u8 0, .int .u8 0, .int .u8 0, .int .u8 0, .int .u8 0, .int .u8 0, .int .u8 0, .int .u8 0, .int .u8 0, .int .u8 0, .int .u8 0, .int .u8 0, .int .u8 0] 84).alloc (.cells (zc 12 0).toArray 86))
  have VF_2 := (show Hid _ from va_new (w1.alloc (.cells ([.int .u8 0, .int .u8 0, .int .u8 0, .int .u8 0, .int .u8 0, .int .u8 0, .int .u8 0, .int .u8 0, .int .u8 0, .int .u8 0, .int .u8 0, .int .u8 0, .int .u8 0, .int .u8 0, .int .u8 0, .int .u8 0, .int .u8 0, .int .u8 0, .int .u8 0, .int .u8 0, .int .u8 0, .int .u8 0, .int .u8 0, .int .u8 0, .int .u8 0, .int .u8 0, .int .u8 0, .int .u8 0, .int .u8 0, .int .u8 0, .int .u8 0, .int .u8 0, .int .u8 0, .int .u8 0, .int .u8 0, .int .u8 0, .int .u8 0, .int .u8 0, .int .u8 0, .int .u8 0, .int .u8 0] : List Value).toArray 84)) (zc 12 0) 86)
  rw [eT] at VF_2
  have VD_2 := (show Hid _ from (VD_1.out.alloc (.cells ([.int .u8 0, .int .u8 0, .int .u8 0, .int .u8 0, .int .u8 0, .int .u8 0, .int .u8 0, .int .u8 0, .int .u8 0, .int .u8 0, .int .u8 0, .int .u8 0, .int .u8 0, .int .u8 0, .int .u8 0, .int .u8 0, .int .u8 0, .int .u8 0, .int .u8 0, .int .u8 0, .int .u8 0, .int .u8 0, .int .u8 0, .int .u8 0, .int .u8 0, .int .u8 0, .int .u8 0, .int .u8 0, .int .u8 0, .int .u8 0, .int .u8 0, .int .u8 0, .int .u8 0, .int .u8 0, .int .u8 0, .int .u8 0, .int .u8 0, .int .u8 0, .int .u8 0, .int .u8 0, .int .u8 0] : List Value).toArray 84)).alloc (.cells (zc 12 0).toArray 86))
  have BX := BB_1.out.alloc BB_1.out.size (.cells ([.int .u8 0, .int .u8 0, .int .u8 0, .int .u8 0, .int .u8 0, .int .u8 0, .int .u8 0, .int .u8 0, .int .u8 0, .int .u8 0, .int .u8 0, .int .u8 0, .int .u8 0, .int .u8 0, .int .u8 0, .int .u8 0, .int .u8 0, .int .u8 0, .int .u8 0, .int .u8 0, .int .u8 0, .int .u8 0, .int .u8 0, .int .u8 0, .int .u8 0, .int .u8 0, .int .u8 0, .int .u8 0, .int .u8 0, .int .u8 0, .int .u8 0, .int .u8 0, .int .u8 0, .int .u8 0, .int .u8 0, .int .u8 0, .int .u8 0, .int .u8 0, .int .u8 0, .int .u8 0, .int .u8 0] : List Value).toArray 84)
  have BB_2 := (show Hid _ from BX.alloc BX.size (.cells (zc 12 0).toArray 86))
  obtain ⟨pt, hpt⟩ : ∃ pt, pt = w1.heap.size := ⟨_, rfl⟩
  obtain ⟨pf, hpf⟩ : ∃ pf, pf = w1.heap.size + 1 := ⟨_, rfl⟩
  rw [← hpt] at VT_2
  rw [← hpf] at VF_2
  rw [← hpf, ← hpt]
  have HP : Hid (w.heap.size < pt ∧ pf = pt + 1) := ⟨by rw [hpt]; exact HP0.out, by rw [hpt, hpf]⟩
  clear hpt hpf eT BX VD_1 BB_1 HP0 dl
  generalize (w1.alloc (.cells ([.int .u8 0, .int .u8 0, .int .u8 0, .int .u8 0, .int .u8 0, .int .u8 0, .int .u8 0, .int .u8 0, .int .u8 0, .int .u8 0, .int .u8 0, .int .u8 0, .int .u8 0, .int .u8 0, .int .u8 0, .int .u8 0, .int .u8 0, .int .u8 0, .int .u8 0, .int .u8 0, .int .u8 0, .int .u8 0, .int .u8 0, .int .u8 0, .int .u8 0, .int .u8 0, .int .u8 0, .int .u8 0, .int .u8 0, .int .u8 0, .int .u8 0, .int .u8 0, .int .u8 0, .int .u8 0, .int .u8 0, .int .u8 0, .int .u8 0, .int .u8 0, .int .u8 0, .int .u8 0, .int .u8 0] : List Value).toArray 84)).alloc (.cells (zc 12 0).toArray 86) = w2 at *
  go_wp2_with fail
  refine wp_loop_rounds 3 ?_
  rw [rounds_succ]
  have d2 := VD_2.out.cell 2 (v := .int .i64 0) rfl
  have z0 := VF_2.out.cell 0 (v := .int .u64 12) rfl
  have z1 := VF_2.out.cell 1 (v := .int .u64 0) rfl
  go_wp2_with fail
  clear d2 z0 z1
  refine (t12 _).mono ?_
  rintro e w3 ⟨rfl, b3⟩
  have VD_3 := (show Hid _ from VD_2.out.step b3)
  have VT_3 := (show Hid _ from VT_2.out.step b3)
  have VF_3 := (show Hid _ from VF_2.out.step b3)
  have BB_3 := (show Hid _ from BB_2.out.trans (b3.mono BB_2.out.size))
  clear b3 VD_2 VT_2 VF_2 BB_2
  go_upto_region 17 with (refine stA rfl 86 _ _ rfl pf (by rfl) (zc 12 0) (zc 1 0) (by rfl) 86 VF_3.out infoZ rfl (zc_one _ _) ?_; intro w4 v u; have VF_4 := (show Hid _ from v); have VT_4 := (show Hid _ from VT_3.out.upd u (by have := HP.out; omega)); have VD_4 := (show Hid _ from VD_3.out.upd u (by have := HP.out; omega)); have BB_4 := (show Hid _ from u.bel BB_3.out (by have := HP.out; omega)); clear v u VF_3 VT_3 VD_3 BB_3)
  have t0 := VT_4.out.cell 40 (v := .int .u8 0) rfl
  have t1 := VT_4.out.free 40
  go_wp2_with fail
  clear t0 t1
  have VT_5 : Hid (VA (w4.setCell ⟨pt, 40, none⟩ (.int .u8 50)) pt [.int .u8 0, .int .u8 0, .int .u8 0, .int .u8 0, .int .u8 0, .int .u8 0, .int .u8 0, .int .u8 0, .int .u8 0, .int .u8 0, .int .u8 0, .int .u8 0, .int .u8 0, .int .u8 0, .int .u8 0, .int .u8 0, .int .u8 0, .int .u8 0, .int .u8 0, .int .u8 0, .int .u8 0, .int .u8 0, .int .u8 0, .int .u8 0, .int .u8 0, .int .u8 0, .int .u8 0, .int .u8 0, .int .u8 0, .int .u8 0, .int .u8 0, .int .u8 0, .int .u8 0, .int .u8 0, .int .u8 0, .int .u8 0, .int .u8 0, .int .u8 0, .int .u8 0, .int .u8 0, .int .u8 50] 84) := VT_4.out.set 40 (.int .u8 50)
  have VF_5 := (show Hid _ from VF_4.out.set_other (q := pt) (by have := HP.out; omega) 40 (.int .u8 50))
  have VD_5 := (show Hid _ from VD_4.out.set_other (q := pt) (by have := HP.out; omega) 40 (.int .u8 50))
  have BB_5 := (show Hid _ from BB_4.out.setCell (p := ⟨pt, 40, none⟩) (by have := HP.out; show _ ≤ pt; omega) (.int .u8 50))
  clear VT_4 VF_4 VD_4 BB_4
  generalize w4.setCell ⟨pt, 40, none⟩ (.int .u8 50) = w5 at *
  
  rw [rounds_succ]
  have d2 := VD_5.out.cell 2 (v := .int .i64 0) rfl
  have z0 := VF_5.out.cell 0 (v := .int .u64 1) rfl
  have z1 := VF_5.out.cell 1 (v := .int .u64 0) rfl
  go_wp2_with fail
  clear d2 z0 z1
  refine (t1 _).mono ?_
  rintro e w6 ⟨rfl, b6⟩
  have VD_6 := (show Hid _ from VD_5.out.step b6)
  have VT_6 := (show Hid _ from VT_5.out.step b6)
  have VF_6 := (show Hid _ from VF_5.out.step b6)
  have BB_6 := (show Hid _ from BB_5.out.trans (b6.mono BB_5.out.size))
  clear b6 VD_5 VT_5 VF_5 BB_5
  go_upto_region 17 with (refine stA rfl 86 _ _ rfl pf (by rfl) (zc 1 0) (zc 0 0) (by rfl) 86 VF_6.out infoZ rfl (zc_one _ _) ?_; intro w7 v u; have VF_7 := (show Hid _ from v); have VT_7 := (show Hid _ from VT_6.out.upd u (by have := HP.out; omega)); have VD_7 := (show Hid _ from VD_6.out.upd u (by have := HP.out; omega)); have BB_7 := (show Hid _ from u.bel BB_6.out (by have := HP.out; omega)); clear v u VF_6 VT_6 VD_6 BB_6)
  have t0 := VT_7.out.cell 39 (v := .int .u8 0) rfl
  have t1 := VT_7.out.free 39
  go_wp2_with fail
  clear t0 t1
  have VT_8 : Hid (VA (w7.setCell ⟨pt, 39, none⟩ (.int .u8 49)) pt [.int .u8 0, .int .u8 0, .int .u8 0, .int .u8 0, .int .u8 0, .int .u8 0, .int .u8 0, .int .u8 0, .int .u8 0, .int .u8 0, .int .u8 0, .int .u8 0, .int .u8 0, .int .u8 0, .int .u8 0, .int .u8 0, .int .u8 0, .int .u8 0, .int .u8 0, .int .u8 0, .int .u8 0, .int .u8 0, .int .u8 0, .int .u8 0, .int .u8 0, .int .u8 0, .int .u8 0, .int .u8 0, .int .u8 0, .int .u8 0, .int .u8 0, .int .u8 0, .int .u8 0, .int .u8 0, .int .u8 0, .int .u8 0, .int .u8 0, .int .u8 0, .int .u8 0, .int .u8 49, .int .u8 50] 84) := VT_7.out.set 39 (.int .u8 49)
  have VF_8 := (show Hid _ from VF_7.out.set_other (q := pt) (by have := HP.out; omega) 39 (.int .u8 49))
  have VD_8 := (show Hid _ from VD_7.out.set_other (q := pt) (by have := HP.out; omega) 39 (.int .u8 49))
  have BB_8 := (show Hid _ from BB_7.out.setCell (p := ⟨pt, 39, none⟩) (by have := HP.out; show _ ≤ pt; omega) (.int .u8 49))
  clear VT_7 VF_7 VD_7 BB_7
  generalize w7.setCell ⟨pt, 39, none⟩ (.int .u8 49) = w8 at *
  
  rw [rounds_succ]
  have d2 := VD_8.out.cell 2 (v := .int .i64 0) rfl
  have z0 := VF_8.out.cell 0 (v := .int .u64 0) rfl
  have z1 := VF_8.out.cell 1 (v := .int .u64 0) rfl
  have hconv := run_convert_bytes_arg (P := Tryd.prog) w8 89 5 Tryd.underlying89 Tryd.underlying5 pt 39 2 2 [49, 50] rfl (fun i hi => by
    match i, hi with
    | 0, _ => exact VT_8.out.cell 39 rfl
    | 1, _ => exact VT_8.out.cell 40 rfl) 9 Tryd.underlying9
  go_wp2_with fail
  refine bodyPost_ret (v := .tuple #[.string (strOfNums [49, 50]), .int .i64 0]) (by simp [results, Tryd.results27, go_sem]) rfl ?_
  exact ⟨rfl, BB_8.out⟩
end Go.Proofs.YtbgglghapjfdeaaDoor
