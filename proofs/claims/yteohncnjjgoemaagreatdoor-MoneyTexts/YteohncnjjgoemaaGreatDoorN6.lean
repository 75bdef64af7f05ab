/- money: the example of awake: the text of JPY 12; awake. -/
import Derived.Test.YteohncnjjgoemaaGreatDoorN5
import Derived.Test.YteohncnjjgoemaaGreatDoorBc
import Derived.Test.YteohncnjjgoemaaGreatDoorBt
import Derived.Laws.BytesArg
import Derived.ChangeKeysEq
namespace Go.Proofs.YteohncnjjgoemaaGreatDoor
open Go.RowKit
set_option linter.unusedVariables false

theorem infoZ : (Tryz.prog.info? 77).map (·.size) = some 2 := by kernel_rfl
def zc (a b : Nat) : List Value := [.int .u64 (a : Int), .int .u64 (b : Int)]
theorem zc_one (a b : Nat) : ∀ v ∈ zc a b, v.oneCell' = true := by intro v hv; simp [zc] at hv; rcases hv with rfl | rfl <;> rfl
set_option maxHeartbeats 1000000 in
set_option maxRecDepth 100000 in
theorem tenth_ok (lo hi : Nat) (w : World) (h1 : lo < 18446744073709551616) (h2 : hi < 18446744073709551616) (x d : Nat) (hx : x = (hi % 10 * 18446744073709551616 + lo) / 10) (hd : d = (hi % 10 * 18446744073709551616 + lo) % 10) :
    Calls Tryz.prog 31 #[.agg (zc lo hi).toArray] w fun e w' => e = .returned (.tuple #[.agg (zc x (hi / 10)).toArray, .int .u64 (d : Int)]) ∧ Below w.heap.size w w' := by
  have D1 : ∀ w, Calls Tryz.prog 58 #[.int .u64 0, .int .u64 (hi : Int), .int .u64 10] w fun e w' => e = .returned (.tuple #[.int .u64 ((hi / 10 : Nat) : Int), .int .u64 ((hi % 10 : Nat) : Int)]) ∧ Below w.heap.size w w' := fun w => div64_small hi 10 w (by decide) (by decide) (by omega)
  obtain ⟨r, hr⟩ : ∃ r, r = hi % 10 := ⟨_, rfl⟩
  obtain ⟨y, hy⟩ : ∃ y, y = hi / 10 := ⟨_, rfl⟩
  have rb : r < 10 := by omega
  rw [← hr] at hx hd D1
  rw [← hy] at D1
  rw [← hy]
  have D2 : ∀ w, Calls Tryz.prog 58 #[.int .u64 (r : Int), .int .u64 (lo : Int), .int .u64 10] w fun e w' => e = .returned (.tuple #[.int .u64 (x : Int), .int .u64 (d : Int)]) ∧ Below w.heap.size w w' := fun w => by
    have h := div64_any r lo 10 w rb (by decide) h1
    rw [hx, hd]
    exact h
  have HD1 := (show Hid _ from D1)
  have HD2 := (show Hid _ from D2)
  have VN_0 := (show Hid _ from (va_new w (zc lo hi) 77).alloc (.cells (zc 0 0).toArray 77))
  have VR_0 := (show Hid _ from va_new (w.alloc (.cells (zc lo hi).toArray 77)) (zc 0 0) 77)
  rw [show (w.alloc (.cells (zc lo hi).toArray 77)).heap.size = w.heap.size + 1 by simp] at VR_0
  have BB_0 := (show Hid _ from ((Below.refl w.heap.size w).alloc (Nat.le_refl _) (.cells (zc lo hi).toArray 77)).alloc (by simp) (.cells (zc 0 0).toArray 77))
  clear D1 D2 hx hd hr hy h1 h2 rb
  go_enter Tryz.func31, Tryz.ntmps31
  have n1 := VN_0.out.cell 1 (v := .int .u64 (hi : Int)) rfl
  go_upto_region 1 with fail
  change Code.wp _ _ _ _ ((w.alloc (.cells (zc lo hi).toArray 77)).alloc (.cells (zc 0 0).toArray 77))
  generalize (w.alloc (.cells (zc lo hi).toArray 77)).alloc (.cells (zc 0 0).toArray 77) = wa at *
  go_wp2_with fail
  clear n1
  refine (HD1.out _).mono ?_
  rintro e w1 ⟨rfl, b1⟩
  have VN_1 := (show Hid _ from VN_0.out.step b1)
  have VR_1 := (show Hid _ from VR_0.out.step b1)
  have BB_1 := (show Hid _ from BB_0.out.trans (b1.mono BB_0.out.size))
  clear b1 VN_0 VR_0 BB_0
  have n1 := VN_1.out.cell 1 (v := .int .u64 (hi : Int)) rfl
  have n0 := VN_1.out.cell 0 (v := .int .u64 (lo : Int)) rfl
  have f1 := VN_1.out.free 1
  go_upto_region 3 with fail
  clear n1 n0 f1
  have VN_2 : Hid (VA (w1.setCell ⟨w.heap.size, 1, none⟩ (.int .u64 (y : Int))) w.heap.size (zc lo y) 77) := VN_1.out.set 1 (.int .u64 (y : Int))
  have VR_2 := (show Hid _ from VR_1.out.set_other (q := w.heap.size) (by omega) 1 (.int .u64 (y : Int)))
  have BB_2 := (show Hid _ from BB_1.out.setCell (p := ⟨w.heap.size, 1, none⟩) (Nat.le_refl _) (.int .u64 (y : Int)))
  clear VN_1 VR_1 BB_1
  generalize w1.setCell ⟨w.heap.size, 1, none⟩ (.int .u64 (y : Int)) = w2 at *
  have n0 := VN_2.out.cell 0 (v := .int .u64 (lo : Int)) rfl
  go_wp2_with fail
  clear n0
  refine (HD2.out _).mono ?_
  rintro e w3 ⟨rfl, b3⟩
  have VN_3 := (show Hid _ from VN_2.out.step b3)
  have VR_3 := (show Hid _ from VR_2.out.step b3)
  have BB_3 := (show Hid _ from BB_2.out.trans (b3.mono BB_2.out.size))
  clear b3 VN_2 VR_2 BB_2
  have n0 := VN_3.out.cell 0 (v := .int .u64 (lo : Int)) rfl
  have f0 := VN_3.out.free 0
  go_upto_region 4 with fail
  clear n0 f0
  have VN_4 : Hid (VA (w3.setCell ⟨w.heap.size, 0, none⟩ (.int .u64 (x : Int))) w.heap.size (zc x y) 77) := VN_3.out.set 0 (.int .u64 (x : Int))
  have VR_4 := (show Hid _ from VR_3.out.set_other (q := w.heap.size) (by omega) 0 (.int .u64 (x : Int)))
  have BB_4 := (show Hid _ from BB_3.out.setCell (p := ⟨w.heap.size, 0, none⟩) (Nat.le_refl _) (.int .u64 (x : Int)))
  clear VN_3 VR_3 BB_3
  generalize w3.setCell ⟨w.heap.size, 0, none⟩ (.int .u64 (x : Int)) = w4 at *
  go_wp2_with (first | (refine ldA rfl 77 _ rfl w.heap.size (by rfl) (zc x y) _ VN_4.out _ Tryz.underlying77 rfl infoZ ?_) | (refine stA rfl 77 _ _ rfl (w.heap.size + 1) (by rfl) (zc 0 0) (zc x y) (by rfl) 77 VR_4.out infoZ rfl (zc_one _ _) ?_; intro wf vf uf))
  have hld := run_loadVar_row (P := Tryz.prog) wf (w.heap.size + 1) 77 77 _ (0, 0) _ vf.blk Tryz.underlying77 rfl infoZ
  exact bodyPost_ret (v := .tuple #[.agg (zc x y).toArray, .int .u64 (d : Int)]) (by simp [results, Tryz.results31, asAddr, hld]) rfl ⟨rfl, uf.bel BB_4.out (by omega)⟩
end Go.Proofs.YteohncnjjgoemaaGreatDoor
/- money: the example of awake: the text of JPY 12; awake. -/
namespace Go.Proofs.YteohncnjjgoemaaGreatDoor
open Go.RowKit
set_option linter.unusedVariables false

theorem t12 (w : World) : Calls Tryz.prog 31 #[.agg #[.int .u64 12, .int .u64 0]] w fun e w' => e = .returned (.tuple #[.agg #[.int .u64 1, .int .u64 0], .int .u64 2]) ∧ Below w.heap.size w w' := tenth_ok 12 0 w (by decide) (by decide) 1 2 (by decide) (by decide)
theorem t1 (w : World) : Calls Tryz.prog 31 #[.agg #[.int .u64 1, .int .u64 0]] w fun e w' => e = .returned (.tuple #[.agg #[.int .u64 0, .int .u64 0], .int .u64 1]) ∧ Below w.heap.size w w' := tenth_ok 1 0 w (by decide) (by decide) 0 1 (by decide) (by decide)
theorem eq_size (a0 a1 b0 b1 : Int) (w : World) : (Op.equalIn 10000 77 (.agg #[.int .u64 a0, .int .u64 a1]) (.agg #[.int .u64 b0, .int .u64 b1])).run Tryz.prog w = .ok ((a0 == b0) && (a1 == b1)) w := by
  obtain ⟨i, hi⟩ : ∃ i, Tryz.prog.info? 39 = some i := Option.isSome_iff_exists.1 (by kernel_rfl)
  rw [show (10000 : Nat) = 9999 + 1 from rfl, run_equalIn_array (P := Tryz.prog) w 9999 _ _ Tryz.underlying77 hi]
  have hc : Tryz.prog.cellsOf 39 = 1 := by kernel_rfl
  rw [hc]
  simp [Op.eqItems, List.range, List.range.loop, go_sem]
  by_cases h0 : a0 = b0 <;> by_cases h1 : a1 = b1 <;> simp [h0, h1]
def d12 : List Value := [.int .i64 0, .int .u64 12, .int .i64 0]
theorem s12 (w : World) : Calls Tryz.prog 29 #[.agg d12.toArray] w fun e w' => e = .returned (.tuple #[.int .i64 1, .int .i64 0]) ∧ Below w.heap.size w w' := sign_ok 12 0 12 0 w ⟨rfl, rfl⟩ ⟨by decide, by decide⟩ (by decide)
set_option maxHeartbeats 4000000 in
set_option maxRecDepth 100000 in
theorem write12 (w : World) : Calls Tryz.prog 12 #[.agg d12.toArray] w fun e w' => e = .returned (.tuple #[.string (strOfNums [49, 50]), .int .i64 0]) ∧ Below w.heap.size w w' := by
  have VD_0 := (show Hid _ from va_new w d12 41)
  have BB_0 := (show Hid _ from (Below.refl w.heap.size w).alloc (Nat.le_refl _) (.cells d12.toArray 41))
  have E1 : ∀ w, (Op.equalIn 10000 77 (.agg #[.int .u64 1, .int .u64 0]) (.agg #[.int .u64 0, .int .u64 0])).run Tryz.prog w = .ok false w := fun w => eq_size 1 0 0 0 w
  have E2 : ∀ w, (Op.equalIn 10000 77 (.agg #[.int .u64 0, .int .u64 0]) (.agg #[.int .u64 0, .int .u64 0])).run Tryz.prog w = .ok true w := fun w => eq_size 0 0 0 0 w
  go_enter Tryz.func12, Tryz.ntmps12
  go_wp2_with (refine ldA rfl 41 _ rfl w.heap.size (by rfl) d12 _ VD_0.out _ Tryz.underlying41 rfl infoD ?_)
  refine (s12 _).mono ?_
  rintro e w1 ⟨rfl, b1⟩
  have VD_1 := (show Hid _ from VD_0.out.step b1)
  have BB_1 := (show Hid _ from BB_0.out.trans (b1.mono BB_0.out.size))
  clear b1 VD_0 BB_0
  have d0 := VD_1.out.cell 0 (v := .int .i64 0) rfl
  have d1 := VD_1.out.cell 1 (v := .int .u64 12) rfl
  have dl := VD_1.out.lt
  go_upto_region 9 with fail
  clear d0 d1
  have HP0 : Hid (w.heap.size < w1.heap.size) := dl
  have eT : (w1.alloc (.cells ([.int .u8 0, .int .u8 0, .int .u8 0, .int .u8 0, .int .u8 0, .int .u8 0, .int .u8 0, .int .u8 0, .int .u8 0, .int .u8 0, .int .u8 0, .int .u8 0, .int .u8 0, .int .u8 0, .int .u8 0, .int .u8 0, .int .u8 0, .int .u8 0, .int .u8 0, .int .u8 0, .int .u8 0, .int .u8 0, .int .u8 0, .int .u8 0, .int .u8 0, .int .u8 0, .int .u8 0, .int .u8 0, .int .u8 0, .int .u8 0, .int .u8 0, .int .u8 0, .int .u8 0, .int .u8 0, .int .u8 0, .int .u8 0, .int .u8 0, .int .u8 0, .int .u8 0, .int .u8 0, .int .u8 0] : List Value).toArray 75)).heap.size = w1.heap.size + 1 := by simp
  change Code.wp _ _ _ _ ((w1.alloc (.cells ([.int .u8 0, .int .u8 0, .int .u8 0, .int .u8 0, .int .u8 0, .int .u8 0, .int .u8 0, .int .u8 0, .int .u8 0, .int .u8 0, .int .u8 0, .int .u8 0, .int .u8 0, .int .u8 0, .int .u8 0, .int .u8 0, .int .u8 0, .int .u8 0, .int .u8 0, .int .u8 0, .int .u8 0, .int .u8 0, .int .u8 0, .int .u8 0, .int .u8 0, .int .u8 0, .int .u8 0, .int .u8 0, .int .u8 0, .int .u8 0, .int .u8 0, .int .u8 0, .int .u8 0, .int .u8 0, .int .u8 0, .int .u8 0, .int .u8 0, .int .u8 0, .int .u8 0, .int .u8 0, .int .u8 0] : List Value).toArray 75)).alloc (.cells (zc 12 0).toArray 77))
  have VT_2 := (show Hid _ from (va_new w1 [.int .u8 0, .int .u8 0, .int .u8 0, .int .u8 0, .int .u8 0, .int .u8 0, .int .u8 0, .int .u8 0, .int .u8 0, .int .u8 0, .int .u8 0, .int .u8 0, .int .u8 0, .int .u8 0, .int .u8 0, .int .u8 0, .int .u8 0, .int .u8 0, .int .u8 0, .int .u8 0, .int .u8 0, .int .u8 0, .int .u8 0, .int .u8 0, .int .u8 0, .int .u8 0, .int .u8 0, .int .u8 0, .int .u8 0, .int .u8 0, .int .u8 0, .int .u8 0, .int .u8 0, .int .u8 0, .int .u8 0, .int .u8 0, .int .u8 0, .int .u8 0, .int .u8 0, .int .u8 0, .int .u8 0] 75).alloc (.cells (zc 12 0).toArray 77))
  have VF_2 := (show Hid _ from va_new (w1.alloc (.cells ([.int .u8 0, .int .u8 0, .int .u8 0, .int .u8 0, .int .u8 0, .int .u8 0, .int .u8 0, .int .u8 0, .int .u8 0, .int .u8 0, .int .u8 0, .int .u8 0, .int .u8 0, .int .u8 0, .int .u8 0, .int .u8 0, .int .u8 0, .int .u8 0, .int .u8 0, .int .u8 0, .int .u8 0, .int .u8 0, .int .u8 0, .int .u8 0, .int .u8 0, .int .u8 0, .int .u8 0, .int .u8 0, .int .u8 0, .int .u8 0, .int .u8 0, .int .u8 0, .int .u8 0, .int .u8 0, .int .u8 0, .int .u8 0, .int .u8 0, .int .u8 0, .int .u8 0, .int .u8 0, .int .u8 0] : List Value).toArray 75)) (zc 12 0) 77)
  rw [eT] at VF_2
  have VD_2 := (show Hid _ from (VD_1.out.alloc (.cells ([.int .u8 0, .int .u8 0, .int .u8 0, .int .u8 0, .int .u8 0, .int .u8 0, .int .u8 0, .int .u8 0, .int .u8 0, .int .u8 0, .int .u8 0, .int .u8 0, .int .u8 0, .int .u8 0, .int .u8 0, .int .u8 0, .int .u8 0, .int .u8 0, .int .u8 0, .int .u8 0, .int .u8 0, .int .u8 0, .int .u8 0, .int .u8 0, .int .u8 0, .int .u8 0, .int .u8 0, .int .u8 0, .int .u8 0, .int .u8 0, .int .u8 0, .int .u8 0, .int .u8 0, .int .u8 0, .int .u8 0, .int .u8 0, .int .u8 0, .int .u8 0, .int .u8 0, .int .u8 0, .int .u8 0] : List Value).toArray 75)).alloc (.cells (zc 12 0).toArray 77))
  have BX := BB_1.out.alloc BB_1.out.size (.cells ([.int .u8 0, .int .u8 0, .int .u8 0, .int .u8 0, .int .u8 0, .int .u8 0, .int .u8 0, .int .u8 0, .int .u8 0, .int .u8 0, .int .u8 0, .int .u8 0, .int .u8 0, .int .u8 0, .int .u8 0, .int .u8 0, .int .u8 0, .int .u8 0, .int .u8 0, .int .u8 0, .int .u8 0, .int .u8 0, .int .u8 0, .int .u8 0, .int .u8 0, .int .u8 0, .int .u8 0, .int .u8 0, .int .u8 0, .int .u8 0, .int .u8 0, .int .u8 0, .int .u8 0, .int .u8 0, .int .u8 0, .int .u8 0, .int .u8 0, .int .u8 0, .int .u8 0, .int .u8 0, .int .u8 0] : List Value).toArray 75)
  have BB_2 := (show Hid _ from BX.alloc BX.size (.cells (zc 12 0).toArray 77))
  obtain ⟨pt, hpt⟩ : ∃ pt, pt = w1.heap.size := ⟨_, rfl⟩
  obtain ⟨pf, hpf⟩ : ∃ pf, pf = w1.heap.size + 1 := ⟨_, rfl⟩
  rw [← hpt] at VT_2
  rw [← hpf] at VF_2
  rw [← hpf, ← hpt]
  have HP : Hid (w.heap.size < pt ∧ pf = pt + 1) := ⟨by rw [hpt]; exact HP0.out, by rw [hpt, hpf]⟩
  clear hpt hpf eT BX VD_1 BB_1 HP0 dl
  generalize (w1.alloc (.cells ([.int .u8 0, .int .u8 0, .int .u8 0, .int .u8 0, .int .u8 0, .int .u8 0, .int .u8 0, .int .u8 0, .int .u8 0, .int .u8 0, .int .u8 0, .int .u8 0, .int .u8 0, .int .u8 0, .int .u8 0, .int .u8 0, .int .u8 0, .int .u8 0, .int .u8 0, .int .u8 0, .int .u8 0, .int .u8 0, .int .u8 0, .int .u8 0, .int .u8 0, .int .u8 0, .int .u8 0, .int .u8 0, .int .u8 0, .int .u8 0, .int .u8 0, .int .u8 0, .int .u8 0, .int .u8 0, .int .u8 0, .int .u8 0, .int .u8 0, .int .u8 0, .int .u8 0, .int .u8 0, .int .u8 0] : List Value).toArray 75)).alloc (.cells (zc 12 0).toArray 77) = w2 at *
  go_wp2_with fail
  refine wp_loop_rounds 3 ?_
  rw [rounds_succ]
  have d2 := VD_2.out.cell 2 (v := .int .i64 0) rfl
  have z0 := VF_2.out.cell 0 (v := .int .u64 12) rfl
  have z1 := VF_2.out.cell 1 (v := .int .u64 0) rfl
  go_wp2_with fail
  clear d2 z0 z1
  refine (t12 _).mono ?_
  rintro e w3 ⟨rfl, b3⟩
  have VD_3 := (show Hid _ from VD_2.out.step b3)
  have VT_3 := (show Hid _ from VT_2.out.step b3)
  have VF_3 := (show Hid _ from VF_2.out.step b3)
  have BB_3 := (show Hid _ from BB_2.out.trans (b3.mono BB_2.out.size))
  clear b3 VD_2 VT_2 VF_2 BB_2
  go_upto_region 17 with (refine stA rfl 77 _ _ rfl pf (by rfl) (zc 12 0) (zc 1 0) (by rfl) 77 VF_3.out infoZ rfl (zc_one _ _) ?_; intro w4 v u; have VF_4 := (show Hid _ from v); have VT_4 := (show Hid _ from VT_3.out.upd u (by have := HP.out; omega)); have VD_4 := (show Hid _ from VD_3.out.upd u (by have := HP.out; omega)); have BB_4 := (show Hid _ from u.bel BB_3.out (by have := HP.out; omega)); clear v u VF_3 VT_3 VD_3 BB_3)
  have t0 := VT_4.out.cell 40 (v := .int .u8 0) rfl
  have t1 := VT_4.out.free 40
  go_wp2_with fail
  clear t0 t1
  have VT_5 : Hid (VA (w4.setCell ⟨pt, 40, none⟩ (.int .u8 50)) pt [.int .u8 0, .int .u8 0, .int .u8 0, .int .u8 0, .int .u8 0, .int .u8 0, .int .u8 0, .int .u8 0, .int .u8 0, .int .u8 0, .int .u8 0, .int .u8 0, .int .u8 0, .int .u8 0, .int .u8 0, .int .u8 0, .int .u8 0, .int .u8 0, .int .u8 0, .int .u8 0, .int .u8 0, .int .u8 0, .int .u8 0, .int .u8 0, .int .u8 0, .int .u8 0, .int .u8 0, .int .u8 0, .int .u8 0, .int .u8 0, .int .u8 0, .int .u8 0, .int .u8 0, .int .u8 0, .int .u8 0, .int .u8 0, .int .u8 0, .int .u8 0, .int .u8 0, .int .u8 0, .int .u8 50] 75) := VT_4.out.set 40 (.int .u8 50)
  have VF_5 := (show Hid _ from VF_4.out.set_other (q := pt) (by have := HP.out; omega) 40 (.int .u8 50))
  have VD_5 := (show Hid _ from VD_4.out.set_other (q := pt) (by have := HP.out; omega) 40 (.int .u8 50))
  have BB_5 := (show Hid _ from BB_4.out.setCell (p := ⟨pt, 40, none⟩) (by have := HP.out; show _ ≤ pt; omega) (.int .u8 50))
  clear VT_4 VF_4 VD_4 BB_4
  generalize w4.setCell ⟨pt, 40, none⟩ (.int .u8 50) = w5 at *
  
  rw [rounds_succ]
  have d2 := VD_5.out.cell 2 (v := .int .i64 0) rfl
  have z0 := VF_5.out.cell 0 (v := .int .u64 1) rfl
  have z1 := VF_5.out.cell 1 (v := .int .u64 0) rfl
  go_wp2_with fail
  clear d2 z0 z1
  refine (t1 _).mono ?_
  rintro e w6 ⟨rfl, b6⟩
  have VD_6 := (show Hid _ from VD_5.out.step b6)
  have VT_6 := (show Hid _ from VT_5.out.step b6)
  have VF_6 := (show Hid _ from VF_5.out.step b6)
  have BB_6 := (show Hid _ from BB_5.out.trans (b6.mono BB_5.out.size))
  clear b6 VD_5 VT_5 VF_5 BB_5
  go_upto_region 17 with (refine stA rfl 77 _ _ rfl pf (by rfl) (zc 1 0) (zc 0 0) (by rfl) 77 VF_6.out infoZ rfl (zc_one _ _) ?_; intro w7 v u; have VF_7 := (show Hid _ from v); have VT_7 := (show Hid _ from VT_6.out.upd u (by have := HP.out; omega)); have VD_7 := (show Hid _ from VD_6.out.upd u (by have := HP.out; omega)); have BB_7 := (show Hid _ from u.bel BB_6.out (by have := HP.out; omega)); clear v u VF_6 VT_6 VD_6 BB_6)
  have t0 := VT_7.out.cell 39 (v := .int .u8 0) rfl
  have t1 := VT_7.out.free 39
  go_wp2_with fail
  clear t0 t1
  have VT_8 : Hid (VA (w7.setCell ⟨pt, 39, none⟩ (.int .u8 49)) pt [.int .u8 0, .int .u8 0, .int .u8 0, .int .u8 0, .int .u8 0, .int .u8 0, .int .u8 0, .int .u8 0, .int .u8 0, .int .u8 0, .int .u8 0, .int .u8 0, .int .u8 0, .int .u8 0, .int .u8 0, .int .u8 0, .int .u8 0, .int .u8 0, .int .u8 0, .int .u8 0, .int .u8 0, .int .u8 0, .int .u8 0, .int .u8 0, .int .u8 0, .int .u8 0, .int .u8 0, .int .u8 0, .int .u8 0, .int .u8 0, .int .u8 0, .int .u8 0, .int .u8 0, .int .u8 0, .int .u8 0, .int .u8 0, .int .u8 0, .int .u8 0, .int .u8 0, .int .u8 49, .int .u8 50] 75) := VT_7.out.set 39 (.int .u8 49)
  have VF_8 := (show Hid _ from VF_7.out.set_other (q := pt) (by have := HP.out; omega) 39 (.int .u8 49))
  have VD_8 := (show Hid _ from VD_7.out.set_other (q := pt) (by have := HP.out; omega) 39 (.int .u8 49))
  have BB_8 := (show Hid _ from BB_7.out.setCell (p := ⟨pt, 39, none⟩) (by have := HP.out; show _ ≤ pt; omega) (.int .u8 49))
  clear VT_7 VF_7 VD_7 BB_7
  generalize w7.setCell ⟨pt, 39, none⟩ (.int .u8 49) = w8 at *
  
  rw [rounds_succ]
  have d2 := VD_8.out.cell 2 (v := .int .i64 0) rfl
  have z0 := VF_8.out.cell 0 (v := .int .u64 0) rfl
  have z1 := VF_8.out.cell 1 (v := .int .u64 0) rfl
  have hconv := run_convert_bytes_arg (P := Tryz.prog) w8 80 5 Tryz.underlying80 Tryz.underlying5 pt 39 2 2 [49, 50] rfl (fun i hi => by
    match i, hi with
    | 0, _ => exact VT_8.out.cell 39 rfl
    | 1, _ => exact VT_8.out.cell 40 rfl) 9 Tryz.underlying9
  go_wp2_with fail
  refine bodyPost_ret (v := .tuple #[.string (strOfNums [49, 50]), .int .i64 0]) (by simp [results, Tryz.results12, go_sem]) rfl ?_
  exact ⟨rfl, BB_8.out⟩
end Go.Proofs.YteohncnjjgoemaaGreatDoor
/- money: the example of awake: Write of JPY 12; awake. -/
namespace Go.Proofs.YteohncnjjgoemaaGreatDoor
open Go.RowKit
set_option linter.unusedVariables false

/-- the third currency's name -/
structure Cn (w : World) : Prop where
  jpy : w.cell? ⟨0, 4, none⟩ = some (.string ⟨#[74, 80, 89]⟩)
  lt : 0 < w.heap.size
theorem Cn.step {w w' : World} (h : Cn w) (k : Below w.heap.size w w') : Cn w' := ⟨(k.cell (p := ⟨0, 4, none⟩) h.lt).trans h.jpy, Nat.lt_of_lt_of_le h.lt k.size⟩
theorem Cn.alloc {w : World} (h : Cn w) (o : Obj) : Cn (w.alloc o) := h.step ((Below.refl _ _).alloc (Nat.le_refl _) o)
theorem cn_of {W : World} {rest : List (String × DataW Unit)} (h : laidMet Tryz.prog (("passbook/money.currencies", pairData curs) :: rest) W) : Cn W := by
  obtain ⟨s, hs, h1, _⟩ := pairs_of_head (show Tryz.prog.globalNamed "passbook/money.currencies" = some 0 by kernel_rfl) (by kernel_rfl) Tryz.underlying47 Tryz.underlying46 (by rfl) (by rfl) (by rfl) (by rfl) (by kernel_rfl) (by kernel_rfl) (by kernel_rfl) (by kernel_rfl) (by kernel_rfl) h 2 ([74, 80, 89], 0) rfl
  obtain ⟨⟨l⟩⟩ := s
  simp at hs
  subst hs
  exact ⟨h1, World.block_lt_of_cell? W _ h1⟩
theorem To12 (w : World) (T : Cu w) : Calls Tryz.prog 11 #[.agg (mcl 2 12).toArray] w fun e w' => e = .returned (.tuple #[.agg d12.toArray, .int .i64 0]) ∧ Below w.heap.size w w' := To_ok 2 12 w T (by decide) (by decide)
set_option maxHeartbeats 4000000 in
set_option maxRecDepth 100000 in
theorem mwrite12 (w : World) (T : Cu w) (N : Cn w) : Calls Tryz.prog 5 #[.agg (mcl 2 12).toArray] w fun e w' => e = .returned (.tuple #[.string ⟨#[74, 80, 89, 32, 49, 50]⟩, .int .i64 0]) ∧ Below w.heap.size w w' := by
  have VM_0 := (show Hid _ from va_new w (mcl 2 12) 23)
  have BB_0 := (show Hid _ from (Below.refl w.heap.size w).alloc (Nat.le_refl _) (.cells (mcl 2 12).toArray 23))
  have CU_0 := (show Hid _ from T.alloc (.cells (mcl 2 12).toArray 23))
  have CN_0 := (show Hid _ from N.alloc (.cells (mcl 2 12).toArray 23))
  clear T N
  go_enter Tryz.func5, Tryz.ntmps5
  go_wp2_with (refine ldA rfl 23 _ rfl w.heap.size (by rfl) (mcl 2 12) _ VM_0.out _ Tryz.underlying23 rfl infoM ?_)
  refine (To12 _ CU_0.out).mono ?_
  rintro e w1 ⟨rfl, b1⟩
  have VM_1 := (show Hid _ from VM_0.out.step b1)
  have CU_1 := (show Hid _ from CU_0.out.step b1)
  have CN_1 := (show Hid _ from CN_0.out.step b1)
  have BB_1 := (show Hid _ from BB_0.out.trans (b1.mono BB_0.out.size))
  clear b1 VM_0 CU_0 CN_0 BB_0
  have VX_1 := (show Hid _ from va_new w1 zdl 41)
  have hml := VM_1.out.lt
  go_wp2_with (first | (refine stA rfl 41 _ _ rfl w1.heap.size (by rfl) zdl d12 (by rfl) 41 VX_1.out infoD rfl (by decide) ?_; intro w2 v2 u2; have VX_2 := (show Hid _ from v2); have VM_2 := (show Hid _ from (VM_1.out.alloc (.cells zdl.toArray 41)).upd u2 (by omega)); have CN_2 := (show Hid (w2.cell? ⟨0, 4, none⟩ = some (.string ⟨#[74, 80, 89]⟩) ∧ 0 < w2.heap.size) from ⟨(World.cell?_of_block (w := w1.alloc (.cells zdl.toArray 41)) (w' := w2) (a := ⟨0, 4, none⟩) (u2.block 0 (Nat.ne_of_lt CN_1.out.lt))).trans (CN_1.out.alloc (.cells zdl.toArray 41)).jpy, by rw [u2.size]; exact (CN_1.out.alloc _).lt⟩); have BB_2 := (show Hid _ from u2.bel (BB_1.out.alloc BB_1.out.size (.cells zdl.toArray 41)) (by have := BB_1.out.size; omega)); clear v2 u2 VX_1 VM_1 CU_1 CN_1 BB_1) | (refine ldA rfl 41 _ rfl w1.heap.size (by rfl) d12 _ VX_2.out _ Tryz.underlying41 rfl infoD ?_))
  refine (write12 _).mono ?_
  rintro e w3 ⟨rfl, b3⟩
  have VM_3 := (show Hid _ from VM_2.out.step b3)
  have BB_3 := (show Hid _ from BB_2.out.trans (b3.mono BB_2.out.size))
  have c4 : w3.cell? ⟨0, 4, none⟩ = some (.string ⟨#[74, 80, 89]⟩) := (b3.cell (p := ⟨0, 4, none⟩) CN_2.out.2).trans CN_2.out.1
  clear b3 VX_2 VM_2 CN_2 BB_2
  have m0 := VM_3.out.cell 0 (v := .int .i64 2) rfl
  have hsz : (strOfNums [49, 50]).size = 2 := rfl
  have hst : Hid ((⟨#[74, 80, 89]⟩ : ByteArray) ++ ⟨#[32]⟩ ++ strOfNums [49, 50] = ⟨#[74, 80, 89, 32, 49, 50]⟩) := by
    show (⟨#[74, 80, 89]⟩ : ByteArray) ++ ⟨#[32]⟩ ++ strOfNums [49, 50] = ⟨#[74, 80, 89, 32, 49, 50]⟩
    decide
  go_wp2_with fail
  refine bodyPost_ret (v := .tuple #[.string ((⟨#[74, 80, 89]⟩ : ByteArray) ++ ⟨#[32]⟩ ++ strOfNums [49, 50]), .int .i64 0]) (by simp [results, Tryz.results5, go_sem]) rfl ⟨?_, BB_3.out⟩
  rw [hst.out]
set_option maxHeartbeats 4000000 in
set_option maxRecDepth 100000 in
theorem awake05 (w : World) (T : Cu w) (N : Cn w) : Calls Tryz.prog 4 #[] w fun e w' => e = .returned (.bool true) ∧ Below w.heap.size w w' := by
  have VP_0 := (show Hid _ from va_new w (ci [1, 1, 1]) 2)
  have BB_0 := (show Hid _ from (Below.refl w.heap.size w).alloc (Nat.le_refl _) (.cells (ci [1, 1, 1]).toArray 2))
  have CU_0 := (show Hid _ from T.alloc (.cells (ci [1, 1, 1]).toArray 2))
  have CN_0 := (show Hid _ from N.alloc (.cells (ci [1, 1, 1]).toArray 2))
  clear T N
  go_enter Tryz.func4, Tryz.ntmps4
  go_wp2_with fail
  refine (split3 w.heap.size _ VP_0.out).mono ?_
  rintro e w1 ⟨⟨M, rfl, vm⟩, b1⟩
  have VO_1 := (show Hid _ from vm)
  have BB_1 := (show Hid _ from BB_0.out.trans (b1.mono BB_0.out.size))
  have CU_1 := (show Hid _ from CU_0.out.step b1)
  have CN_1 := (show Hid _ from CN_0.out.step b1)
  clear vm b1 VP_0 BB_0 CU_0 CN_0
  go_wp2_with fail
  refine (mwrite12 _ CU_1.out CN_1.out).mono ?_
  rintro e w2 ⟨rfl, b2⟩
  have VO_2 := (show Hid _ from VO_1.out.step b2)
  have BB_2 := (show Hid _ from BB_1.out.trans (b2.mono BB_1.out.size))
  clear b2 VO_1 BB_1 CU_1 CN_1
  have o1 := VO_2.out.cell 1 (v := .int .i64 34) rfl
  have o3 := VO_2.out.cell 3 (v := .int .i64 33) rfl
  go_wp2_with fail
  exact bodyPost_ret (v := .bool true) (by simp [results, Tryz.results4, go_sem]) rfl ⟨rfl, BB_2.out⟩
end Go.Proofs.YteohncnjjgoemaaGreatDoor
