/- money: the example of awake: the text of JPY 12; awake. -/
import Derived.Test.YtbgglghapjfdeaaDoorBh
import Derived.Test.YtbgglghapjfdeaaDoorBc
import Derived.Test.YtbgglghapjfdeaaDoorBt
namespace Go.Proofs.YtbgglghapjfdeaaDoor
open Go.RowKit
set_option linter.unusedVariables false

theorem infoZ : (Tryd.prog.info? 86).map (·.size) = some 2 := by kernel_rfl
def zc (a b : Nat) : List Value := [.int .u64 (a : Int), .int .u64 (b : Int)]
theorem zc_one (a b : Nat) : ∀ v ∈ zc a b, v.oneCell' = true := by intro v hv; simp [zc] at hv; rcases hv with rfl | rfl <;> rfl
set_option maxHeartbeats 1000000 in
set_option maxRecDepth 100000 in
theorem tenth_ok (lo hi : Nat) (w : World) (h1 : lo < 18446744073709551616) (h2 : hi < 18446744073709551616) (x d : Nat) (hx : x = (hi % 10 * 18446744073709551616 + lo) / 10) (hd : d = (hi % 10 * 18446744073709551616 + lo) % 10) :
    Calls Tryd.prog 39 #[.agg (zc lo hi).toArray] w fun e w' => e = .returned (.tuple #[.agg (zc x (hi / 10)).toArray, .int .u64 (d : Int)]) ∧ Below w.heap.size w w' := by
  have D1 : ∀ w, Calls Tryd.prog 32 #[.int .u64 0, .int .u64 (hi : Int), .int .u64 10] w fun e w' => e = .returned (.tuple #[.int .u64 ((hi / 10 : Nat) : Int), .int .u64 ((hi % 10 : Nat) : Int)]) ∧ Below w.heap.size w w' := fun w => div64_small hi 10 w (by decide) (by decide) (by omega)
  obtain ⟨r, hr⟩ : ∃ r, r = hi % 10 := ⟨_, rfl⟩
  obtain ⟨y, hy⟩ : ∃ y, y = hi / 10 := ⟨_, rfl⟩
  have rb : r < 10 := by omega
  rw [← hr] at hx hd D1
  rw [← hy] at D1
  rw [← hy]
  have D2 : ∀ w, Calls Tryd.prog 32 #[.int .u64 (r : Int), .int .u64 (lo : Int), .int .u64 10] w fun e w' => e = .returned (.tuple #[.int .u64 (x : Int), .int .u64 (d : Int)]) ∧ Below w.heap.size w w' := fun w => by
    have h := div64_any r lo 10 w rb (by decide) h1
    rw [hx, hd]
    exact h
  have HD1 := (show Hid _ from D1)
  have HD2 := (show Hid _ from D2)
  have VN_0 := (show Hid _ from (va_new w (zc lo hi) 86).alloc (.cells (zc 0 0).toArray 86))
  have VR_0 := (show Hid _ from va_new (w.alloc (.cells (zc lo hi).toArray 86)) (zc 0 0) 86)
  rw [show (w.alloc (.cells (zc lo hi).toArray 86)).heap.size = w.heap.size + 1 by simp] at VR_0
  have BB_0 := (show Hid _ from ((Below.refl w.heap.size w).alloc (Nat.le_refl _) (.cells (zc lo hi).toArray 86)).alloc (by simp) (.cells (zc 0 0).toArray 86))
  clear D1 D2 hx hd hr hy h1 h2 rb
  go_enter Tryd.func39, Tryd.ntmps39
  have n1 := VN_0.out.cell 1 (v := .int .u64 (hi : Int)) rfl
  go_upto_region 1 with fail
  change Code.wp _ _ _ _ ((w.alloc (.cells (zc lo hi).toArray 86)).alloc (.cells (zc 0 0).toArray 86))
  generalize (w.alloc (.cells (zc lo hi).toArray 86)).alloc (.cells (zc 0 0).toArray 86) = wa at *
  go_wp2_with fail
  clear n1
  refine (HD1.out _).mono ?_
  rintro e w1 ⟨rfl, b1⟩
  have VN_1 := (show Hid _ from VN_0.out.step b1)
  have VR_1 := (show Hid _ from VR_0.out.step b1)
  have BB_1 := (show Hid _ from BB_0.out.trans (b1.mono BB_0.out.size))
  clear b1 VN_0 VR_0 BB_0
  have n1 := VN_1.out.cell 1 (v := .int .u64 (hi : Int)) rfl
  have n0 := VN_1.out.cell 0 (v := .int .u64 (lo : Int)) rfl
  have f1 := VN_1.out.free 1
  go_upto_region 3 with fail
  clear n1 n0 f1
  have VN_2 : Hid (VA (w1.setCell ⟨w.heap.size, 1, none⟩ (.int .u64 (y : Int))) w.heap.size (zc lo y) 86) := VN_1.out.set 1 (.int .u64 (y : Int))
  have VR_2 := (show Hid _ from VR_1.out.set_other (q := w.heap.size) (by omega) 1 (.int .u64 (y : Int)))
  have BB_2 := (show Hid _ from BB_1.out.setCell (p := ⟨w.heap.size, 1, none⟩) (Nat.le_refl _) (.int .u64 (y : Int)))
  clear VN_1 VR_1 BB_1
  generalize w1.setCell ⟨w.heap.size, 1, none⟩ (.int .u64 (y : Int)) = w2 at *
  have n0 := VN_2.out.cell 0 (v := .int .u64 (lo : Int)) rfl
  go_wp2_with fail
  clear n0
  refine (HD2.out _).mono ?_
  rintro e w3 ⟨rfl, b3⟩
  have VN_3 := (show Hid _ from VN_2.out.step b3)
  have VR_3 := (show Hid _ from VR_2.out.step b3)
  have BB_3 := (show Hid _ from BB_2.out.trans (b3.mono BB_2.out.size))
  clear b3 VN_2 VR_2 BB_2
  have n0 := VN_3.out.cell 0 (v := .int .u64 (lo : Int)) rfl
  have f0 := VN_3.out.free 0
  go_upto_region 4 with fail
  clear n0 f0
  have VN_4 : Hid (VA (w3.setCell ⟨w.heap.size, 0, none⟩ (.int .u64 (x : Int))) w.heap.size (zc x y) 86) := VN_3.out.set 0 (.int .u64 (x : Int))
  have VR_4 := (show Hid _ from VR_3.out.set_other (q := w.heap.size) (by omega) 0 (.int .u64 (x : Int)))
  have BB_4 := (show Hid _ from BB_3.out.setCell (p := ⟨w.heap.size, 0, none⟩) (Nat.le_refl _) (.int .u64 (x : Int)))
  clear VN_3 VR_3 BB_3
  generalize w3.setCell ⟨w.heap.size, 0, none⟩ (.int .u64 (x : Int)) = w4 at *
  go_wp2_with (first | (refine ldA rfl 86 _ rfl w.heap.size (by rfl) (zc x y) _ VN_4.out _ Tryd.underlying86 rfl infoZ ?_) | (refine stA rfl 86 _ _ rfl (w.heap.size + 1) (by rfl) (zc 0 0) (zc x y) (by rfl) 86 VR_4.out infoZ rfl (zc_one _ _) ?_; intro wf vf uf))
  have hld := run_loadVar_row (P := Tryd.prog) wf (w.heap.size + 1) 86 86 _ (0, 0) _ vf.blk Tryd.underlying86 rfl infoZ
  exact bodyPost_ret (v := .tuple #[.agg (zc x y).toArray, .int .u64 (d : Int)]) (by simp [results, Tryd.results39, asAddr, hld]) rfl ⟨rfl, uf.bel BB_4.out (by omega)⟩
end Go.Proofs.YtbgglghapjfdeaaDoor
