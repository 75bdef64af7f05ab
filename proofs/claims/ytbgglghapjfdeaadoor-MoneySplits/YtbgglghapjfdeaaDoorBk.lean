/- money: the example of awake: Write of JPY 12; awake. -/
import Derived.Test.YtbgglghapjfdeaaDoorBj
namespace Go.Proofs.YtbgglghapjfdeaaDoor
open Go.RowKit
set_option linter.unusedVariables false

/-- the third currency's name -/
structure Cn (w : World) : Prop where
  jpy : w.cell? ⟨0, 4, none⟩ = some (.string ⟨#[74, 80, 89]⟩)
  lt : 0 < w.heap.size
theorem Cn.step {w w' : World} (h : Cn w) (k : Below w.heap.size w w') : Cn w' := ⟨(k.cell (p := ⟨0, 4, none⟩) h.lt).trans h.jpy, Nat.lt_of_lt_of_le h.lt k.size⟩
theorem Cn.alloc {w : World} (h : Cn w) (o : Obj) : Cn (w.alloc o) := h.step ((Below.refl _ _).alloc (Nat.le_refl _) o)
theorem cn_of {W : World} {rest : List (String × DataW Unit)} (h : laidMet Tryd.prog (("passbook/money.currencies", pairData curs) :: rest) W) : Cn W := by
  obtain ⟨s, hs, h1, _⟩ := pairs_of_head (show Tryd.prog.globalNamed "passbook/money.currencies" = some 0 by kernel_rfl) (by kernel_rfl) Tryd.underlying71 Tryd.underlying70 (by rfl) (by rfl) (by rfl) (by rfl) (by kernel_rfl) (by kernel_rfl) (by kernel_rfl) (by kernel_rfl) (by kernel_rfl) h 2 ([74, 80, 89], 0) rfl
  obtain ⟨⟨l⟩⟩ := s
  simp at hs
  subst hs
  exact ⟨h1, World.block_lt_of_cell? W _ h1⟩
theorem To12 (w : World) (T : Cu w) : Calls Tryd.prog 26 #[.agg (mcl 2 12).toArray] w fun e w' => e = .returned (.tuple #[.agg d12.toArray, .int .i64 0]) ∧ Below w.heap.size w w' := To_ok 2 12 w T (by decide) (by decide)
set_option maxHeartbeats 4000000 in
set_option maxRecDepth 100000 in
theorem mwrite12 (w : World) (T : Cu w) (N : Cn w) : Calls Tryd.prog 14 #[.agg (mcl 2 12).toArray] w fun e w' => e = .returned (.tuple #[.string ⟨#[74, 80, 89, 32, 49, 50]⟩, .int .i64 0]) ∧ Below w.heap.size w w' := by
  have VM_0 := (show Hid _ from va_new w (mcl 2 12) 23)
  have BB_0 := (show Hid _ from (Below.refl w.heap.size w).alloc (Nat.le_refl _) (.cells (mcl 2 12).toArray 23))
  have CU_0 := (show Hid _ from T.alloc (.cells (mcl 2 12).toArray 23))
  have CN_0 := (show Hid _ from N.alloc (.cells (mcl 2 12).toArray 23))
  clear T N
  go_enter Tryd.func14, Tryd.ntmps14
  go_wp2_with (refine ldA rfl 23 _ rfl w.heap.size (by rfl) (mcl 2 12) _ VM_0.out _ Tryd.underlying23 rfl infoM ?_)
  refine (To12 _ CU_0.out).mono ?_
  rintro e w1 ⟨rfl, b1⟩
  have VM_1 := (show Hid _ from VM_0.out.step b1)
  have CU_1 := (show Hid _ from CU_0.out.step b1)
  have CN_1 := (show Hid _ from CN_0.out.step b1)
  have BB_1 := (show Hid _ from BB_0.out.trans (b1.mono BB_0.out.size))
  clear b1 VM_0 CU_0 CN_0 BB_0
  have VX_1 := (show Hid _ from va_new w1 zdl 65)
  have hml := VM_1.out.lt
  go_wp2_with (first | (refine stA rfl 65 _ _ rfl w1.heap.size (by rfl) zdl d12 (by rfl) 65 VX_1.out infoD rfl (by decide) ?_; intro w2 v2 u2; have VX_2 := (show Hid _ from v2); have VM_2 := (show Hid _ from (VM_1.out.alloc (.cells zdl.toArray 65)).upd u2 (by omega)); have CN_2 := (show Hid (w2.cell? ⟨0, 4, none⟩ = some (.string ⟨#[74, 80, 89]⟩) ∧ 0 < w2.heap.size) from ⟨(World.cell?_of_block (w := w1.alloc (.cells zdl.toArray 65)) (w' := w2) (a := ⟨0, 4, none⟩) (u2.block 0 (Nat.ne_of_lt CN_1.out.lt))).trans (CN_1.out.alloc (.cells zdl.toArray 65)).jpy, by rw [u2.size]; exact (CN_1.out.alloc _).lt⟩); have BB_2 := (show Hid _ from u2.bel (BB_1.out.alloc BB_1.out.size (.cells zdl.toArray 65)) (by have := BB_1.out.size; omega)); clear v2 u2 VX_1 VM_1 CU_1 CN_1 BB_1) | (refine ldA rfl 65 _ rfl w1.heap.size (by rfl) d12 _ VX_2.out _ Tryd.underlying65 rfl infoD ?_))
  refine (write12 _).mono ?_
  rintro e w3 ⟨rfl, b3⟩
  have VM_3 := (show Hid _ from VM_2.out.step b3)
  have BB_3 := (show Hid _ from BB_2.out.trans (b3.mono BB_2.out.size))
  have c4 : w3.cell? ⟨0, 4, none⟩ = some (.string ⟨#[74, 80, 89]⟩) := (b3.cell (p := ⟨0, 4, none⟩) CN_2.out.2).trans CN_2.out.1
  clear b3 VX_2 VM_2 CN_2 BB_2
  have m0 := VM_3.out.cell 0 (v := .int .i64 2) rfl
  have hsz : (strOfNums [49, 50]).size = 2 := rfl
  have hst : Hid ((⟨#[74, 80, 89]⟩ : ByteArray) ++ ⟨#[32]⟩ ++ strOfNums [49, 50] = ⟨#[74, 80, 89, 32, 49, 50]⟩) := by
    show (⟨#[74, 80, 89]⟩ : ByteArray) ++ ⟨#[32]⟩ ++ strOfNums [49, 50] = ⟨#[74, 80, 89, 32, 49, 50]⟩
    decide
  go_wp2_with fail
  refine bodyPost_ret (v := .tuple #[.string ((⟨#[74, 80, 89]⟩ : ByteArray) ++ ⟨#[32]⟩ ++ strOfNums [49, 50]), .int .i64 0]) (by simp [results, Tryd.results14, go_sem]) rfl ⟨?_, BB_3.out⟩
  rw [hst.out]
set_option maxHeartbeats 4000000 in
set_option maxRecDepth 100000 in
theorem awake05 (w : World) (T : Cu w) (N : Cn w) : Calls Tryd.prog 6 #[] w fun e w' => e = .returned (.bool true) ∧ Below w.heap.size w w' := by
  have VP_0 := (show Hid _ from va_new w (ci [1, 1, 1]) 2)
  have BB_0 := (show Hid _ from (Below.refl w.heap.size w).alloc (Nat.le_refl _) (.cells (ci [1, 1, 1]).toArray 2))
  have CU_0 := (show Hid _ from T.alloc (.cells (ci [1, 1, 1]).toArray 2))
  have CN_0 := (show Hid _ from N.alloc (.cells (ci [1, 1, 1]).toArray 2))
  clear T N
  go_enter Tryd.func6, Tryd.ntmps6
  go_wp2_with fail
  refine (split3 w.heap.size _ VP_0.out).mono ?_
  rintro e w1 ⟨⟨M, rfl, vm⟩, b1⟩
  have VO_1 := (show Hid _ from vm)
  have BB_1 := (show Hid _ from BB_0.out.trans (b1.mono BB_0.out.size))
  have CU_1 := (show Hid _ from CU_0.out.step b1)
  have CN_1 := (show Hid _ from CN_0.out.step b1)
  clear vm b1 VP_0 BB_0 CU_0 CN_0
  go_wp2_with fail
  refine (mwrite12 _ CU_1.out CN_1.out).mono ?_
  rintro e w2 ⟨rfl, b2⟩
  have VO_2 := (show Hid _ from VO_1.out.step b2)
  have BB_2 := (show Hid _ from BB_1.out.trans (b2.mono BB_1.out.size))
  clear b2 VO_1 BB_1 CU_1 CN_1
  have o1 := VO_2.out.cell 1 (v := .int .i64 34) rfl
  have o3 := VO_2.out.cell 3 (v := .int .i64 33) rfl
  go_wp2_with fail
  exact bodyPost_ret (v := .bool true) (by simp [results, Tryd.results6, go_sem]) rfl ⟨rfl, BB_2.out⟩
end Go.Proofs.YtbgglghapjfdeaaDoor
