/- accrue: the contracts of whole, times. -/
import Derived.Test.YtmaikgebdegkgaaKa
import Derived.Test.YtmaikgebdegkgaaVc
import Derived.Test.YtmaikgebdegkgaaGy
namespace Go.Proofs.Ytmaikgebdegkgaa
open Go.RowKit
set_option linter.unusedVariables false
attribute [local go_sem] ext_cell ext_frozen ext_drew ext_of_drew ext_of_drewN ext_setCell ext_lt ext_lt1 ext_lt2 ext_lt3 lt_n2 lt_n3 lt_n4 lt_n5 lt_n6

def dcl (c : Int) : List Value := [.int .i64 (dhi c), .int .u64 (dlo c), .int .i64 0]
theorem infoD : (Try.prog.info? 56).map (·.size) = some 3 := by kernel_rfl
theorem dcl_one (c : Int) : ∀ v ∈ dcl c, v.oneCell' = true := by intro v hv; simp [dcl] at hv; rcases hv with rfl | rfl | rfl <;> rfl
def zdl : List Value := [.int .i64 0, .int .u64 0, .int .i64 0]
theorem rquo_one' (neg : Bool) (n mode : Nat) : rquo neg n 1 0 mode = n := by
  unfold rquo rnum rden away
  simp [Nat.mod_one]
theorem sv_mul' (a b : Int) : sv ((decide (a < 0)) != (decide (b < 0))) (a.natAbs * b.natAbs) = a * b := by
  unfold sv
  rcases Int.lt_or_le a 0 with ha | ha <;> rcases Int.lt_or_le b 0 with hb | hb
  · rw [Int.natCast_mul, show (a.natAbs : Int) = -a by omega, show (b.natAbs : Int) = -b by omega]
    simp [ha, hb, Int.neg_mul, Int.mul_neg]
  · rw [Int.natCast_mul, show (a.natAbs : Int) = -a by omega, show (b.natAbs : Int) = b by omega]
    simp [ha, show ¬ b < 0 by omega, Int.neg_mul]
  · rw [Int.natCast_mul, show (a.natAbs : Int) = a by omega, show (b.natAbs : Int) = -b by omega]
    simp [hb, show ¬ a < 0 by omega, Int.mul_neg]
  · rw [Int.natCast_mul, show (a.natAbs : Int) = a by omega, show (b.natAbs : Int) = b by omega]
    simp [show ¬ a < 0 by omega, show ¬ b < 0 by omega]
/-- a product of whole numbers -/
theorem mul_int (x y : Int) (w : World) (hx : InR x) (hy : InR y) (hr : InR (x * y)) :
    Calls Try.prog 58 #[.agg (dcl x).toArray, .agg (dcl y).toArray, .int .i64 0, .int .i64 0] w
      fun e w' => e = .returned (.tuple #[.agg (dcl (x * y)).toArray, .int .i64 0]) ∧ Below w.heap.size w w' := by
  have e : mv x 0 y 0 0 0 = x * y := by
    unfold mv
    rw [show ((0 : Nat) : Int) - ((0 : Nat) : Int) - ((0 : Nat) : Int) = 0 by omega, rquo_one', sv_mul']
  have h := mul_yes x y 0 0 0 0 w hx hy (by decide) (by decide) (by decide) (by decide) (by rw [e]; exact hr)
  rw [e] at h
  exact h
theorem in64 {n : Int} (h1 : -9223372036854775808 ≤ n) (h2 : n ≤ 9223372036854775807) : InR n := by
  constructor <;> (rw [M127_eq]; omega)
set_option maxRecDepth 100000 in
theorem whole_ok (n : Int) (w : World) (h1 : -9223372036854775808 ≤ n) (h2 : n ≤ 9223372036854775807) :
    Calls Try.prog 35 #[.int .i64 n] w fun e w' => e = .returned (.agg (dcl n).toArray) ∧ Below w.heap.size w w' := by
  have H1 := (show Hid _ from h1)
  have H2 := (show Hid _ from h2)
  clear h1 h2
  have V0 := (show Hid _ from va_new w zdl 56)
  have B0 := (show Hid _ from (Below.refl w.heap.size w).alloc (Nat.le_refl _) (.cells zdl.toArray 56))
  go_enter Try.func35, Try.ntmps35
  go_wp2_with fail
  refine (of_ok n 0 _ H1.out H2.out (by decide)).mono ?_
  rintro e w1 ⟨rfl, b1⟩
  have R1 := (show Hid _ from (V0.out.step b1).alloc (.cells zdl.toArray 56))
  have V1 := (show Hid _ from va_new w1 zdl 56)
  have B1 := (show Hid _ from (B0.out.trans (b1.mono B0.out.size)).alloc (Nat.le_trans B0.out.size b1.size) (.cells zdl.toArray 56))
  have s1 : w.heap.size < w1.heap.size := (V0.out.step b1).lt
  clear V0 B0 b1
  go_wp2_with (first | (refine stA rfl 56 _ _ rfl w1.heap.size (by rfl) zdl (dcl n) (by rfl) 56 V1.out infoD rfl (dcl_one n) ?_; intro w2 va up; have V2 := (show Hid _ from va); have R2 := (show Hid _ from R1.out.upd up (by omega)); have B2 := (show Hid _ from up.bel B1.out (by omega)); clear va up) | (refine ldA rfl 56 _ rfl w1.heap.size (by rfl) (dcl n) _ V2.out _ Try.underlying56 rfl infoD ?_) | (refine stA rfl 56 _ _ rfl w.heap.size (by rfl) zdl (dcl n) (by rfl) 56 R2.out infoD rfl (dcl_one n) ?_; intro w3 V3 U3))
  have hld := run_loadVar_row (P := Try.prog) w3 w.heap.size 56 56 _ (0, 0) _ V3.blk Try.underlying56 rfl infoD
  refine bodyPost_ret (v := .agg (dcl n).toArray) (by simp [results, Try.results35, asAddr, hld, Act.put]) rfl ⟨rfl, U3.bel B2.out (Nat.le_refl _)⟩
/-- a store of all of a struct into the new variable -/
theorem puts_row {ops : Array Oper} {w0 : World} {o : Oper} {b : Nat} {a : Act} (t : TypeId) (x y : Operand) (ho : o.op = .store t x y) (hd : o.dst = none) (hw : Region.wanted o (yielded ops a.tmps) = true) (hx : a.eval x = .pointer (some ⟨b, 0, none⟩)) (cs ds : List Value) (hy : a.eval y = .agg ds.toArray) (T : TypeId)
    (hi : (Try.prog.info? t).map (·.size) = some ds.length) (hl : cs.length = ds.length) (h1 : ∀ v ∈ ds, v.oneCell' = true) (hb : w0.heap.size ≤ b) : Puts Try.prog ops w0 (.cells cs.toArray T) (.cells ds.toArray T) o b a := by
  refine ⟨hw, hd, fun w2 hlt hO => ⟨w2.setRow b ds.toArray, ?_, (upd_setRow w2 b _).bel hlt hb, setRow_heap w2 b _ _ _ _ hO⟩⟩
  have hrun := run_storeVar_row (P := Try.prog) w2 b T t cs.toArray ds.toArray hO (by simpa using hi) (by simpa using hl) (Array.all_eq_true_iff_forall_mem.2 (fun v hv => h1 v (by simpa using hv)))
  unfold execOp
  simp only [ho, hx, hy, Instr.storeAt, Instr.sureAddr, Sem.run_bind, Sem.run_pure, Result.andThen_ok, hrun]
set_option maxRecDepth 100000 in
theorem times_ok (x n : Int) (w : World) (hx : InR x) (h1 : -9223372036854775808 ≤ n) (h2 : n ≤ 9223372036854775807) (hr : InR (x * n)) :
    Calls Try.prog 34 #[.agg (dcl x).toArray, .int .i64 n] w fun e w' => e = .returned (.agg (dcl (x * n)).toArray) ∧ Below w.heap.size w w' := by
  have H1 := (show Hid _ from h1)
  have H2 := (show Hid _ from h2)
  have HX : Hid (InR x) := hx
  have HR : Hid (InR (x * n)) := hr
  clear h1 h2 hx hr
  have V0 := (show Hid _ from (va_new w (dcl x) 56).alloc (.cells zdl.toArray 56))
  have R0 := (show Hid _ from va_new (w.alloc (.cells (dcl x).toArray 56)) zdl 56)
  rw [show (w.alloc (.cells (dcl x).toArray 56)).heap.size = w.heap.size + 1 by simp] at R0
  have B0 := (show Hid _ from ((Below.refl w.heap.size w).alloc (Nat.le_refl _) (.cells (dcl x).toArray 56)).alloc (by simp) (.cells zdl.toArray 56))
  go_enter Try.func34, Try.ntmps34
  go_upto_region 1 with fail
  have c0 := V0.out.cell 0 (v := .int .i64 (dhi x)) rfl
  have c1 := V0.out.cell 1 (v := .int .u64 (dlo x)) rfl
  have c2 := V0.out.cell 2 (v := .int .i64 0) rfl
  have l0 := V0.out.lt
  have s0 : (w.alloc (.cells (dcl x).toArray 56) |>.alloc (.cells zdl.toArray 56)).heap.size = w.heap.size + 1 + 1 := by simp
  have S0 := (show Hid _ from s0)
  clear V0 s0
  change Code.wp _ _ _ _ (w.alloc (.cells (dcl x).toArray 56) |>.alloc (.cells zdl.toArray 56))
  generalize (w.alloc (.cells (dcl x).toArray 56) |>.alloc (.cells zdl.toArray 56)) = W at *
  refine wp_region_def (done := #[true, true, true, true, true, true, true, false, false, false]) (all := #[true, true, true, true, true, true, true, true, true, true]) [0, 1, 2, 3, 4, 5, 6] [9] 7 8 _ _ (.cells zdl.toArray 56) (.cells (dcl (x * n)).toArray 56) (by kernel_rfl) (by kernel_rfl) (by kernel_rfl) (by kernel_rfl) rfl rfl (fun _ _ => ⟨rfl, rfl⟩) (by kernel_rfl) (by kernel_rfl) (by kernel_rfl) ?_
  iterate 2 (refine wpG_step (fun K hK => ?_); go_simp; refine hK _ ?_; clear hK K)
  refine wpG_step (fun K hK => ?_)
  go_simp
  apply Exists.intro
  refine ⟨fun xq => ?_, hK _ ?_⟩
  · exact whole_ok n _ H1.out H2.out
  clear hK K
  refine wpG_step (fun K hK => ?_)
  go_simp
  apply Exists.intro
  refine ⟨fun xq => ?_, hK _ ?_⟩
  · exact mul_int x n _ HX.out (in64 H1.out H2.out) HR.out
  clear hK K
  iterate 3 (refine wpG_step (fun K hK => ?_); go_simp; refine hK _ ?_; clear hK K)
  refine wpG_nil ?_
  intro b hb
  refine ⟨puts_row 56 _ _ rfl rfl rfl (by rfl) zdl (dcl (x * n)) (by rfl) 56 infoD rfl (dcl_one _) hb, ?_⟩
  refine wpG_step (fun K hK => ?_)
  go_simp
  refine hK _ ?_
  clear hK K
  refine wpG_nil ?_
  intro w3 hl hO
  have V3 : Hid (VA w3 b (dcl (x * n)) 56) := ⟨hO⟩
  have R3 := (show Hid _ from R0.out.step hl)
  have B3 := (show Hid _ from B0.out.trans (hl.mono B0.out.size))
  have hne : w.heap.size + 1 ≠ b := by have := S0.out; omega
  clear c0 c1 c2 l0 S0 R0 B0 hb hl hO
  go_wp2_with (first | (refine ldA rfl 56 _ rfl b (by rfl) (dcl (x * n)) _ V3.out _ Try.underlying56 rfl infoD ?_) | (refine stA rfl 56 _ _ rfl (w.heap.size + 1) (by rfl) zdl (dcl (x * n)) (by rfl) 56 R3.out infoD rfl (dcl_one _) ?_; intro w4 V4 U4))
  have hld := run_loadVar_row (P := Try.prog) w4 (w.heap.size + 1) 56 56 _ (0, 0) _ V4.blk Try.underlying56 rfl infoD
  refine bodyPost_ret (v := .agg (dcl (x * n)).toArray) (by simp [results, Try.results34, asAddr, hld, Act.put]) rfl ⟨rfl, U4.bel B3.out (by omega)⟩
end Go.Proofs.Ytmaikgebdegkgaa
