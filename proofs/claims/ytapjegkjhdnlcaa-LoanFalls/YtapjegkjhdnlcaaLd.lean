/- loan: what a payment pays, by the program and by the document; awake. -/
import Derived.Test.YtapjegkjhdnlcaaLc
import Derived.Test.YtapjegkjhdnlcaaIb
import Derived.Deep.DeepCutAuto
namespace Go.Proofs.Ytapjegkjhdnlcaa
open Go.RowKit
set_option linter.unusedVariables false

def pc (a b c d : Int) : List Value := [.int .i64 a, .int .i64 b, .int .i64 c, .int .i64 d]
theorem take_ok (a b c r due : Int) (g : Nat) (w : World) (h : VA w g (pc a b c r) 38) (hr : 0 ≤ r ∧ r ≤ 10000000000000) (hd : 0 ≤ due ∧ due ≤ 10000000000000) :
    Calls Try.prog 23 #[.pointer (some ⟨g, 0, none⟩), .int .i64 due] w fun e w' => e = .returned (.int .i64 (min due r)) ∧ VA w' g (pc a b c (r - min due r)) 38 ∧ Upd g w w' := by
  have c3 := h.cell 3 (v := .int .i64 r) rfl
  have f3 := h.free 3
  have hlt := h.lt
  have HV := (show Hid _ from h)
  clear h
  obtain ⟨r1, r2⟩ := hr
  obtain ⟨d1, d2⟩ := hd
  by_cases hm : r < due
  · have e : min due r = r := by omega
    rw [e]
    rw [show r - r = 0 by omega]
    clear e
    go_enter Try.func23, Try.ntmps23
    go_wp2_with fail
    go_ret
    exact ⟨rfl, HV.out.set 3 _, upd_set _ _ _ _⟩
  · have e : min due r = due := by omega
    rw [e]
    clear e
    go_enter Try.func23, Try.ntmps23
    go_wp2_with fail
    go_ret
    exact ⟨rfl, HV.out.set 3 _, upd_set _ _ _ _⟩
theorem infoP4 : (Try.prog.info? 38).map (·.size) = some 4 := by kernel_rfl
theorem infoR4 : (Try.prog.info? 41).map (·.size) = some 4 := by kernel_rfl
theorem pc_one (a b c d : Int) : ∀ v ∈ pc a b c d, v.oneCell' = true := by intro v hv; simp [pc] at hv; rcases hv with rfl | rfl | rfl | rfl <;> rfl
/-- what is paid of the fees, the interest, the principal -/
def pf (y f : Int) : Int := min f y
def pq (y f i : Int) : Int := min i (y - pf y f)
def pp (y f i p : Int) : Int := min p (y - pf y f - pq y f i)
def pr (y f i p : Int) : Int := y - pf y f - pq y f i - pp y f i p
def Mi (n : Int) : Prop := 0 ≤ n ∧ n ≤ 10000000000000
theorem Pays_ok (y f i p : Int) (w : World) (hy : Mi y) (hf : Mi f) (hi : Mi i) (hp : Mi p) :
    Calls Try.prog 16 #[.int .i64 y, .int .i64 f, .int .i64 i, .int .i64 p] w fun e w' => e = .returned (.tuple #[.agg (pc (pf y f) (pq y f i) (pp y f i p) (pr y f i p)).toArray, .int .i64 0]) ∧ Below w.heap.size w w' := by
  have ey : decide (0 ≤ y ∧ y ≤ 10000000000000) = true := decide_eq_true hy
  have ef : decide (0 ≤ f ∧ f ≤ 10000000000000) = true := decide_eq_true hf
  have ei : decide (0 ≤ i ∧ i ≤ 10000000000000) = true := decide_eq_true hi
  have ep : decide (0 ≤ p ∧ p ≤ 10000000000000) = true := decide_eq_true hp
  have HY : Hid (0 ≤ y ∧ y ≤ 10000000000000) := hy
  have HF : Hid (0 ≤ f ∧ f ≤ 10000000000000) := hf
  have HI : Hid (0 ≤ i ∧ i ≤ 10000000000000) := hi
  have HP : Hid (0 ≤ p ∧ p ≤ 10000000000000) := hp
  clear hy hf hi hp
  have V0 := (show Hid _ from va_new w (pc 0 0 0 0) 38)
  have B0 := (show Hid _ from (Below.refl w.heap.size w).alloc (Nat.le_refl _) (.cells (pc 0 0 0 0).toArray 38))
  go_enter Try.func16, Try.ntmps16
  go_wp2_with fail
  refine (isMinor_ok y _).mono ?_; rintro e w1 ⟨rfl, hw⟩; obtain rfl := hw.symm; rw [ey]
  go_wp2_with fail
  refine (isMinor_ok f _).mono ?_; rintro e w1 ⟨rfl, hw⟩; obtain rfl := hw.symm; rw [ef]
  go_wp2_with fail
  refine (isMinor_ok i _).mono ?_; rintro e w1 ⟨rfl, hw⟩; obtain rfl := hw.symm; rw [ei]
  go_wp2_with fail
  refine (isMinor_ok p _).mono ?_; rintro e w1 ⟨rfl, hw⟩; obtain rfl := hw.symm; rw [ep]
  clear ey ef ei ep
  have hsz : (w.alloc (.cells (pc 0 0 0 0).toArray 38)).heap.size = w.heap.size + 1 := by simp
  have V1 := (show Hid _ from va_new (w.alloc (.cells (pc 0 0 0 0).toArray 38)) (pc 0 0 0 0) 38)
  rw [hsz] at V1
  clear hsz
  go_wp2_with (refine stA rfl 38 _ _ rfl (w.heap.size + 1) (by rfl) (pc 0 0 0 0) (pc 0 0 0 y) (by rfl) 38 V1.out infoP4 rfl (pc_one _ _ _ _) ?_; intro w2 VA2 U2)
  have R2 := (show Hid _ from (V0.out.alloc (.cells (pc 0 0 0 0).toArray 38)).upd U2 (by omega))
  have B2 := (show Hid _ from U2.bel (B0.out.alloc B0.out.size (.cells (pc 0 0 0 0).toArray 38)) (by omega))
  have G2 := (show Hid _ from VA2)
  clear V0 B0 V1 VA2 U2
  have x1 : 0 ≤ pf y f ∧ pf y f ≤ y := by have := HY.out; have := HF.out; unfold pf; omega
  have x2 : 0 ≤ pq y f i ∧ pq y f i ≤ y - pf y f := by have := HI.out; unfold pq; omega
  have x3 : 0 ≤ pp y f i p ∧ pp y f i p ≤ y - pf y f - pq y f i := by have := HP.out; unfold pp; omega
  have e1 : Hid (min f y = pf y f) := rfl
  have e2 : Hid (min i (y - pf y f) = pq y f i) := rfl
  have e3 : Hid (min p (y - pf y f - pq y f i) = pp y f i p) := rfl
  have e4 : Hid (y - pf y f - pq y f i - pp y f i p = pr y f i p) := rfl
  generalize pf y f = F at *
  generalize pq y f i = I at *
  generalize pp y f i p = P at *
  generalize pr y f i p = R at *
  have X := (show Hid _ from And.intro x1 (And.intro x2 x3))
  clear x1 x2 x3
  refine (take_ok 0 0 0 y f _ _ G2.out HY.out HF.out).mono ?_
  rintro e w3 ⟨rfl, va, up⟩
  rw [e1.out] at va ⊢
  have R3 := (show Hid _ from R2.out.upd up (by omega))
  have B3 := (show Hid _ from up.bel B2.out (by omega))
  have G3 := (show Hid _ from va)
  have c3 := va.cell 0 (v := .int .i64 0) rfl
  have f3 := va.free 0
  have l3 := va.lt
  clear va up R2 B2 G2
  go_wp2_with fail
  have hset := G3.out.set 0 (.int .i64 F)
  have hup := upd_set w3 (w.heap.size + 1) 0 (.int .i64 F)
  have R4 := (show Hid _ from R3.out.upd hup (by omega))
  have B4 := (show Hid _ from hup.bel B3.out (by omega))
  have G4 : Hid (VA _ _ (pc F 0 0 (y - F)) _) := hset
  clear hset hup R3 B3 G3 c3 f3 l3
  generalize w3.setCell ⟨w.heap.size + 1, 0, none⟩ (.int .i64 F) = w4 at *
  refine (take_ok F 0 0 (y - F) i _ _ G4.out (by have := HY.out; have := X.out; omega) HI.out).mono ?_
  rintro e w5 ⟨rfl, va, up⟩
  rw [e2.out] at va ⊢
  have R5 := (show Hid _ from R4.out.upd up (by omega))
  have B5 := (show Hid _ from up.bel B4.out (by omega))
  have G5 := (show Hid _ from va)
  have c5 := va.cell 1 (v := .int .i64 0) rfl
  have f5 := va.free 1
  have l5 := va.lt
  clear va up R4 B4 G4
  go_wp2_with fail
  have hset := G5.out.set 1 (.int .i64 I)
  have hup := upd_set w5 (w.heap.size + 1) 1 (.int .i64 I)
  have R6 := (show Hid _ from R5.out.upd hup (by omega))
  have B6 := (show Hid _ from hup.bel B5.out (by omega))
  have G6 : Hid (VA _ _ (pc F I 0 (y - F - I)) _) := hset
  clear hset hup R5 B5 G5 c5 f5 l5
  generalize w5.setCell ⟨w.heap.size + 1, 1, none⟩ (.int .i64 I) = w6 at *
  refine (take_ok F I 0 (y - F - I) p _ _ G6.out (by have := HY.out; have := X.out; omega) HP.out).mono ?_
  rintro e w7 ⟨rfl, va, up⟩
  rw [e3.out] at va ⊢
  have R7 := (show Hid _ from R6.out.upd up (by omega))
  have B7 := (show Hid _ from up.bel B6.out (by omega))
  have G7 := (show Hid _ from va)
  have c7 := va.cell 2 (v := .int .i64 0) rfl
  have f7 := va.free 2
  have l7 := va.lt
  clear va up R6 B6 G6
  go_upto_region 7 with fail
  have hset := G7.out.set 2 (.int .i64 P)
  have hup := upd_set w7 (w.heap.size + 1) 2 (.int .i64 P)
  have R8 := (show Hid _ from R7.out.upd hup (by omega))
  have B8 := (show Hid _ from hup.bel B7.out (by omega))
  have G8 : Hid (VA _ _ (pc F I P (y - F - I - P)) _) := hset
  clear hset hup R7 B7 G7 c7 f7 l7
  generalize w7.setCell ⟨w.heap.size + 1, 2, none⟩ (.int .i64 P) = w8 at *
  go_wp2_with (first | (refine ldA rfl 38 _ rfl (w.heap.size + 1) (by rfl) (pc F I P (y - F - I - P)) _ G8.out _ Try.underlying38 rfl infoP4 ?_) | (refine stA rfl 38 _ _ rfl w.heap.size (by rfl) (pc 0 0 0 0) (pc F I P (y - F - I - P)) (by rfl) 38 R8.out infoP4 rfl (pc_one _ _ _ _) ?_; intro w9 V9 U9))
  have hld := run_loadVar_row (P := Try.prog) w9 w.heap.size 38 38 _ (0, 0) _ V9.blk Try.underlying38 rfl infoP4
  refine bodyPost_ret (v := .tuple #[.agg (pc F I P (y - F - I - P)).toArray, .int .i64 0]) (by simp [results, Try.results16, asAddr, hld]) rfl ⟨?_, U9.bel B8.out (Nat.le_refl _)⟩
  unfold pr pp pq pf
  rw [e1.out, e2.out, e3.out]
end Go.Proofs.Ytapjegkjhdnlcaa
