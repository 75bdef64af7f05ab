/- money: Parse, however it ends. -/
import Derived.Test.YteohncnjjgoemaaGreatDoorXd
namespace Go.Proofs.YteohncnjjgoemaaGreatDoor
open Go.RowKit Go.Lib
set_option linter.unusedVariables false
set_option linter.unusedSimpArgs false

theorem nl_ne {a b : ByteArray} (h : a.data.toList ≠ b.data.toList) : a.toList ≠ b.toList := by
  rw [toList_data, toList_data]
  exact h
theorem nmb_ne {i j : Nat} (hi : i < 4) (hj : j < 4) (h : i ≠ j) : (nmb i).toList ≠ (nmb j).toList := by
  match i, hi, j, hj with
  | 0, _, 0, _ => exact absurd rfl h
  | 0, _, 1, _ => exact nl_ne (by decide)
  | 0, _, 2, _ => exact nl_ne (by decide)
  | 0, _, 3, _ => exact nl_ne (by decide)
  | 1, _, 0, _ => exact nl_ne (by decide)
  | 1, _, 1, _ => exact absurd rfl h
  | 1, _, 2, _ => exact nl_ne (by decide)
  | 1, _, 3, _ => exact nl_ne (by decide)
  | 2, _, 0, _ => exact nl_ne (by decide)
  | 2, _, 1, _ => exact nl_ne (by decide)
  | 2, _, 2, _ => exact absurd rfl h
  | 2, _, 3, _ => exact nl_ne (by decide)
  | 3, _, 0, _ => exact nl_ne (by decide)
  | 3, _, 1, _ => exact nl_ne (by decide)
  | 3, _, 2, _ => exact nl_ne (by decide)
  | 3, _, 3, _ => exact absurd rfl h
theorem named_yes (i : Nat) (nm : ByteArray) (w : World) (T : Cu w) (N : Cm w) (hi : i < 4) (h : (nmb i).toList = nm.toList) :
    Calls Tryz.prog 19 #[.string nm] w fun e w' => e = .returned (.tuple #[.int .i64 (i : Int), .bool true]) ∧ Below w.heap.size w w' := by
  have hy : ((nmb i).toList == nm.toList) = true := by rw [beq_iff_eq]; exact h
  have hn : ∀ j, j < 4 → j ≠ i → ((nmb j).toList == nm.toList) = false := fun j hj hji => by rw [beq_eq_false_iff_ne, ← h]; exact nmb_ne hj hi hji
  match i, hi with
  | 0, _ => exact named_0 nm w T N hy
  | 1, _ => exact named_1 nm w T N hy (hn 0 (by decide) (by decide))
  | 2, _ => exact named_2 nm w T N hy (hn 0 (by decide) (by decide)) (hn 1 (by decide) (by decide))
  | 3, _ => exact named_3 nm w T N hy (hn 0 (by decide) (by decide)) (hn 1 (by decide) (by decide)) (hn 2 (by decide) (by decide))
/-- what stays while Parse goes on -/
structure MP (w wr : World) : Prop where
  r : VA wr w.heap.size (mcl 0 0) 23
  u : Cu wr
  n : Cm wr
  x : Mx wr
  b : Below w.heap.size w wr
theorem MP.step {w wr wx : World} (h : MP w wr) (k : Below wr.heap.size wr wx) : MP w wx := ⟨h.r.step k, h.u.step k, h.n.step k, h.x.step k, h.b.trans (k.mono h.b.size)⟩
theorem mp_new {w : World} (T : Cu w) (N : Cm w) (X : Mx w) : MP w (w.alloc (.cells (mcl 0 0).toArray 23)) :=
  ⟨va_new w (mcl 0 0) 23, T.alloc _, N.alloc _, X.alloc _, (Below.refl w.heap.size w).alloc (Nat.le_refl _) _⟩
set_option maxHeartbeats 2000000 in
set_option maxRecDepth 100000 in
theorem mp_long (s : ByteArray) (w : World) (T : Cu w) (N : Cm w) (X : Mx w) (hs : 64 < s.size) : Calls Tryz.prog 8 #[.string s] w fun e w' => e = .returned (.tuple #[.agg (mcl 0 0).toArray, .int .i64 2]) ∧ Below w.heap.size w w' := by
  have hs' : (64 : Int) < s.size := by omega
  have MP_0 := (show Hid _ from mp_new T N X)
  clear hs T N X
  go_enter Tryz.func8, Tryz.ntmps8
  go_wp2_with (refine stA rfl 23 _ _ rfl w.heap.size (by rfl) (mcl 0 0) (mcl 0 0) (by rfl) 23 MP_0.out.r infoM rfl (mcl_one _ _) ?_; intro wf vf uf)
  have hld := run_loadVar_row (P := Tryz.prog) wf w.heap.size 23 23 _ (0, 0) _ vf.blk Tryz.underlying23 rfl infoM
  exact bodyPost_ret (v := .tuple #[.agg (mcl 0 0).toArray, .int .i64 2]) (by simp [results, Tryz.results8, asAddr, hld]) rfl ⟨rfl, uf.bel MP_0.out.b (Nat.le_refl _)⟩
set_option maxHeartbeats 2000000 in
set_option maxRecDepth 100000 in
theorem mp_name (s : ByteArray) (w : World) (T : Cu w) (N : Cm w) (X : Mx w) (hs : s.size ≤ 64) (hn : ∀ i, i < 4 → ((nmb i).toList == (⟨(ct s).1.toArray⟩ : ByteArray).toList) = false) : Calls Tryz.prog 8 #[.string s] w fun e w' => e = .returned (.tuple #[.agg (mcl 0 0).toArray, .int .i64 6]) ∧ Below w.heap.size w w' := by
  have HNN := (show Hid _ from hn)
  clear hn
  have hs' : ¬ (64 : Int) < s.size := by omega
  have MP_0 := (show Hid _ from mp_new T N X)
  have HS : Hid (s.size ≤ 64) := hs
  clear hs T N X
  go_enter Tryz.func8, Tryz.ntmps8
  go_upto_region 3 with fail
  change Code.wp _ _ _ _ (w.alloc (.cells (mcl 0 0).toArray 23))
  generalize (w.alloc (.cells (mcl 0 0).toArray 23)) = w0 at *
  go_wp2_with fail
  refine (mcut s _ HS.out MP_0.out.x).mono ?_
  rintro e w1 ⟨rfl, b1⟩
  have MP_1 := (show Hid _ from MP_0.out.step b1)
  clear b1 MP_0
  go_wp2_with fail
  refine (named_no _ _ MP_1.out.u MP_1.out.n HNN.out).mono ?_
  rintro e w2 ⟨rfl, b2⟩
  have MP_2 := (show Hid _ from MP_1.out.step b2)
  clear b2 MP_1
  go_wp2_with (refine stA rfl 23 _ _ rfl w.heap.size (by rfl) (mcl 0 0) (mcl 0 0) (by rfl) 23 MP_2.out.r infoM rfl (mcl_one _ _) ?_; intro wf vf uf)
  have hld := run_loadVar_row (P := Tryz.prog) wf w.heap.size 23 23 _ (0, 0) _ vf.blk Tryz.underlying23 rfl infoM
  exact bodyPost_ret (v := .tuple #[.agg (mcl 0 0).toArray, .int .i64 6]) (by simp [results, Tryz.results8, asAddr, hld]) rfl ⟨rfl, uf.bel MP_2.out.b (Nat.le_refl _)⟩
set_option maxHeartbeats 2000000 in
set_option maxRecDepth 100000 in
theorem mp_text (s : ByteArray) (w : World) (T : Cu w) (N : Cm w) (X : Mx w) (hs : s.size ≤ 64) (i : Nat) (hi : i < 4) (hn : (nmb i).toList = (⟨(ct s).1.toArray⟩ : ByteArray).toList) (x0 x1 x2 at' e0 : Int) (hP : ∀ w, Calls Tryz.prog 20 #[.string ⟨(ct s).2.1.toArray⟩] w fun r w' => r = .returned (.tuple #[.agg #[.int .i64 x0, .int .u64 x1, .int .i64 x2], .int .i64 at', .int .i64 e0]) ∧ Below w.heap.size w w') (he : e0 ≠ 0) : Calls Tryz.prog 8 #[.string s] w fun e w' => e = .returned (.tuple #[.agg (mcl 0 0).toArray, .int .i64 6]) ∧ Below w.heap.size w w' := by
  have q0 : (e0 != 0) = true := by simp [he]
  clear he
  have HNM := (show Hid _ from hn)
  have HPS := (show Hid _ from hP)
  clear hn hP
  have hs' : ¬ (64 : Int) < s.size := by omega
  have MP_0 := (show Hid _ from mp_new T N X)
  have HS : Hid (s.size ≤ 64) := hs
  clear hs T N X
  go_enter Tryz.func8, Tryz.ntmps8
  go_upto_region 3 with fail
  change Code.wp _ _ _ _ (w.alloc (.cells (mcl 0 0).toArray 23))
  generalize (w.alloc (.cells (mcl 0 0).toArray 23)) = w0 at *
  go_wp2_with fail
  refine (mcut s _ HS.out MP_0.out.x).mono ?_
  rintro e w1 ⟨rfl, b1⟩
  have MP_1 := (show Hid _ from MP_0.out.step b1)
  clear b1 MP_0
  go_wp2_with fail
  refine (named_yes i _ _ MP_1.out.u MP_1.out.n hi HNM.out).mono ?_
  rintro e w2 ⟨rfl, b2⟩
  have MP_2 := (show Hid _ from MP_1.out.step b2)
  clear b2 MP_1
  go_wp2_with fail
  refine (HPS.out _).mono ?_
  rintro e w3 ⟨rfl, b3⟩
  have MP_3 := (show Hid _ from (MP_2.out.step b3).step ((Below.refl _ _).alloc (Nat.le_refl _) (.cells #[.int .i64 x0, .int .u64 x1, .int .i64 x2] 41)))
  have VX_3 := (show Hid _ from va_new w3 [.int .i64 x0, .int .u64 x1, .int .i64 x2] 41)
  have hq := (MP_2.out.step b3).r.lt
  have HQ : Hid (w.heap.size < w3.heap.size) := hq
  clear b3 MP_2 hq
  go_upto_region 8 with fail
  change Code.wp _ _ _ _ (w3.alloc (.cells #[.int .i64 x0, .int .u64 x1, .int .i64 x2] 41))
  change Hid (MP w (w3.alloc (.cells #[.int .i64 x0, .int .u64 x1, .int .i64 x2] 41))) at MP_3
  change Hid (VA (w3.alloc (.cells #[.int .i64 x0, .int .u64 x1, .int .i64 x2] 41)) _ _ _) at VX_3
  generalize w3.alloc (.cells #[.int .i64 x0, .int .u64 x1, .int .i64 x2] 41) = w4 at *
  generalize w3.heap.size = q at *
  go_quiet (fail)
  have MP_5 := (show Hid _ from MP_3.out.step (below_drewN (Below.refl _ _) nq))
  have VX_5 := (show Hid _ from VX_3.out.step (below_drewN (Below.refl _ _) nq))
  clear MP_3 VX_3
  generalize w4.drewN nq = w5 at *
  go_wp2_with (refine stA rfl 23 _ _ rfl w.heap.size (by rfl) (mcl 0 0) (mcl 0 0) (by rfl) 23 MP_5.out.r infoM rfl (mcl_one _ _) ?_; intro wf vf uf)
  have hld := run_loadVar_row (P := Tryz.prog) wf w.heap.size 23 23 _ (0, 0) _ vf.blk Tryz.underlying23 rfl infoM
  exact bodyPost_ret (v := .tuple #[.agg (mcl 0 0).toArray, .int .i64 6]) (by simp [results, Tryz.results8, asAddr, hld]) rfl ⟨rfl, uf.bel MP_5.out.b (Nat.le_refl _)⟩
set_option maxHeartbeats 2000000 in
set_option maxRecDepth 100000 in
theorem mp_scale (s : ByteArray) (w : World) (T : Cu w) (N : Cm w) (X : Mx w) (hs : s.size ≤ 64) (i : Nat) (hi : i < 4) (hn : (nmb i).toList = (⟨(ct s).1.toArray⟩ : ByteArray).toList) (x0 x1 x2 at' e0 : Int) (hP : ∀ w, Calls Tryz.prog 20 #[.string ⟨(ct s).2.1.toArray⟩] w fun r w' => r = .returned (.tuple #[.agg #[.int .i64 x0, .int .u64 x1, .int .i64 x2], .int .i64 at', .int .i64 e0]) ∧ Below w.heap.size w w') (he : e0 = 0) (hx : x2 ≠ cdg i) : Calls Tryz.prog 8 #[.string s] w fun e w' => e = .returned (.tuple #[.agg (mcl 0 0).toArray, .int .i64 6]) ∧ Below w.heap.size w w' := by
  subst he
  have q0 : (x2 != (cdg i : Int)) = true := by simp [hx]
  clear hx
  have HNM := (show Hid _ from hn)
  have HPS := (show Hid _ from hP)
  clear hn hP
  have hs' : ¬ (64 : Int) < s.size := by omega
  have MP_0 := (show Hid _ from mp_new T N X)
  have HS : Hid (s.size ≤ 64) := hs
  clear hs T N X
  go_enter Tryz.func8, Tryz.ntmps8
  go_upto_region 3 with fail
  change Code.wp _ _ _ _ (w.alloc (.cells (mcl 0 0).toArray 23))
  generalize (w.alloc (.cells (mcl 0 0).toArray 23)) = w0 at *
  go_wp2_with fail
  refine (mcut s _ HS.out MP_0.out.x).mono ?_
  rintro e w1 ⟨rfl, b1⟩
  have MP_1 := (show Hid _ from MP_0.out.step b1)
  clear b1 MP_0
  go_wp2_with fail
  refine (named_yes i _ _ MP_1.out.u MP_1.out.n hi HNM.out).mono ?_
  rintro e w2 ⟨rfl, b2⟩
  have MP_2 := (show Hid _ from MP_1.out.step b2)
  clear b2 MP_1
  go_wp2_with fail
  refine (HPS.out _).mono ?_
  rintro e w3 ⟨rfl, b3⟩
  have MP_3 := (show Hid _ from (MP_2.out.step b3).step ((Below.refl _ _).alloc (Nat.le_refl _) (.cells #[.int .i64 x0, .int .u64 x1, .int .i64 x2] 41)))
  have VX_3 := (show Hid _ from va_new w3 [.int .i64 x0, .int .u64 x1, .int .i64 x2] 41)
  have hq := (MP_2.out.step b3).r.lt
  have HQ : Hid (w.heap.size < w3.heap.size) := hq
  clear b3 MP_2 hq
  go_upto_region 8 with fail
  change Code.wp _ _ _ _ (w3.alloc (.cells #[.int .i64 x0, .int .u64 x1, .int .i64 x2] 41))
  change Hid (MP w (w3.alloc (.cells #[.int .i64 x0, .int .u64 x1, .int .i64 x2] 41))) at MP_3
  change Hid (VA (w3.alloc (.cells #[.int .i64 x0, .int .u64 x1, .int .i64 x2] 41)) _ _ _) at VX_3
  generalize w3.alloc (.cells #[.int .i64 x0, .int .u64 x1, .int .i64 x2] 41) = w4 at *
  generalize w3.heap.size = q at *
  have d2 := VX_3.out.cell 2 (v := .int .i64 x2) rfl
  have k1 := MP_3.out.u.row i hi
  have i4 : (i : Int) < 4 := by omega
  go_quiet (fail)
  have MP_5 := (show Hid _ from MP_3.out.step (below_drewN (Below.refl _ _) nq))
  have VX_5 := (show Hid _ from VX_3.out.step (below_drewN (Below.refl _ _) nq))
  clear MP_3 VX_3
  generalize w4.drewN nq = w5 at *
  go_wp2_with (refine stA rfl 23 _ _ rfl w.heap.size (by rfl) (mcl 0 0) (mcl 0 0) (by rfl) 23 MP_5.out.r infoM rfl (mcl_one _ _) ?_; intro wf vf uf)
  have hld := run_loadVar_row (P := Tryz.prog) wf w.heap.size 23 23 _ (0, 0) _ vf.blk Tryz.underlying23 rfl infoM
  exact bodyPost_ret (v := .tuple #[.agg (mcl 0 0).toArray, .int .i64 6]) (by simp [results, Tryz.results8, asAddr, hld]) rfl ⟨rfl, uf.bel MP_5.out.b (Nat.le_refl _)⟩
set_option maxHeartbeats 2000000 in
set_option maxRecDepth 100000 in
theorem mp_range (s : ByteArray) (w : World) (T : Cu w) (N : Cm w) (X : Mx w) (hs : s.size ≤ 64) (i : Nat) (hi : i < 4) (hn : (nmb i).toList = (⟨(ct s).1.toArray⟩ : ByteArray).toList) (x0 x1 x2 at' e0 : Int) (hP : ∀ w, Calls Tryz.prog 20 #[.string ⟨(ct s).2.1.toArray⟩] w fun r w' => r = .returned (.tuple #[.agg #[.int .i64 x0, .int .u64 x1, .int .i64 x2], .int .i64 at', .int .i64 e0]) ∧ Below w.heap.size w w') (he : e0 = 0) (hx : x2 = cdg i) (m0 m1 : Int) (e2 : Int) (he2 : e2 ≠ 0) (hO : ∀ w, Cu w → Calls Tryz.prog 21 #[.agg #[.int .i64 x0, .int .u64 x1, .int .i64 x2], .int .i64 (i : Int), .int .i64 0] w fun r w' => r = .returned (.tuple #[.agg (mcl m0 m1).toArray, .int .i64 e2]) ∧ Below w.heap.size w w') : Calls Tryz.prog 8 #[.string s] w fun e w' => e = .returned (.tuple #[.agg (mcl 0 0).toArray, .int .i64 6]) ∧ Below w.heap.size w w' := by
  subst he
  have q0 : (x2 != (cdg i : Int)) = false := by simp [hx]
  have HO := (show Hid _ from hO)
  have q2 : (e2 != 0) = true := by simp [he2]
  clear hx hO he2
  have HNM := (show Hid _ from hn)
  have HPS := (show Hid _ from hP)
  clear hn hP
  have hs' : ¬ (64 : Int) < s.size := by omega
  have MP_0 := (show Hid _ from mp_new T N X)
  have HS : Hid (s.size ≤ 64) := hs
  clear hs T N X
  go_enter Tryz.func8, Tryz.ntmps8
  go_upto_region 3 with fail
  change Code.wp _ _ _ _ (w.alloc (.cells (mcl 0 0).toArray 23))
  generalize (w.alloc (.cells (mcl 0 0).toArray 23)) = w0 at *
  go_wp2_with fail
  refine (mcut s _ HS.out MP_0.out.x).mono ?_
  rintro e w1 ⟨rfl, b1⟩
  have MP_1 := (show Hid _ from MP_0.out.step b1)
  clear b1 MP_0
  go_wp2_with fail
  refine (named_yes i _ _ MP_1.out.u MP_1.out.n hi HNM.out).mono ?_
  rintro e w2 ⟨rfl, b2⟩
  have MP_2 := (show Hid _ from MP_1.out.step b2)
  clear b2 MP_1
  go_wp2_with fail
  refine (HPS.out _).mono ?_
  rintro e w3 ⟨rfl, b3⟩
  have MP_3 := (show Hid _ from (MP_2.out.step b3).step ((Below.refl _ _).alloc (Nat.le_refl _) (.cells #[.int .i64 x0, .int .u64 x1, .int .i64 x2] 41)))
  have VX_3 := (show Hid _ from va_new w3 [.int .i64 x0, .int .u64 x1, .int .i64 x2] 41)
  have hq := (MP_2.out.step b3).r.lt
  have HQ : Hid (w.heap.size < w3.heap.size) := hq
  clear b3 MP_2 hq
  go_upto_region 8 with fail
  change Code.wp _ _ _ _ (w3.alloc (.cells #[.int .i64 x0, .int .u64 x1, .int .i64 x2] 41))
  change Hid (MP w (w3.alloc (.cells #[.int .i64 x0, .int .u64 x1, .int .i64 x2] 41))) at MP_3
  change Hid (VA (w3.alloc (.cells #[.int .i64 x0, .int .u64 x1, .int .i64 x2] 41)) _ _ _) at VX_3
  generalize w3.alloc (.cells #[.int .i64 x0, .int .u64 x1, .int .i64 x2] 41) = w4 at *
  generalize w3.heap.size = q at *
  have d2 := VX_3.out.cell 2 (v := .int .i64 x2) rfl
  have k1 := MP_3.out.u.row i hi
  have i4 : (i : Int) < 4 := by omega
  go_quiet (fail)
  clear d2 k1
  have MP_5 := (show Hid _ from MP_3.out.step (below_drewN (Below.refl _ _) nq))
  have VX_5 := (show Hid _ from VX_3.out.step (below_drewN (Below.refl _ _) nq))
  clear MP_3 VX_3
  generalize w4.drewN nq = w5 at *
  go_wp2_with (refine ldA rfl 41 _ rfl q (by rfl) [.int .i64 x0, .int .u64 x1, .int .i64 x2] _ VX_5.out _ Tryz.underlying41 rfl infoD ?_)
  refine (HO.out _ MP_5.out.u).mono ?_
  rintro e w6 ⟨rfl, b6⟩
  have MP_6 := (show Hid _ from (MP_5.out.step b6).step ((Below.refl _ _).alloc (Nat.le_refl _) (.cells (mcl m0 m1).toArray 23)))
  have VY_6 := (show Hid _ from va_new w6 (mcl m0 m1) 23)
  clear b6 MP_5 VX_5
  unfold mcl
  go_upto_region 11 with fail
  change Code.wp _ _ _ _ (w6.alloc (.cells (mcl m0 m1).toArray 23))
  change Hid (MP w (w6.alloc (.cells (mcl m0 m1).toArray 23))) at MP_6
  change Hid (VA (w6.alloc (.cells (mcl m0 m1).toArray 23)) _ _ _) at VY_6
  generalize w6.alloc (.cells (mcl m0 m1).toArray 23) = w7 at *
  generalize w6.heap.size = q7 at *
  go_wp2_with (refine stA rfl 23 _ _ rfl w.heap.size (by rfl) (mcl 0 0) (mcl 0 0) (by rfl) 23 MP_6.out.r infoM rfl (mcl_one _ _) ?_; intro wf vf uf)
  have hld := run_loadVar_row (P := Tryz.prog) wf w.heap.size 23 23 _ (0, 0) _ vf.blk Tryz.underlying23 rfl infoM
  exact bodyPost_ret (v := .tuple #[.agg (mcl 0 0).toArray, .int .i64 6]) (by simp [results, Tryz.results8, asAddr, hld]) rfl ⟨rfl, uf.bel MP_6.out.b (Nat.le_refl _)⟩
set_option maxHeartbeats 2000000 in
set_option maxRecDepth 100000 in
theorem mp_ok (s : ByteArray) (w : World) (T : Cu w) (N : Cm w) (X : Mx w) (hs : s.size ≤ 64) (i : Nat) (hi : i < 4) (hn : (nmb i).toList = (⟨(ct s).1.toArray⟩ : ByteArray).toList) (x0 x1 x2 at' e0 : Int) (hP : ∀ w, Calls Tryz.prog 20 #[.string ⟨(ct s).2.1.toArray⟩] w fun r w' => r = .returned (.tuple #[.agg #[.int .i64 x0, .int .u64 x1, .int .i64 x2], .int .i64 at', .int .i64 e0]) ∧ Below w.heap.size w w') (he : e0 = 0) (hx : x2 = cdg i) (m0 m1 : Int) (e2 : Int) (he2 : e2 = 0) (hO : ∀ w, Cu w → Calls Tryz.prog 21 #[.agg #[.int .i64 x0, .int .u64 x1, .int .i64 x2], .int .i64 (i : Int), .int .i64 0] w fun r w' => r = .returned (.tuple #[.agg (mcl m0 m1).toArray, .int .i64 e2]) ∧ Below w.heap.size w w') : Calls Tryz.prog 8 #[.string s] w fun e w' => e = .returned (.tuple #[.agg (mcl m0 m1).toArray, .int .i64 0]) ∧ Below w.heap.size w w' := by
  subst he
  have q0 : (x2 != (cdg i : Int)) = false := by simp [hx]
  have HO := (show Hid _ from hO)
  have q2 : (e2 != 0) = false := by simp [he2]
  clear hx hO he2
  have HNM := (show Hid _ from hn)
  have HPS := (show Hid _ from hP)
  clear hn hP
  have hs' : ¬ (64 : Int) < s.size := by omega
  have MP_0 := (show Hid _ from mp_new T N X)
  have HS : Hid (s.size ≤ 64) := hs
  clear hs T N X
  go_enter Tryz.func8, Tryz.ntmps8
  go_upto_region 3 with fail
  change Code.wp _ _ _ _ (w.alloc (.cells (mcl 0 0).toArray 23))
  generalize (w.alloc (.cells (mcl 0 0).toArray 23)) = w0 at *
  go_wp2_with fail
  refine (mcut s _ HS.out MP_0.out.x).mono ?_
  rintro e w1 ⟨rfl, b1⟩
  have MP_1 := (show Hid _ from MP_0.out.step b1)
  clear b1 MP_0
  go_wp2_with fail
  refine (named_yes i _ _ MP_1.out.u MP_1.out.n hi HNM.out).mono ?_
  rintro e w2 ⟨rfl, b2⟩
  have MP_2 := (show Hid _ from MP_1.out.step b2)
  clear b2 MP_1
  go_wp2_with fail
  refine (HPS.out _).mono ?_
  rintro e w3 ⟨rfl, b3⟩
  have MP_3 := (show Hid _ from (MP_2.out.step b3).step ((Below.refl _ _).alloc (Nat.le_refl _) (.cells #[.int .i64 x0, .int .u64 x1, .int .i64 x2] 41)))
  have VX_3 := (show Hid _ from va_new w3 [.int .i64 x0, .int .u64 x1, .int .i64 x2] 41)
  have hq := (MP_2.out.step b3).r.lt
  have HQ : Hid (w.heap.size < w3.heap.size) := hq
  clear b3 MP_2 hq
  go_upto_region 8 with fail
  change Code.wp _ _ _ _ (w3.alloc (.cells #[.int .i64 x0, .int .u64 x1, .int .i64 x2] 41))
  change Hid (MP w (w3.alloc (.cells #[.int .i64 x0, .int .u64 x1, .int .i64 x2] 41))) at MP_3
  change Hid (VA (w3.alloc (.cells #[.int .i64 x0, .int .u64 x1, .int .i64 x2] 41)) _ _ _) at VX_3
  generalize w3.alloc (.cells #[.int .i64 x0, .int .u64 x1, .int .i64 x2] 41) = w4 at *
  generalize w3.heap.size = q at *
  have d2 := VX_3.out.cell 2 (v := .int .i64 x2) rfl
  have k1 := MP_3.out.u.row i hi
  have i4 : (i : Int) < 4 := by omega
  go_quiet (fail)
  clear d2 k1
  have MP_5 := (show Hid _ from MP_3.out.step (below_drewN (Below.refl _ _) nq))
  have VX_5 := (show Hid _ from VX_3.out.step (below_drewN (Below.refl _ _) nq))
  clear MP_3 VX_3
  generalize w4.drewN nq = w5 at *
  go_wp2_with (refine ldA rfl 41 _ rfl q (by rfl) [.int .i64 x0, .int .u64 x1, .int .i64 x2] _ VX_5.out _ Tryz.underlying41 rfl infoD ?_)
  refine (HO.out _ MP_5.out.u).mono ?_
  rintro e w6 ⟨rfl, b6⟩
  have MP_6 := (show Hid _ from (MP_5.out.step b6).step ((Below.refl _ _).alloc (Nat.le_refl _) (.cells (mcl m0 m1).toArray 23)))
  have VY_6 := (show Hid _ from va_new w6 (mcl m0 m1) 23)
  clear b6 MP_5 VX_5
  unfold mcl
  go_upto_region 11 with fail
  change Code.wp _ _ _ _ (w6.alloc (.cells (mcl m0 m1).toArray 23))
  change Hid (MP w (w6.alloc (.cells (mcl m0 m1).toArray 23))) at MP_6
  change Hid (VA (w6.alloc (.cells (mcl m0 m1).toArray 23)) _ _ _) at VY_6
  generalize w6.alloc (.cells (mcl m0 m1).toArray 23) = w7 at *
  generalize w6.heap.size = q7 at *
  go_wp2_with (first | (refine ldA rfl 23 _ rfl q7 (by rfl) (mcl m0 m1) _ VY_6.out _ Tryz.underlying23 rfl infoM ?_) | (refine stA rfl 23 _ _ rfl w.heap.size (by rfl) (mcl 0 0) (mcl m0 m1) (by rfl) 23 MP_6.out.r infoM rfl (mcl_one _ _) ?_; intro wf vf uf))
  have hld := run_loadVar_row (P := Tryz.prog) wf w.heap.size 23 23 _ (0, 0) _ vf.blk Tryz.underlying23 rfl infoM
  exact bodyPost_ret (v := .tuple #[.agg (mcl m0 m1).toArray, .int .i64 0]) (by simp [results, Tryz.results8, asAddr, hld]) rfl ⟨rfl, uf.bel MP_6.out.b (Nat.le_refl _)⟩
end Go.Proofs.YteohncnjjgoemaaGreatDoor
