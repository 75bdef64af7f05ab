/- digits: Parse. -/
import Derived.Test.YtgcmbiahakampaaJo
namespace Go.Proofs.Ytgcmbiahakampaa
open Go.RowKit
set_option linter.unusedVariables false
set_option linter.unusedSimpArgs false

theorem infoE : (Try.prog.info? 26).map (·.size) = some 1 := by kernel_rfl
theorem hmf (fn : Fn) (first cap : Array Value) (w : World) : (Instr.makeFunc fn first cap).run Try.prog w = .ok (.func fn first cap) w := rfl
/-- the three named results' variables -/
def pwr (w : World) : World := ((w.alloc (.cells zdl.toArray 24)).alloc (.cells #[.int .i64 0] 3)).alloc (.cells #[.int .i64 0] 26)
structure PV (w w1 : World) : Prop where
  d : VA w1 w.heap.size zdl 24
  a : VA w1 (w.heap.size + 1) [.int .i64 0] 3
  e : VA w1 (w.heap.size + 2) [.int .i64 0] 26
  b : Below w.heap.size w w1
theorem pv_new (w : World) : PV w (pwr w) := by
  have h1 : (w.alloc (.cells zdl.toArray 24)).heap.size = w.heap.size + 1 := by simp
  have h2 : ((w.alloc (.cells zdl.toArray 24)).alloc (.cells #[.int .i64 0] 3)).heap.size = w.heap.size + 2 := by simp
  refine ⟨((va_new w zdl 24).alloc _).alloc _, ?_, ?_, ?_⟩
  · rw [← h1]; exact (va_new _ [.int .i64 0] 3).alloc _
  · rw [← h2]; exact va_new _ [.int .i64 0] 26
  · exact (((Below.refl w.heap.size w).alloc (Nat.le_refl _) _).alloc (by simp) _).alloc (by simp; omega) _
theorem PV.step {w w1 w2 : World} (h : PV w w1) (k : Below w1.heap.size w1 w2) : PV w w2 := ⟨h.d.step k, h.a.step k, h.e.step k, h.b.trans (k.mono h.b.size)⟩
set_option maxHeartbeats 1000000 in
theorem parse_fault (s : ByteArray) (i : Nat) (w : World) (hs : s.size ≤ 64)
    (hr : ∀ w, Calls Try.prog 20 #[.string s] w fun e w' => e = .panicked [{ v := .iface 52 (.int .i64 (i : Int)), recovered := false }] ∧ Below w.heap.size w w') :
    Calls Try.prog 11 #[.string s] w fun e w' => e = .returned (.tuple #[.agg zdl.toArray, .int .i64 (i : Int), .int .i64 6]) ∧ Below w.heap.size w w' := by
  have HR := (show Hid _ from hr)
  have hs' : ¬ ((64 : Int) < s.size) := by omega
  have mf := hmf
  clear hr hs
  go_enter_defers Try.func11, Try.ntmps11
  go_wp2_with fail
  refine (HR.out _).mono ?_
  rintro e w1 ⟨rfl, b1⟩
  have P1 : PV w w1 := (pv_new w).step b1
  clear b1
  go_wp2_with fail
  refine leaves_cons (f := 19) (args := #[.pointer (some ⟨w.heap.size, 0, none⟩), .pointer (some ⟨w.heap.size + 1, 0, none⟩), .pointer (some ⟨w.heap.size + 1 + 1, 0, none⟩)]) (by simp) (by simp [go_sem]) ?_
  refine (catch_fault w.heap.size (w.heap.size + 1) (w.heap.size + 1 + 1) i _ _ _ P1.d P1.a P1.e (by omega) (by omega)).mono ?_
  rintro e u' w2 ⟨rfl, rfl, vd, va, ve, bb⟩
  have d0 := vd.cell 0 (v := .int .i64 0) rfl
  have d1 := vd.cell 1 (v := .int .u64 0) rfl
  have d2 := vd.cell 2 (v := .int .i64 0) rfl
  have l1 := va.cell 0 (v := .int .i64 (i : Int)) rfl
  have l2 : World.cell? _ ⟨w.heap.size + 1 + 1, 0, none⟩ = some (.int .i64 6) := ve.cell 0 rfl
  have B2 := P1.b.trans bb
  simp [Leaves, settle, results, Try.results11, go_sem, asAddr, d0, d1, d2, l1, l2]
  first | exact ⟨_, rfl, rfl, B2⟩ | exact ⟨rfl, B2⟩ | exact B2
set_option maxHeartbeats 1000000 in
theorem parse_great (s : ByteArray) (w : World) (hs : s.size ≤ 64)
    (hr : ∀ w, Calls Try.prog 20 #[.string s] w fun e w' => e = .panicked [{ v := .iface 54 (.agg #[]), recovered := false }] ∧ Below w.heap.size w w') :
    Calls Try.prog 11 #[.string s] w fun e w' => e = .returned (.tuple #[.agg zdl.toArray, .int .i64 0, .int .i64 4]) ∧ Below w.heap.size w w' := by
  have HR := (show Hid _ from hr)
  have hs' : ¬ ((64 : Int) < s.size) := by omega
  have mf := hmf
  clear hr hs
  go_enter_defers Try.func11, Try.ntmps11
  go_wp2_with fail
  refine (HR.out _).mono ?_
  rintro e w1 ⟨rfl, b1⟩
  have P1 : PV w w1 := (pv_new w).step b1
  clear b1
  go_wp2_with fail
  refine leaves_cons (f := 19) (args := #[.pointer (some ⟨w.heap.size, 0, none⟩), .pointer (some ⟨w.heap.size + 1, 0, none⟩), .pointer (some ⟨w.heap.size + 1 + 1, 0, none⟩)]) (by simp) (by simp [go_sem]) ?_
  refine (catch_great w.heap.size (w.heap.size + 1) (w.heap.size + 1 + 1) _ _ _ P1.d P1.a P1.e (by omega) (by omega)).mono ?_
  rintro e u' w2 ⟨rfl, rfl, vd, va, ve, bb⟩
  have d0 := vd.cell 0 (v := .int .i64 0) rfl
  have d1 := vd.cell 1 (v := .int .u64 0) rfl
  have d2 := vd.cell 2 (v := .int .i64 0) rfl
  have l1 := va.cell 0 (v := .int .i64 0) rfl
  have l2 : World.cell? _ ⟨w.heap.size + 1 + 1, 0, none⟩ = some (.int .i64 4) := ve.cell 0 rfl
  have B2 := P1.b.trans bb
  simp [Leaves, settle, results, Try.results11, go_sem, asAddr, d0, d1, d2, l1, l2]
  first | exact ⟨_, rfl, rfl, B2⟩ | exact ⟨rfl, B2⟩ | exact B2
set_option maxHeartbeats 1000000 in
theorem parse_ok (s : ByteArray) (c : Int) (sc : Nat) (w : World) (hs : s.size ≤ 64)
    (hr : ∀ w, Calls Try.prog 20 #[.string s] w fun e w' => e = .returned (.agg (dcs c sc).toArray) ∧ Below w.heap.size w w') :
    Calls Try.prog 11 #[.string s] w fun e w' => e = .returned (.tuple #[.agg (dcs c sc).toArray, .int .i64 0, .int .i64 0]) ∧ Below w.heap.size w w' := by
  have HR := (show Hid _ from hr)
  have hs' : ¬ ((64 : Int) < s.size) := by omega
  have mf := hmf
  clear hr hs
  go_enter_defers Try.func11, Try.ntmps11
  go_wp2_with fail
  refine (HR.out _).mono ?_
  rintro e w1 ⟨rfl, b1⟩
  have P1 := (show Hid _ from (pv_new w).step b1)
  clear b1
  go_wp2_with (refine stA rfl 24 _ _ rfl w.heap.size (by rfl) zdl (dcs c sc) (by rfl) 24 P1.out.d infoD rfl (dcs_one _ _) ?_; intro w2 v2 u2; have HA := (show Hid _ from P1.out.a.upd u2 (by omega)); have HE := (show Hid _ from P1.out.e.upd u2 (by omega)); have c1 := HA.out.cell 0 (v := .int .i64 0) rfl; have f1 := HA.out.free 0; have c2 := (HE.out.set_other (q := w.heap.size + 1) (by omega) 0 (.int .i64 0)).cell 0 (v := .int .i64 0) rfl; have f2 := (HE.out.set_other (q := w.heap.size + 1) (by omega) 0 (.int .i64 0)).free 0; have HV2 := (show Hid _ from v2); have HU := (show Hid _ from u2); clear u2 v2)
  refine leaves_cons (f := 19) (args := #[.pointer (some ⟨w.heap.size, 0, none⟩), .pointer (some ⟨w.heap.size + 1, 0, none⟩), .pointer (some ⟨w.heap.size + 1 + 1, 0, none⟩)]) (by simp) (by simp [go_sem]) ?_
  refine (catch_idle _ _ _ _).mono ?_
  rintro e u' w3 ⟨rfl, rfl, hw⟩
  have vd := (HV2.out.set_other (q := w.heap.size + 1) (by omega) 0 (.int .i64 0)).set_other (q := w.heap.size + 2) (by omega) 0 (.int .i64 0)
  have va : VA _ (w.heap.size + 1) [.int .i64 0] 3 := (HA.out.set 0 (.int .i64 0)).set_other (q := w.heap.size + 2) (by omega) 0 (.int .i64 0)
  have ve : VA _ (w.heap.size + 2) [.int .i64 0] 26 := (HE.out.set_other (q := w.heap.size + 1) (by omega) 0 (.int .i64 0)).set 0 (.int .i64 0)
  have B2 := ((HU.out.bel P1.out.b (Nat.le_refl _)).setCell (p := ⟨w.heap.size + 1, 0, none⟩) (by show _ ≤ w.heap.size + 1; omega) (.int .i64 0)).setCell (p := ⟨w.heap.size + 2, 0, none⟩) (by show _ ≤ w.heap.size + 2; omega) (.int .i64 0)
  have hw' : w3 = (w2.setCell ⟨w.heap.size + 1, 0, none⟩ (.int .i64 0)).setCell ⟨w.heap.size + 2, 0, none⟩ (.int .i64 0) := hw
  rw [← hw'] at vd va ve B2
  have d0 := vd.cell 0 (v := .int .i64 (dhi c)) rfl
  have d1 := vd.cell 1 (v := .int .u64 (dlo c)) rfl
  have d2 := vd.cell 2 (v := .int .i64 (sc : Int)) rfl
  have l1 := va.cell 0 (v := .int .i64 0) rfl
  have l2 : World.cell? _ ⟨w.heap.size + 1 + 1, 0, none⟩ = some (.int .i64 0) := ve.cell 0 rfl
  clear hw hw'
  simp [Leaves, settle, results, Try.results11, go_sem, asAddr, d0, d1, d2, l1, l2]
  first | exact ⟨_, rfl, rfl, B2⟩ | exact ⟨rfl, B2⟩ | exact B2
set_option maxHeartbeats 1000000 in
theorem parse_long (s : ByteArray) (w : World) (hs : 64 < s.size) :
    Calls Try.prog 11 #[.string s] w fun e w' => e = .returned (.tuple #[.agg zdl.toArray, .int .i64 0, .int .i64 2]) ∧ Below w.heap.size w w' := by
  have hs' : ((64 : Int) < s.size) := by omega
  have mf := hmf
  clear hs
  have P1 := (show Hid _ from pv_new w)
  go_enter_defers Try.func11, Try.ntmps11
  go_upto_region 2 with fail
  change Code.wp _ _ _ _ (pwr w)
  generalize pwr w = w1 at *
  go_wp2_with (refine stA rfl 24 _ _ rfl w.heap.size (by rfl) zdl zdl (by rfl) 24 P1.out.d infoD rfl (by intro v hv; simp [zdl] at hv; rcases hv with rfl | rfl | rfl <;> rfl) ?_; intro w2 v2 u2; have HA := (show Hid _ from P1.out.a.upd u2 (by omega)); have HE := (show Hid _ from P1.out.e.upd u2 (by omega)); have c1 := HA.out.cell 0 (v := .int .i64 0) rfl; have f1 := HA.out.free 0; have c2 := (HE.out.set_other (q := w.heap.size + 1) (by omega) 0 (.int .i64 0)).cell 0 (v := .int .i64 0) rfl; have f2 := (HE.out.set_other (q := w.heap.size + 1) (by omega) 0 (.int .i64 0)).free 0; have HV2 := (show Hid _ from v2); have HU := (show Hid _ from u2); clear u2 v2)
  have vd := (HV2.out.set_other (q := w.heap.size + 1) (by omega) 0 (.int .i64 0)).set_other (q := w.heap.size + 1 + 1) (by omega) 0 (.int .i64 2)
  have va : VA _ (w.heap.size + 1) [.int .i64 0] 3 := (HA.out.set 0 (.int .i64 0)).set_other (q := w.heap.size + 1 + 1) (by omega) 0 (.int .i64 2)
  have ve : VA _ (w.heap.size + 1 + 1) [.int .i64 2] 26 := (HE.out.set_other (q := w.heap.size + 1) (by omega) 0 (.int .i64 0)).set 0 (.int .i64 2)
  have B2 := ((HU.out.bel P1.out.b (Nat.le_refl _)).setCell (p := ⟨w.heap.size + 1, 0, none⟩) (by show _ ≤ w.heap.size + 1; omega) (.int .i64 0)).setCell (p := ⟨w.heap.size + 1 + 1, 0, none⟩) (by show _ ≤ w.heap.size + 1 + 1; omega) (.int .i64 2)
  generalize (w2.setCell ⟨w.heap.size + 1, 0, none⟩ (.int .i64 0)).setCell ⟨w.heap.size + 1 + 1, 0, none⟩ (.int .i64 2) = w3 at *
  have d0 := vd.cell 0 (v := .int .i64 0) rfl
  have d1 := vd.cell 1 (v := .int .u64 0) rfl
  have d2 := vd.cell 2 (v := .int .i64 0) rfl
  have l1 := va.cell 0 (v := .int .i64 0) rfl
  have l2 : World.cell? _ ⟨w.heap.size + 1 + 1, 0, none⟩ = some (.int .i64 2) := ve.cell 0 rfl
  simp [bodyPostD, Leaves, settle, results, Try.results11, go_sem, asAddr, d0, d1, d2, l1, l2]
  first | exact ⟨_, rfl, rfl, B2⟩ | exact ⟨rfl, B2⟩ | exact B2
end Go.Proofs.Ytgcmbiahakampaa
