/- digits: read, where whole or fraction gives up. -/
import Derived.Test.YtgcmbiahakampaaJl
namespace Go.Proofs.Ytgcmbiahakampaa
open Go.RowKit
set_option linter.unusedVariables false
set_option linter.unusedSimpArgs false

set_option maxHeartbeats 1000000 in
theorem read_wfault (s : ByteArray) (neg : Bool) (i : Nat) (w : World) (tk : ∀ r w, RD w r s 0 0 false → Calls Try.prog 37 #[.pointer (some ⟨r, 0, none⟩), .int .u8 45] w fun e w' => e = .returned (.bool neg) ∧ RD w' r s i 0 false ∧ Below r w w') (wh : ∀ r w, RD w r s i 0 false → Calls Try.prog 38 #[.pointer (some ⟨r, 0, none⟩)] w fun e w' => e = .panicked [{ v := .iface 52 (.int .i64 (i : Int)), recovered := false }] ∧ Below r w w') :
    Calls Try.prog 20 #[.string s] w fun e w' => e = .panicked [{ v := .iface 52 (.int .i64 (i : Int)), recovered := false }] ∧ Below w.heap.size w w' := by
  have TK := (show Hid _ from tk)
  have WH := (show Hid _ from wh)
  clear tk wh
  have ez : (w.alloc (.cells #[.int .i64 0, .int .u64 0, .int .i64 0] 24)).heap.size = w.heap.size + 1 := by simp
  have V0 := va_new (w.alloc (.cells #[.int .i64 0, .int .u64 0, .int .i64 0] 24)) (rc s 0 0 0 false) 85
  rw [ez] at V0
  have B0 := ((Below.refl w.heap.size w).alloc (Nat.le_refl _) (.cells #[.int .i64 0, .int .u64 0, .int .i64 0] 24)).alloc (by simp) (.cells (rc s 0 0 0 false).toArray 85)
  have VZ := (va_new w [.int .i64 0, .int .u64 0, .int .i64 0] 24).alloc (.cells (rc s 0 0 0 false).toArray 85)
  go_enter Try.func20, Try.ntmps20
  go_upto_region 2 with fail
  change Code.wp _ _ _ _ ((w.alloc (.cells #[.int .i64 0, .int .u64 0, .int .i64 0] 24)).alloc (.cells (rc s 0 0 0 false).toArray 85))
  change VA ((w.alloc (.cells #[.int .i64 0, .int .u64 0, .int .i64 0] 24)).alloc (.cells (rc s 0 0 0 false).toArray 85)) w.heap.size _ _ at VZ
  obtain ⟨r, hr⟩ : ∃ r, r = w.heap.size + 1 := ⟨_, rfl⟩
  rw [← hr] at V0
  rw [← hr]
  have HRr : Hid (w.heap.size < r) := (by omega : w.heap.size < r)
  have HV0 : Hid (RD ((w.alloc (.cells #[.int .i64 0, .int .u64 0, .int .i64 0] 24)).alloc (.cells (rc s 0 0 0 false).toArray 85)) r s 0 0 false) := V0
  have HB0 := (show Hid _ from B0)
  have HZ0 := (show Hid _ from VZ)
  clear V0 B0 VZ ez hr
  generalize (w.alloc (.cells #[.int .i64 0, .int .u64 0, .int .i64 0] 24)).alloc (.cells (rc s 0 0 0 false).toArray 85) = w0 at *
  go_wp2_with fail
  refine (TK.out r _ HV0.out).mono ?_
  rintro e w1 ⟨rfl, v, bb⟩
  have HV1 : Hid (RD w1 r s i 0 false) := v
  have HB1 := (show Hid _ from HB0.out.trans (bb.mono (Nat.le_of_lt HRr.out)))
  have HZ1 : Hid (VA w1 w.heap.size [.int .i64 0, .int .u64 0, .int .i64 0] 24) := ⟨by rw [bb.block w.heap.size HRr.out]; exact HZ0.out.blk⟩
  clear v bb HV0 HB0 HZ0
  go_wp2_with fail
  refine (WH.out r _ HV1.out).mono ?_
  rintro e w2 ⟨rfl, bb⟩
  have HB2 := (show Hid _ from HB1.out.trans (bb.mono (Nat.le_of_lt HRr.out)))
  clear bb
  try go_wp2_with fail
  exact ⟨rfl, rfl, HB2.out⟩
set_option maxHeartbeats 1000000 in
theorem read_ffault (s : ByteArray) (neg : Bool) (i : Nat) (w : World) (j M1 : Nat) (b1 : Bool) (tk : ∀ r w, RD w r s 0 0 false → Calls Try.prog 37 #[.pointer (some ⟨r, 0, none⟩), .int .u8 45] w fun e w' => e = .returned (.bool neg) ∧ RD w' r s i 0 false ∧ Below r w w') (wh : ∀ r w, RD w r s i 0 false → Calls Try.prog 38 #[.pointer (some ⟨r, 0, none⟩)] w fun e w' => e = .returned (.tuple #[]) ∧ RD w' r s j M1 b1 ∧ Below r w w') (fr : ∀ r w, RD w r s j M1 b1 → Calls Try.prog 39 #[.pointer (some ⟨r, 0, none⟩)] w fun e w' => e = .panicked [{ v := .iface 52 (.int .i64 ((j + 1 : Nat) : Int)), recovered := false }] ∧ Below r w w') :
    Calls Try.prog 20 #[.string s] w fun e w' => e = .panicked [{ v := .iface 52 (.int .i64 ((j + 1 : Nat) : Int)), recovered := false }] ∧ Below w.heap.size w w' := by
  have TK := (show Hid _ from tk)
  have WH := (show Hid _ from wh)
  have FR := (show Hid _ from fr)
  clear tk wh fr
  have ez : (w.alloc (.cells #[.int .i64 0, .int .u64 0, .int .i64 0] 24)).heap.size = w.heap.size + 1 := by simp
  have V0 := va_new (w.alloc (.cells #[.int .i64 0, .int .u64 0, .int .i64 0] 24)) (rc s 0 0 0 false) 85
  rw [ez] at V0
  have B0 := ((Below.refl w.heap.size w).alloc (Nat.le_refl _) (.cells #[.int .i64 0, .int .u64 0, .int .i64 0] 24)).alloc (by simp) (.cells (rc s 0 0 0 false).toArray 85)
  have VZ := (va_new w [.int .i64 0, .int .u64 0, .int .i64 0] 24).alloc (.cells (rc s 0 0 0 false).toArray 85)
  go_enter Try.func20, Try.ntmps20
  go_upto_region 2 with fail
  change Code.wp _ _ _ _ ((w.alloc (.cells #[.int .i64 0, .int .u64 0, .int .i64 0] 24)).alloc (.cells (rc s 0 0 0 false).toArray 85))
  change VA ((w.alloc (.cells #[.int .i64 0, .int .u64 0, .int .i64 0] 24)).alloc (.cells (rc s 0 0 0 false).toArray 85)) w.heap.size _ _ at VZ
  obtain ⟨r, hr⟩ : ∃ r, r = w.heap.size + 1 := ⟨_, rfl⟩
  rw [← hr] at V0
  rw [← hr]
  have HRr : Hid (w.heap.size < r) := (by omega : w.heap.size < r)
  have HV0 : Hid (RD ((w.alloc (.cells #[.int .i64 0, .int .u64 0, .int .i64 0] 24)).alloc (.cells (rc s 0 0 0 false).toArray 85)) r s 0 0 false) := V0
  have HB0 := (show Hid _ from B0)
  have HZ0 := (show Hid _ from VZ)
  clear V0 B0 VZ ez hr
  generalize (w.alloc (.cells #[.int .i64 0, .int .u64 0, .int .i64 0] 24)).alloc (.cells (rc s 0 0 0 false).toArray 85) = w0 at *
  go_wp2_with fail
  refine (TK.out r _ HV0.out).mono ?_
  rintro e w1 ⟨rfl, v, bb⟩
  have HV1 : Hid (RD w1 r s i 0 false) := v
  have HB1 := (show Hid _ from HB0.out.trans (bb.mono (Nat.le_of_lt HRr.out)))
  have HZ1 : Hid (VA w1 w.heap.size [.int .i64 0, .int .u64 0, .int .i64 0] 24) := ⟨by rw [bb.block w.heap.size HRr.out]; exact HZ0.out.blk⟩
  clear v bb HV0 HB0 HZ0
  go_wp2_with fail
  refine (WH.out r _ HV1.out).mono ?_
  rintro e w2 ⟨rfl, v, bb⟩
  have HV2 : Hid (RD w2 r s j M1 b1) := v
  have HB2 := (show Hid _ from HB1.out.trans (bb.mono (Nat.le_of_lt HRr.out)))
  have HZ2 : Hid (VA w2 w.heap.size [.int .i64 0, .int .u64 0, .int .i64 0] 24) := ⟨by rw [bb.block w.heap.size HRr.out]; exact HZ1.out.blk⟩
  clear v bb HV1 HB1 HZ1
  go_wp2_with fail
  refine (FR.out r _ HV2.out).mono ?_
  rintro e w3 ⟨rfl, bb⟩
  have HB3 := (show Hid _ from HB2.out.trans (bb.mono (Nat.le_of_lt HRr.out)))
  clear bb
  try go_wp2_with fail
  exact ⟨rfl, rfl, HB3.out⟩
end Go.Proofs.Ytgcmbiahakampaa
