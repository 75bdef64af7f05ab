/- digits: read, where it gives up. -/
import Derived.Test.YtgcmbiahakampaaM6
namespace Go.Proofs.Ytgcmbiahakampaa
open Go.RowKit
set_option linter.unusedVariables false
set_option linter.unusedSimpArgs false

/-- a text's parts: a minus, the digits in front, the point and what follows: where the reader stands behind each, its size, whether it is beyond -/
structure Parts (s : ByteArray) (neg : Bool) (i j M1 f M sc : Nat) (b1 b : Bool) : Prop where
  tk : ∀ r w, RD w r s 0 0 false → Calls Try.prog 37 #[.pointer (some ⟨r, 0, none⟩), .int .u8 45] w fun e w' => e = .returned (.bool neg) ∧ RD w' r s i 0 false ∧ Below r w w'
  wh : ∀ r w, RD w r s i 0 false → Calls Try.prog 38 #[.pointer (some ⟨r, 0, none⟩)] w fun e w' => e = .returned (.tuple #[]) ∧ RD w' r s j M1 b1 ∧ Below r w w'
  fr : ∀ r w, RD w r s j M1 b1 → Calls Try.prog 39 #[.pointer (some ⟨r, 0, none⟩)] w fun e w' => e = .returned (.int .i64 (sc : Int)) ∧ RD w' r s f M b ∧ Below r w w'
set_option maxHeartbeats 1000000 in
theorem read_fault (s : ByteArray) (neg : Bool) (i j M1 f M sc : Nat) (b1 b : Bool) (w : World) (hP : Parts s neg i j M1 f M sc b1 b) (h : f < s.size) :
    Calls Try.prog 20 #[.string s] w fun e w' => e = .panicked [{ v := .iface 52 (.int .i64 (f : Int)), recovered := false }] ∧ Below w.heap.size w w' := by
  have P : Hid (Parts s neg i j M1 f M sc b1 b) := hP
  clear hP
  have hf : (f : Int) < s.size := by omega
  have ez : (w.alloc (.cells #[.int .i64 0, .int .u64 0, .int .i64 0] 24)).heap.size = w.heap.size + 1 := by simp
  have V0 := va_new (w.alloc (.cells #[.int .i64 0, .int .u64 0, .int .i64 0] 24)) (rc s 0 0 0 false) 85
  rw [ez] at V0
  have B0 := ((Below.refl w.heap.size w).alloc (Nat.le_refl _) (.cells #[.int .i64 0, .int .u64 0, .int .i64 0] 24)).alloc (by simp) (.cells (rc s 0 0 0 false).toArray 85)
  have VZ := (va_new w [.int .i64 0, .int .u64 0, .int .i64 0] 24).alloc (.cells (rc s 0 0 0 false).toArray 85)
  go_enter Try.func20, Try.ntmps20
  go_upto_region 2 with fail
  change Code.wp _ _ _ _ ((w.alloc (.cells #[.int .i64 0, .int .u64 0, .int .i64 0] 24)).alloc (.cells (rc s 0 0 0 false).toArray 85))
  change VA ((w.alloc (.cells #[.int .i64 0, .int .u64 0, .int .i64 0] 24)).alloc (.cells (rc s 0 0 0 false).toArray 85)) w.heap.size _ _ at VZ
  obtain ⟨r, hr⟩ : ∃ r, r = w.heap.size + 1 := ⟨_, rfl⟩
  rw [← hr] at V0
  rw [← hr]
  have HRr : Hid (w.heap.size < r) := (by omega : w.heap.size < r)
  have HV0 : Hid (RD ((w.alloc (.cells #[.int .i64 0, .int .u64 0, .int .i64 0] 24)).alloc (.cells (rc s 0 0 0 false).toArray 85)) r s 0 0 false) := V0
  have HB0 := (show Hid _ from B0)
  have HZ0 := (show Hid _ from VZ)
  clear V0 B0 VZ ez hr
  generalize (w.alloc (.cells #[.int .i64 0, .int .u64 0, .int .i64 0] 24)).alloc (.cells (rc s 0 0 0 false).toArray 85) = w0 at *
  go_wp2_with fail
  refine (P.out.tk r _ HV0.out).mono ?_
  rintro e w1 ⟨rfl, v, bb⟩
  have HV1 : Hid (RD w1 r s i 0 false) := v
  have HB1 := (show Hid _ from HB0.out.trans (bb.mono (Nat.le_of_lt HRr.out)))
  have HZ1 : Hid (VA w1 w.heap.size [.int .i64 0, .int .u64 0, .int .i64 0] 24) := ⟨by rw [bb.block w.heap.size HRr.out]; exact HZ0.out.blk⟩
  clear v bb HV0 HB0 HZ0
  go_wp2_with fail
  refine (P.out.wh r _ HV1.out).mono ?_
  rintro e w2 ⟨rfl, v, bb⟩
  have HV2 : Hid (RD w2 r s j M1 b1) := v
  have HB2 := (show Hid _ from HB1.out.trans (bb.mono (Nat.le_of_lt HRr.out)))
  have HZ2 : Hid (VA w2 w.heap.size [.int .i64 0, .int .u64 0, .int .i64 0] 24) := ⟨by rw [bb.block w.heap.size HRr.out]; exact HZ1.out.blk⟩
  clear v bb HV1 HB1 HZ1
  go_wp2_with fail
  refine (P.out.fr r _ HV2.out).mono ?_
  rintro e w3 ⟨rfl, v, bb⟩
  have HV3 : Hid (RD w3 r s f M b) := v
  have HB3 := (show Hid _ from HB2.out.trans (bb.mono (Nat.le_of_lt HRr.out)))
  have HZ3 : Hid (VA w3 w.heap.size [.int .i64 0, .int .u64 0, .int .i64 0] 24) := ⟨by rw [bb.block w.heap.size HRr.out]; exact HZ2.out.blk⟩
  clear v bb HV2 HB2 HZ2
  have a1 := VA.cell HV3.out 1 (v := .int .i64 (f : Int)) rfl
  go_wp2_with fail
  exact ⟨rfl, rfl, HB3.out⟩
set_option maxHeartbeats 1000000 in
theorem read_nought (s : ByteArray) (neg : Bool) (i j M1 f M sc : Nat) (b1 b : Bool) (w : World) (hP : Parts s neg i j M1 f M sc b1 b) (h : f = s.size) (hn : neg = true) (hM : M = 0) :
    Calls Try.prog 20 #[.string s] w fun e w' => e = .panicked [{ v := .iface 52 (.int .i64 0), recovered := false }] ∧ Below w.heap.size w w' := by
  subst hn
  subst hM
  have P : Hid (Parts s true i j M1 f 0 sc b1 b) := hP
  clear hP
  have hf : ¬ (f : Int) < s.size := by omega
  have E1 : ∀ w, (Op.equalIn 10000 48 (.agg #[.int .u64 0, .int .u64 0]) (.agg #[.int .u64 0, .int .u64 0])).run Try.prog w = .ok true w := fun w => by rw [eq_size]; rfl
  have ez : (w.alloc (.cells #[.int .i64 0, .int .u64 0, .int .i64 0] 24)).heap.size = w.heap.size + 1 := by simp
  have V0 := va_new (w.alloc (.cells #[.int .i64 0, .int .u64 0, .int .i64 0] 24)) (rc s 0 0 0 false) 85
  rw [ez] at V0
  have B0 := ((Below.refl w.heap.size w).alloc (Nat.le_refl _) (.cells #[.int .i64 0, .int .u64 0, .int .i64 0] 24)).alloc (by simp) (.cells (rc s 0 0 0 false).toArray 85)
  have VZ := (va_new w [.int .i64 0, .int .u64 0, .int .i64 0] 24).alloc (.cells (rc s 0 0 0 false).toArray 85)
  go_enter Try.func20, Try.ntmps20
  go_upto_region 2 with fail
  change Code.wp _ _ _ _ ((w.alloc (.cells #[.int .i64 0, .int .u64 0, .int .i64 0] 24)).alloc (.cells (rc s 0 0 0 false).toArray 85))
  change VA ((w.alloc (.cells #[.int .i64 0, .int .u64 0, .int .i64 0] 24)).alloc (.cells (rc s 0 0 0 false).toArray 85)) w.heap.size _ _ at VZ
  obtain ⟨r, hr⟩ : ∃ r, r = w.heap.size + 1 := ⟨_, rfl⟩
  rw [← hr] at V0
  rw [← hr]
  have HRr : Hid (w.heap.size < r) := (by omega : w.heap.size < r)
  have HV0 : Hid (RD ((w.alloc (.cells #[.int .i64 0, .int .u64 0, .int .i64 0] 24)).alloc (.cells (rc s 0 0 0 false).toArray 85)) r s 0 0 false) := V0
  have HB0 := (show Hid _ from B0)
  have HZ0 := (show Hid _ from VZ)
  clear V0 B0 VZ ez hr
  generalize (w.alloc (.cells #[.int .i64 0, .int .u64 0, .int .i64 0] 24)).alloc (.cells (rc s 0 0 0 false).toArray 85) = w0 at *
  go_wp2_with fail
  refine (P.out.tk r _ HV0.out).mono ?_
  rintro e w1 ⟨rfl, v, bb⟩
  have HV1 : Hid (RD w1 r s i 0 false) := v
  have HB1 := (show Hid _ from HB0.out.trans (bb.mono (Nat.le_of_lt HRr.out)))
  have HZ1 : Hid (VA w1 w.heap.size [.int .i64 0, .int .u64 0, .int .i64 0] 24) := ⟨by rw [bb.block w.heap.size HRr.out]; exact HZ0.out.blk⟩
  clear v bb HV0 HB0 HZ0
  go_wp2_with fail
  refine (P.out.wh r _ HV1.out).mono ?_
  rintro e w2 ⟨rfl, v, bb⟩
  have HV2 : Hid (RD w2 r s j M1 b1) := v
  have HB2 := (show Hid _ from HB1.out.trans (bb.mono (Nat.le_of_lt HRr.out)))
  have HZ2 : Hid (VA w2 w.heap.size [.int .i64 0, .int .u64 0, .int .i64 0] 24) := ⟨by rw [bb.block w.heap.size HRr.out]; exact HZ1.out.blk⟩
  clear v bb HV1 HB1 HZ1
  go_wp2_with fail
  refine (P.out.fr r _ HV2.out).mono ?_
  rintro e w3 ⟨rfl, v, bb⟩
  have HV3 : Hid (RD w3 r s f 0 b) := v
  have HB3 := (show Hid _ from HB2.out.trans (bb.mono (Nat.le_of_lt HRr.out)))
  have HZ3 : Hid (VA w3 w.heap.size [.int .i64 0, .int .u64 0, .int .i64 0] 24) := ⟨by rw [bb.block w.heap.size HRr.out]; exact HZ2.out.blk⟩
  clear v bb HV2 HB2 HZ2
  have a1 := VA.cell HV3.out 1 (v := .int .i64 (f : Int)) rfl
  have s0 := VA.cell HV3.out 2 (v := .int .u64 0) rfl
  have s1 := VA.cell HV3.out 3 (v := .int .u64 0) rfl
  go_wp2_with fail
  exact ⟨rfl, rfl, HB3.out⟩
set_option maxHeartbeats 1000000 in
theorem read_great_pos (s : ByteArray) (neg : Bool) (i j M1 f M sc : Nat) (b1 b : Bool) (w : World) (hP : Parts s neg i j M1 f M sc b1 b) (h : f = s.size) (hn : neg = false) (hb : b = true) :
    Calls Try.prog 20 #[.string s] w fun e w' => e = .panicked [{ v := .iface 54 (.agg #[]), recovered := false }] ∧ Below w.heap.size w w' := by
  subst hn
  subst hb
  have P : Hid (Parts s false i j M1 f M sc b1 true) := hP
  clear hP
  have hf : ¬ (f : Int) < s.size := by omega
  obtain ⟨m0, hm0⟩ : ∃ x, x = M % 18446744073709551616 := ⟨_, rfl⟩
  obtain ⟨m1, hm1⟩ : ∃ x, x = M / 18446744073709551616 := ⟨_, rfl⟩
  have HM : Hid (m0 = M % 18446744073709551616 ∧ m1 = M / 18446744073709551616) := ⟨hm0, hm1⟩
  clear hm0 hm1
  have ez : (w.alloc (.cells #[.int .i64 0, .int .u64 0, .int .i64 0] 24)).heap.size = w.heap.size + 1 := by simp
  have V0 := va_new (w.alloc (.cells #[.int .i64 0, .int .u64 0, .int .i64 0] 24)) (rc s 0 0 0 false) 85
  rw [ez] at V0
  have B0 := ((Below.refl w.heap.size w).alloc (Nat.le_refl _) (.cells #[.int .i64 0, .int .u64 0, .int .i64 0] 24)).alloc (by simp) (.cells (rc s 0 0 0 false).toArray 85)
  have VZ := (va_new w [.int .i64 0, .int .u64 0, .int .i64 0] 24).alloc (.cells (rc s 0 0 0 false).toArray 85)
  go_enter Try.func20, Try.ntmps20
  go_upto_region 2 with fail
  change Code.wp _ _ _ _ ((w.alloc (.cells #[.int .i64 0, .int .u64 0, .int .i64 0] 24)).alloc (.cells (rc s 0 0 0 false).toArray 85))
  change VA ((w.alloc (.cells #[.int .i64 0, .int .u64 0, .int .i64 0] 24)).alloc (.cells (rc s 0 0 0 false).toArray 85)) w.heap.size _ _ at VZ
  obtain ⟨r, hr⟩ : ∃ r, r = w.heap.size + 1 := ⟨_, rfl⟩
  rw [← hr] at V0
  rw [← hr]
  have HRr : Hid (w.heap.size < r) := (by omega : w.heap.size < r)
  have HV0 : Hid (RD ((w.alloc (.cells #[.int .i64 0, .int .u64 0, .int .i64 0] 24)).alloc (.cells (rc s 0 0 0 false).toArray 85)) r s 0 0 false) := V0
  have HB0 := (show Hid _ from B0)
  have HZ0 := (show Hid _ from VZ)
  clear V0 B0 VZ ez hr
  generalize (w.alloc (.cells #[.int .i64 0, .int .u64 0, .int .i64 0] 24)).alloc (.cells (rc s 0 0 0 false).toArray 85) = w0 at *
  go_wp2_with fail
  refine (P.out.tk r _ HV0.out).mono ?_
  rintro e w1 ⟨rfl, v, bb⟩
  have HV1 : Hid (RD w1 r s i 0 false) := v
  have HB1 := (show Hid _ from HB0.out.trans (bb.mono (Nat.le_of_lt HRr.out)))
  have HZ1 : Hid (VA w1 w.heap.size [.int .i64 0, .int .u64 0, .int .i64 0] 24) := ⟨by rw [bb.block w.heap.size HRr.out]; exact HZ0.out.blk⟩
  clear v bb HV0 HB0 HZ0
  go_wp2_with fail
  refine (P.out.wh r _ HV1.out).mono ?_
  rintro e w2 ⟨rfl, v, bb⟩
  have HV2 : Hid (RD w2 r s j M1 b1) := v
  have HB2 := (show Hid _ from HB1.out.trans (bb.mono (Nat.le_of_lt HRr.out)))
  have HZ2 : Hid (VA w2 w.heap.size [.int .i64 0, .int .u64 0, .int .i64 0] 24) := ⟨by rw [bb.block w.heap.size HRr.out]; exact HZ1.out.blk⟩
  clear v bb HV1 HB1 HZ1
  go_wp2_with fail
  refine (P.out.fr r _ HV2.out).mono ?_
  rintro e w3 ⟨rfl, v, bb⟩
  have HV3 : Hid (RD w3 r s f M true) := v
  have HB3 := (show Hid _ from HB2.out.trans (bb.mono (Nat.le_of_lt HRr.out)))
  have HZ3 : Hid (VA w3 w.heap.size [.int .i64 0, .int .u64 0, .int .i64 0] 24) := ⟨by rw [bb.block w.heap.size HRr.out]; exact HZ2.out.blk⟩
  clear v bb HV2 HB2 HZ2
  have a1 := VA.cell HV3.out 1 (v := .int .i64 (f : Int)) rfl
  have s4 := VA.cell HV3.out 4 (v := .bool true) rfl
  have V4 := VA.cell HV3.out 2 (v := .int .u64 ((M % 18446744073709551616 : Nat) : Int)) rfl
  have V5 := VA.cell HV3.out 3 (v := .int .u64 ((M / 18446744073709551616 : Nat) : Int)) rfl
  rw [← HM.out.1] at V4
  rw [← HM.out.2] at V5
  go_wp2_with fail
  exact ⟨rfl, rfl, HB3.out⟩
set_option maxHeartbeats 1000000 in
theorem read_great_neg (s : ByteArray) (neg : Bool) (i j M1 f M sc : Nat) (b1 b : Bool) (w : World) (hP : Parts s neg i j M1 f M sc b1 b) (h : f = s.size) (hn : neg = true) (hb : b = true) (hM : M ≠ 0) :
    Calls Try.prog 20 #[.string s] w fun e w' => e = .panicked [{ v := .iface 54 (.agg #[]), recovered := false }] ∧ Below w.heap.size w w' := by
  subst hn
  subst hb
  have P : Hid (Parts s true i j M1 f M sc b1 true) := hP
  clear hP
  have hf : ¬ (f : Int) < s.size := by omega
  obtain ⟨m0, hm0⟩ : ∃ x, x = M % 18446744073709551616 := ⟨_, rfl⟩
  obtain ⟨m1, hm1⟩ : ∃ x, x = M / 18446744073709551616 := ⟨_, rfl⟩
  have HM : Hid (m0 = M % 18446744073709551616 ∧ m1 = M / 18446744073709551616) := ⟨hm0, hm1⟩
  have E1 : ∀ w, (Op.equalIn 10000 48 (.agg #[.int .u64 (m0 : Int), .int .u64 (m1 : Int)]) (.agg #[.int .u64 0, .int .u64 0])).run Try.prog w = .ok false w := fun w => by
    rw [eq_size]
    congr 1
    simp
    omega
  clear hm0 hm1
  have ez : (w.alloc (.cells #[.int .i64 0, .int .u64 0, .int .i64 0] 24)).heap.size = w.heap.size + 1 := by simp
  have V0 := va_new (w.alloc (.cells #[.int .i64 0, .int .u64 0, .int .i64 0] 24)) (rc s 0 0 0 false) 85
  rw [ez] at V0
  have B0 := ((Below.refl w.heap.size w).alloc (Nat.le_refl _) (.cells #[.int .i64 0, .int .u64 0, .int .i64 0] 24)).alloc (by simp) (.cells (rc s 0 0 0 false).toArray 85)
  have VZ := (va_new w [.int .i64 0, .int .u64 0, .int .i64 0] 24).alloc (.cells (rc s 0 0 0 false).toArray 85)
  go_enter Try.func20, Try.ntmps20
  go_upto_region 2 with fail
  change Code.wp _ _ _ _ ((w.alloc (.cells #[.int .i64 0, .int .u64 0, .int .i64 0] 24)).alloc (.cells (rc s 0 0 0 false).toArray 85))
  change VA ((w.alloc (.cells #[.int .i64 0, .int .u64 0, .int .i64 0] 24)).alloc (.cells (rc s 0 0 0 false).toArray 85)) w.heap.size _ _ at VZ
  obtain ⟨r, hr⟩ : ∃ r, r = w.heap.size + 1 := ⟨_, rfl⟩
  rw [← hr] at V0
  rw [← hr]
  have HRr : Hid (w.heap.size < r) := (by omega : w.heap.size < r)
  have HV0 : Hid (RD ((w.alloc (.cells #[.int .i64 0, .int .u64 0, .int .i64 0] 24)).alloc (.cells (rc s 0 0 0 false).toArray 85)) r s 0 0 false) := V0
  have HB0 := (show Hid _ from B0)
  have HZ0 := (show Hid _ from VZ)
  clear V0 B0 VZ ez hr
  generalize (w.alloc (.cells #[.int .i64 0, .int .u64 0, .int .i64 0] 24)).alloc (.cells (rc s 0 0 0 false).toArray 85) = w0 at *
  go_wp2_with fail
  refine (P.out.tk r _ HV0.out).mono ?_
  rintro e w1 ⟨rfl, v, bb⟩
  have HV1 : Hid (RD w1 r s i 0 false) := v
  have HB1 := (show Hid _ from HB0.out.trans (bb.mono (Nat.le_of_lt HRr.out)))
  have HZ1 : Hid (VA w1 w.heap.size [.int .i64 0, .int .u64 0, .int .i64 0] 24) := ⟨by rw [bb.block w.heap.size HRr.out]; exact HZ0.out.blk⟩
  clear v bb HV0 HB0 HZ0
  go_wp2_with fail
  refine (P.out.wh r _ HV1.out).mono ?_
  rintro e w2 ⟨rfl, v, bb⟩
  have HV2 : Hid (RD w2 r s j M1 b1) := v
  have HB2 := (show Hid _ from HB1.out.trans (bb.mono (Nat.le_of_lt HRr.out)))
  have HZ2 : Hid (VA w2 w.heap.size [.int .i64 0, .int .u64 0, .int .i64 0] 24) := ⟨by rw [bb.block w.heap.size HRr.out]; exact HZ1.out.blk⟩
  clear v bb HV1 HB1 HZ1
  go_wp2_with fail
  refine (P.out.fr r _ HV2.out).mono ?_
  rintro e w3 ⟨rfl, v, bb⟩
  have HV3 : Hid (RD w3 r s f M true) := v
  have HB3 := (show Hid _ from HB2.out.trans (bb.mono (Nat.le_of_lt HRr.out)))
  have HZ3 : Hid (VA w3 w.heap.size [.int .i64 0, .int .u64 0, .int .i64 0] 24) := ⟨by rw [bb.block w.heap.size HRr.out]; exact HZ2.out.blk⟩
  clear v bb HV2 HB2 HZ2
  have a1 := VA.cell HV3.out 1 (v := .int .i64 (f : Int)) rfl
  have s4 := VA.cell HV3.out 4 (v := .bool true) rfl
  have V4 := VA.cell HV3.out 2 (v := .int .u64 ((M % 18446744073709551616 : Nat) : Int)) rfl
  have V5 := VA.cell HV3.out 3 (v := .int .u64 ((M / 18446744073709551616 : Nat) : Int)) rfl
  rw [← HM.out.1] at V4
  rw [← HM.out.2] at V5
  go_wp2_with fail
  exact ⟨rfl, rfl, HB3.out⟩
end Go.Proofs.Ytgcmbiahakampaa
