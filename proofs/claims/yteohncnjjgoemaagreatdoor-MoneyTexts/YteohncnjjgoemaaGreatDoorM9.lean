/- digits: read, where it gives up. -/
import Derived.Test.YteohncnjjgoemaaGreatDoorM8
import Derived.Defers
import Derived.Recover
namespace Go.Proofs.YteohncnjjgoemaaGreatDoor.dg
open Go.RowKit
set_option linter.unusedVariables false
set_option linter.unusedSimpArgs false

/-- a text's parts: a minus, the digits in front, the point and what follows: where the reader stands behind each, its size, whether it is beyond -/
structure Parts (s : ByteArray) (neg : Bool) (i j M1 f M sc : Nat) (b1 b : Bool) : Prop where
  tk : ∀ r w, RD w r s 0 0 false → Calls Tryz.prog 73 #[.pointer (some ⟨r, 0, none⟩), .int .u8 45] w fun e w' => e = .returned (.bool neg) ∧ RD w' r s i 0 false ∧ Below r w w'
  wh : ∀ r w, RD w r s i 0 false → Calls Tryz.prog 74 #[.pointer (some ⟨r, 0, none⟩)] w fun e w' => e = .returned (.tuple #[]) ∧ RD w' r s j M1 b1 ∧ Below r w w'
  fr : ∀ r w, RD w r s j M1 b1 → Calls Tryz.prog 75 #[.pointer (some ⟨r, 0, none⟩)] w fun e w' => e = .returned (.int .i64 (sc : Int)) ∧ RD w' r s f M b ∧ Below r w w'
set_option maxHeartbeats 1000000 in
theorem read_fault (s : ByteArray) (neg : Bool) (i j M1 f M sc : Nat) (b1 b : Bool) (w : World) (hP : Parts s neg i j M1 f M sc b1 b) (h : f < s.size) :
    Calls Tryz.prog 42 #[.string s] w fun e w' => e = .panicked [{ v := .iface 94 (.int .i64 (f : Int)), recovered := false }] ∧ Below w.heap.size w w' := by
  have P : Hid (Parts s neg i j M1 f M sc b1 b) := hP
  clear hP
  have hf : (f : Int) < s.size := by omega
  have ez : (w.alloc (.cells #[.int .i64 0, .int .u64 0, .int .i64 0] 41)).heap.size = w.heap.size + 1 := by simp
  have V0 := va_new (w.alloc (.cells #[.int .i64 0, .int .u64 0, .int .i64 0] 41)) (rc s 0 0 0 false) 131
  rw [ez] at V0
  have B0 := ((Below.refl w.heap.size w).alloc (Nat.le_refl _) (.cells #[.int .i64 0, .int .u64 0, .int .i64 0] 41)).alloc (by simp) (.cells (rc s 0 0 0 false).toArray 131)
  have VZ := (va_new w [.int .i64 0, .int .u64 0, .int .i64 0] 41).alloc (.cells (rc s 0 0 0 false).toArray 131)
  go_enter Tryz.func42, Tryz.ntmps42
  go_upto_region 2 with fail
  change Code.wp _ _ _ _ ((w.alloc (.cells #[.int .i64 0, .int .u64 0, .int .i64 0] 41)).alloc (.cells (rc s 0 0 0 false).toArray 131))
  change VA ((w.alloc (.cells #[.int .i64 0, .int .u64 0, .int .i64 0] 41)).alloc (.cells (rc s 0 0 0 false).toArray 131)) w.heap.size _ _ at VZ
  obtain ⟨r, hr⟩ : ∃ r, r = w.heap.size + 1 := ⟨_, rfl⟩
  rw [← hr] at V0
  rw [← hr]
  have HRr : Hid (w.heap.size < r) := (by omega : w.heap.size < r)
  have HV0 : Hid (RD ((w.alloc (.cells #[.int .i64 0, .int .u64 0, .int .i64 0] 41)).alloc (.cells (rc s 0 0 0 false).toArray 131)) r s 0 0 false) := V0
  have HB0 := (show Hid _ from B0)
  have HZ0 := (show Hid _ from VZ)
  clear V0 B0 VZ ez hr
  generalize (w.alloc (.cells #[.int .i64 0, .int .u64 0, .int .i64 0] 41)).alloc (.cells (rc s 0 0 0 false).toArray 131) = w0 at *
  go_wp2_with fail
  refine (P.out.tk r _ HV0.out).mono ?_
  rintro e w1 ⟨rfl, v, bb⟩
  have HV1 : Hid (RD w1 r s i 0 false) := v
  have HB1 := (show Hid _ from HB0.out.trans (bb.mono (Nat.le_of_lt HRr.out)))
  have HZ1 : Hid (VA w1 w.heap.size [.int .i64 0, .int .u64 0, .int .i64 0] 41) := ⟨by rw [bb.block w.heap.size HRr.out]; exact HZ0.out.blk⟩
  clear v bb HV0 HB0 HZ0
  go_wp2_with fail
  refine (P.out.wh r _ HV1.out).mono ?_
  rintro e w2 ⟨rfl, v, bb⟩
  have HV2 : Hid (RD w2 r s j M1 b1) := v
  have HB2 := (show Hid _ from HB1.out.trans (bb.mono (Nat.le_of_lt HRr.out)))
  have HZ2 : Hid (VA w2 w.heap.size [.int .i64 0, .int .u64 0, .int .i64 0] 41) := ⟨by rw [bb.block w.heap.size HRr.out]; exact HZ1.out.blk⟩
  clear v bb HV1 HB1 HZ1
  go_wp2_with fail
  refine (P.out.fr r _ HV2.out).mono ?_
  rintro e w3 ⟨rfl, v, bb⟩
  have HV3 : Hid (RD w3 r s f M b) := v
  have HB3 := (show Hid _ from HB2.out.trans (bb.mono (Nat.le_of_lt HRr.out)))
  have HZ3 : Hid (VA w3 w.heap.size [.int .i64 0, .int .u64 0, .int .i64 0] 41) := ⟨by rw [bb.block w.heap.size HRr.out]; exact HZ2.out.blk⟩
  clear v bb HV2 HB2 HZ2
  have a1 := VA.cell HV3.out 1 (v := .int .i64 (f : Int)) rfl
  go_wp2_with fail
  exact ⟨rfl, rfl, HB3.out⟩
set_option maxHeartbeats 1000000 in
theorem read_nought (s : ByteArray) (neg : Bool) (i j M1 f M sc : Nat) (b1 b : Bool) (w : World) (hP : Parts s neg i j M1 f M sc b1 b) (h : f = s.size) (hn : neg = true) (hM : M = 0) :
    Calls Tryz.prog 42 #[.string s] w fun e w' => e = .panicked [{ v := .iface 94 (.int .i64 0), recovered := false }] ∧ Below w.heap.size w w' := by
  subst hn
  subst hM
  have P : Hid (Parts s true i j M1 f 0 sc b1 b) := hP
  clear hP
  have hf : ¬ (f : Int) < s.size := by omega
  have E1 : ∀ w, (Op.equalIn 10000 77 (.agg #[.int .u64 0, .int .u64 0]) (.agg #[.int .u64 0, .int .u64 0])).run Tryz.prog w = .ok true w := fun w => by rw [eq_size]; rfl
  have ez : (w.alloc (.cells #[.int .i64 0, .int .u64 0, .int .i64 0] 41)).heap.size = w.heap.size + 1 := by simp
  have V0 := va_new (w.alloc (.cells #[.int .i64 0, .int .u64 0, .int .i64 0] 41)) (rc s 0 0 0 false) 131
  rw [ez] at V0
  have B0 := ((Below.refl w.heap.size w).alloc (Nat.le_refl _) (.cells #[.int .i64 0, .int .u64 0, .int .i64 0] 41)).alloc (by simp) (.cells (rc s 0 0 0 false).toArray 131)
  have VZ := (va_new w [.int .i64 0, .int .u64 0, .int .i64 0] 41).alloc (.cells (rc s 0 0 0 false).toArray 131)
  go_enter Tryz.func42, Tryz.ntmps42
  go_upto_region 2 with fail
  change Code.wp _ _ _ _ ((w.alloc (.cells #[.int .i64 0, .int .u64 0, .int .i64 0] 41)).alloc (.cells (rc s 0 0 0 false).toArray 131))
  change VA ((w.alloc (.cells #[.int .i64 0, .int .u64 0, .int .i64 0] 41)).alloc (.cells (rc s 0 0 0 false).toArray 131)) w.heap.size _ _ at VZ
  obtain ⟨r, hr⟩ : ∃ r, r = w.heap.size + 1 := ⟨_, rfl⟩
  rw [← hr] at V0
  rw [← hr]
  have HRr : Hid (w.heap.size < r) := (by omega : w.heap.size < r)
  have HV0 : Hid (RD ((w.alloc (.cells #[.int .i64 0, .int .u64 0, .int .i64 0] 41)).alloc (.cells (rc s 0 0 0 false).toArray 131)) r s 0 0 false) := V0
  have HB0 := (show Hid _ from B0)
  have HZ0 := (show Hid _ from VZ)
  clear V0 B0 VZ ez hr
  generalize (w.alloc (.cells #[.int .i64 0, .int .u64 0, .int .i64 0] 41)).alloc (.cells (rc s 0 0 0 false).toArray 131) = w0 at *
  go_wp2_with fail
  refine (P.out.tk r _ HV0.out).mono ?_
  rintro e w1 ⟨rfl, v, bb⟩
  have HV1 : Hid (RD w1 r s i 0 false) := v
  have HB1 := (show Hid _ from HB0.out.trans (bb.mono (Nat.le_of_lt HRr.out)))
  have HZ1 : Hid (VA w1 w.heap.size [.int .i64 0, .int .u64 0, .int .i64 0] 41) := ⟨by rw [bb.block w.heap.size HRr.out]; exact HZ0.out.blk⟩
  clear v bb HV0 HB0 HZ0
  go_wp2_with fail
  refine (P.out.wh r _ HV1.out).mono ?_
  rintro e w2 ⟨rfl, v, bb⟩
  have HV2 : Hid (RD w2 r s j M1 b1) := v
  have HB2 := (show Hid _ from HB1.out.trans (bb.mono (Nat.le_of_lt HRr.out)))
  have HZ2 : Hid (VA w2 w.heap.size [.int .i64 0, .int .u64 0, .int .i64 0] 41) := ⟨by rw [bb.block w.heap.size HRr.out]; exact HZ1.out.blk⟩
  clear v bb HV1 HB1 HZ1
  go_wp2_with fail
  refine (P.out.fr r _ HV2.out).mono ?_
  rintro e w3 ⟨rfl, v, bb⟩
  have HV3 : Hid (RD w3 r s f 0 b) := v
  have HB3 := (show Hid _ from HB2.out.trans (bb.mono (Nat.le_of_lt HRr.out)))
  have HZ3 : Hid (VA w3 w.heap.size [.int .i64 0, .int .u64 0, .int .i64 0] 41) := ⟨by rw [bb.block w.heap.size HRr.out]; exact HZ2.out.blk⟩
  clear v bb HV2 HB2 HZ2
  have a1 := VA.cell HV3.out 1 (v := .int .i64 (f : Int)) rfl
  have s0 := VA.cell HV3.out 2 (v := .int .u64 0) rfl
  have s1 := VA.cell HV3.out 3 (v := .int .u64 0) rfl
  go_wp2_with fail
  exact ⟨rfl, rfl, HB3.out⟩
set_option maxHeartbeats 1000000 in
theorem read_great_pos (s : ByteArray) (neg : Bool) (i j M1 f M sc : Nat) (b1 b : Bool) (w : World) (hP : Parts s neg i j M1 f M sc b1 b) (h : f = s.size) (hn : neg = false) (hb : b = true) :
    Calls Tryz.prog 42 #[.string s] w fun e w' => e = .panicked [{ v := .iface 96 (.agg #[]), recovered := false }] ∧ Below w.heap.size w w' := by
  subst hn
  subst hb
  have P : Hid (Parts s false i j M1 f M sc b1 true) := hP
  clear hP
  have hf : ¬ (f : Int) < s.size := by omega
  obtain ⟨m0, hm0⟩ : ∃ x, x = M % 18446744073709551616 := ⟨_, rfl⟩
  obtain ⟨m1, hm1⟩ : ∃ x, x = M / 18446744073709551616 := ⟨_, rfl⟩
  have HM : Hid (m0 = M % 18446744073709551616 ∧ m1 = M / 18446744073709551616) := ⟨hm0, hm1⟩
  clear hm0 hm1
  have ez : (w.alloc (.cells #[.int .i64 0, .int .u64 0, .int .i64 0] 41)).heap.size = w.heap.size + 1 := by simp
  have V0 := va_new (w.alloc (.cells #[.int .i64 0, .int .u64 0, .int .i64 0] 41)) (rc s 0 0 0 false) 131
  rw [ez] at V0
  have B0 := ((Below.refl w.heap.size w).alloc (Nat.le_refl _) (.cells #[.int .i64 0, .int .u64 0, .int .i64 0] 41)).alloc (by simp) (.cells (rc s 0 0 0 false).toArray 131)
  have VZ := (va_new w [.int .i64 0, .int .u64 0, .int .i64 0] 41).alloc (.cells (rc s 0 0 0 false).toArray 131)
  go_enter Tryz.func42, Tryz.ntmps42
  go_upto_region 2 with fail
  change Code.wp _ _ _ _ ((w.alloc (.cells #[.int .i64 0, .int .u64 0, .int .i64 0] 41)).alloc (.cells (rc s 0 0 0 false).toArray 131))
  change VA ((w.alloc (.cells #[.int .i64 0, .int .u64 0, .int .i64 0] 41)).alloc (.cells (rc s 0 0 0 false).toArray 131)) w.heap.size _ _ at VZ
  obtain ⟨r, hr⟩ : ∃ r, r = w.heap.size + 1 := ⟨_, rfl⟩
  rw [← hr] at V0
  rw [← hr]
  have HRr : Hid (w.heap.size < r) := (by omega : w.heap.size < r)
  have HV0 : Hid (RD ((w.alloc (.cells #[.int .i64 0, .int .u64 0, .int .i64 0] 41)).alloc (.cells (rc s 0 0 0 false).toArray 131)) r s 0 0 false) := V0
  have HB0 := (show Hid _ from B0)
  have HZ0 := (show Hid _ from VZ)
  clear V0 B0 VZ ez hr
  generalize (w.alloc (.cells #[.int .i64 0, .int .u64 0, .int .i64 0] 41)).alloc (.cells (rc s 0 0 0 false).toArray 131) = w0 at *
  go_wp2_with fail
  refine (P.out.tk r _ HV0.out).mono ?_
  rintro e w1 ⟨rfl, v, bb⟩
  have HV1 : Hid (RD w1 r s i 0 false) := v
  have HB1 := (show Hid _ from HB0.out.trans (bb.mono (Nat.le_of_lt HRr.out)))
  have HZ1 : Hid (VA w1 w.heap.size [.int .i64 0, .int .u64 0, .int .i64 0] 41) := ⟨by rw [bb.block w.heap.size HRr.out]; exact HZ0.out.blk⟩
  clear v bb HV0 HB0 HZ0
  go_wp2_with fail
  refine (P.out.wh r _ HV1.out).mono ?_
  rintro e w2 ⟨rfl, v, bb⟩
  have HV2 : Hid (RD w2 r s j M1 b1) := v
  have HB2 := (show Hid _ from HB1.out.trans (bb.mono (Nat.le_of_lt HRr.out)))
  have HZ2 : Hid (VA w2 w.heap.size [.int .i64 0, .int .u64 0, .int .i64 0] 41) := ⟨by rw [bb.block w.heap.size HRr.out]; exact HZ1.out.blk⟩
  clear v bb HV1 HB1 HZ1
  go_wp2_with fail
  refine (P.out.fr r _ HV2.out).mono ?_
  rintro e w3 ⟨rfl, v, bb⟩
  have HV3 : Hid (RD w3 r s f M true) := v
  have HB3 := (show Hid _ from HB2.out.trans (bb.mono (Nat.le_of_lt HRr.out)))
  have HZ3 : Hid (VA w3 w.heap.size [.int .i64 0, .int .u64 0, .int .i64 0] 41) := ⟨by rw [bb.block w.heap.size HRr.out]; exact HZ2.out.blk⟩
  clear v bb HV2 HB2 HZ2
  have a1 := VA.cell HV3.out 1 (v := .int .i64 (f : Int)) rfl
  have s4 := VA.cell HV3.out 4 (v := .bool true) rfl
  have V4 := VA.cell HV3.out 2 (v := .int .u64 ((M % 18446744073709551616 : Nat) : Int)) rfl
  have V5 := VA.cell HV3.out 3 (v := .int .u64 ((M / 18446744073709551616 : Nat) : Int)) rfl
  rw [← HM.out.1] at V4
  rw [← HM.out.2] at V5
  go_wp2_with fail
  exact ⟨rfl, rfl, HB3.out⟩
set_option maxHeartbeats 1000000 in
theorem read_great_neg (s : ByteArray) (neg : Bool) (i j M1 f M sc : Nat) (b1 b : Bool) (w : World) (hP : Parts s neg i j M1 f M sc b1 b) (h : f = s.size) (hn : neg = true) (hb : b = true) (hM : M ≠ 0) :
    Calls Tryz.prog 42 #[.string s] w fun e w' => e = .panicked [{ v := .iface 96 (.agg #[]), recovered := false }] ∧ Below w.heap.size w w' := by
  subst hn
  subst hb
  have P : Hid (Parts s true i j M1 f M sc b1 true) := hP
  clear hP
  have hf : ¬ (f : Int) < s.size := by omega
  obtain ⟨m0, hm0⟩ : ∃ x, x = M % 18446744073709551616 := ⟨_, rfl⟩
  obtain ⟨m1, hm1⟩ : ∃ x, x = M / 18446744073709551616 := ⟨_, rfl⟩
  have HM : Hid (m0 = M % 18446744073709551616 ∧ m1 = M / 18446744073709551616) := ⟨hm0, hm1⟩
  have E1 : ∀ w, (Op.equalIn 10000 77 (.agg #[.int .u64 (m0 : Int), .int .u64 (m1 : Int)]) (.agg #[.int .u64 0, .int .u64 0])).run Tryz.prog w = .ok false w := fun w => by
    rw [eq_size]
    congr 1
    simp
    omega
  clear hm0 hm1
  have ez : (w.alloc (.cells #[.int .i64 0, .int .u64 0, .int .i64 0] 41)).heap.size = w.heap.size + 1 := by simp
  have V0 := va_new (w.alloc (.cells #[.int .i64 0, .int .u64 0, .int .i64 0] 41)) (rc s 0 0 0 false) 131
  rw [ez] at V0
  have B0 := ((Below.refl w.heap.size w).alloc (Nat.le_refl _) (.cells #[.int .i64 0, .int .u64 0, .int .i64 0] 41)).alloc (by simp) (.cells (rc s 0 0 0 false).toArray 131)
  have VZ := (va_new w [.int .i64 0, .int .u64 0, .int .i64 0] 41).alloc (.cells (rc s 0 0 0 false).toArray 131)
  go_enter Tryz.func42, Tryz.ntmps42
  go_upto_region 2 with fail
  change Code.wp _ _ _ _ ((w.alloc (.cells #[.int .i64 0, .int .u64 0, .int .i64 0] 41)).alloc (.cells (rc s 0 0 0 false).toArray 131))
  change VA ((w.alloc (.cells #[.int .i64 0, .int .u64 0, .int .i64 0] 41)).alloc (.cells (rc s 0 0 0 false).toArray 131)) w.heap.size _ _ at VZ
  obtain ⟨r, hr⟩ : ∃ r, r = w.heap.size + 1 := ⟨_, rfl⟩
  rw [← hr] at V0
  rw [← hr]
  have HRr : Hid (w.heap.size < r) := (by omega : w.heap.size < r)
  have HV0 : Hid (RD ((w.alloc (.cells #[.int .i64 0, .int .u64 0, .int .i64 0] 41)).alloc (.cells (rc s 0 0 0 false).toArray 131)) r s 0 0 false) := V0
  have HB0 := (show Hid _ from B0)
  have HZ0 := (show Hid _ from VZ)
  clear V0 B0 VZ ez hr
  generalize (w.alloc (.cells #[.int .i64 0, .int .u64 0, .int .i64 0] 41)).alloc (.cells (rc s 0 0 0 false).toArray 131) = w0 at *
  go_wp2_with fail
  refine (P.out.tk r _ HV0.out).mono ?_
  rintro e w1 ⟨rfl, v, bb⟩
  have HV1 : Hid (RD w1 r s i 0 false) := v
  have HB1 := (show Hid _ from HB0.out.trans (bb.mono (Nat.le_of_lt HRr.out)))
  have HZ1 : Hid (VA w1 w.heap.size [.int .i64 0, .int .u64 0, .int .i64 0] 41) := ⟨by rw [bb.block w.heap.size HRr.out]; exact HZ0.out.blk⟩
  clear v bb HV0 HB0 HZ0
  go_wp2_with fail
  refine (P.out.wh r _ HV1.out).mono ?_
  rintro e w2 ⟨rfl, v, bb⟩
  have HV2 : Hid (RD w2 r s j M1 b1) := v
  have HB2 := (show Hid _ from HB1.out.trans (bb.mono (Nat.le_of_lt HRr.out)))
  have HZ2 : Hid (VA w2 w.heap.size [.int .i64 0, .int .u64 0, .int .i64 0] 41) := ⟨by rw [bb.block w.heap.size HRr.out]; exact HZ1.out.blk⟩
  clear v bb HV1 HB1 HZ1
  go_wp2_with fail
  refine (P.out.fr r _ HV2.out).mono ?_
  rintro e w3 ⟨rfl, v, bb⟩
  have HV3 : Hid (RD w3 r s f M true) := v
  have HB3 := (show Hid _ from HB2.out.trans (bb.mono (Nat.le_of_lt HRr.out)))
  have HZ3 : Hid (VA w3 w.heap.size [.int .i64 0, .int .u64 0, .int .i64 0] 41) := ⟨by rw [bb.block w.heap.size HRr.out]; exact HZ2.out.blk⟩
  clear v bb HV2 HB2 HZ2
  have a1 := VA.cell HV3.out 1 (v := .int .i64 (f : Int)) rfl
  have s4 := VA.cell HV3.out 4 (v := .bool true) rfl
  have V4 := VA.cell HV3.out 2 (v := .int .u64 ((M % 18446744073709551616 : Nat) : Int)) rfl
  have V5 := VA.cell HV3.out 3 (v := .int .u64 ((M / 18446744073709551616 : Nat) : Int)) rfl
  rw [← HM.out.1] at V4
  rw [← HM.out.2] at V5
  go_wp2_with fail
  exact ⟨rfl, rfl, HB3.out⟩
end Go.Proofs.YteohncnjjgoemaaGreatDoor.dg
/- digits: read, where it answers. -/
namespace Go.Proofs.YteohncnjjgoemaaGreatDoor.dg
open Go.RowKit
set_option linter.unusedVariables false
set_option linter.unusedSimpArgs false

def zdl : List Value := [.int .i64 0, .int .u64 0, .int .i64 0]
def dml (m0 m1 sc : Nat) : List Value := [.int .i64 (m1 : Int), .int .u64 (m0 : Int), .int .i64 (sc : Int)]
theorem dml_one (a b c : Nat) : ∀ v ∈ dml a b c, v.oneCell' = true := by intro v hv; simp [dml] at hv; rcases hv with rfl | rfl | rfl <;> rfl
/-- all of a struct is stored, in a drawn region -/
theorem stAw {w : World} {y : Nat → Option Bool} {o : Oper} {a : Act} {Q : Exit → Act → World → Prop} {K : Act → World → Prop} {k0 : Prop} (hgd : Region.wanted o y = true) (t : TypeId) (x z : Operand) (ho : o.op = .store t x z)
    (p : Nat) (hx : a.eval x = .pointer (some ⟨p, 0, none⟩)) (cs ds : List Value) (hy : a.eval z = .agg ds.toArray) (T : TypeId) (h : VA w p cs T) (hi : (Tryz.prog.info? t).map (·.size) = some ds.length) (hl : cs.length = ds.length) (h1 : ∀ v ∈ ds, v.oneCell' = true)
    (k : ∀ w', VA w' p ds T → Upd p w w' → K (a.put o.dst undef) w') : if Region.wanted o y = true then o.wp Tryz.prog a w K Q else k0 := by
  rw [if_pos hgd]
  have hrun := run_storeVar_row (P := Tryz.prog) w p T t cs.toArray ds.toArray h.blk (by simpa using hi) (by simpa using hl) (Array.all_eq_true_iff_forall_mem.2 (fun v hv => h1 v (by simpa using hv)))
  unfold Oper.wp execOp
  simp only [ho, hx, hy, Instr.storeAt, Instr.sureAddr, Sem.run_bind, Sem.run_pure, Result.andThen_ok, hrun]
  exact k _ ⟨setRow_heap w p _ _ _ _ h.blk⟩ (upd_setRow w p _)
theorem stAn {w : World} {y : Nat → Option Bool} {o : Oper} {a : Act} {Q : Exit → Act → World → Prop} {K : Act → World → Prop} {k0 : Prop} (hgd : Region.wanted o y = true) (hd : o.dst = none) (t : TypeId) (x z : Operand) (ho : o.op = .store t x z)
    (p : Nat) (hx : a.eval x = .pointer (some ⟨p, 0, none⟩)) (cs ds : List Value) (hy : a.eval z = .agg ds.toArray) (T : TypeId) (h : VA w p cs T) (hi : (Tryz.prog.info? t).map (·.size) = some ds.length) (hl : cs.length = ds.length) (h1 : ∀ v ∈ ds, v.oneCell' = true)
    (k : ∀ w', VA w' p ds T → Upd p w w' → K a w') : if Region.wanted o y = true then o.wp Tryz.prog a w K Q else k0 := by
  refine stAw hgd t x z ho p hx cs ds hy T h hi hl h1 (fun w' v u => ?_)
  rw [hd]
  exact k w' v u
set_option maxHeartbeats 4000000 in
set_option maxRecDepth 100000 in
theorem read_pos (s : ByteArray) (neg : Bool) (i j M1 f M sc : Nat) (b1 b : Bool) (w : World) (hP : Parts s neg i j M1 f M sc b1 b) (h : f = s.size) (hn : neg = false) (hb : b = false) (hM : M < 170141183460469231731687303715884105728) (hsc : (sc : Int) ≤ 18) :
    Calls Tryz.prog 42 #[.string s] w fun e w' => e = .returned (.agg (dcs ((M : Int)) sc).toArray) ∧ Below w.heap.size w w' := by
  subst hn
  subst hb
  have P : Hid (Parts s false i j M1 f M sc b1 false) := hP
  clear hP
  have hf : ¬ (f : Int) < s.size := by omega
  obtain ⟨m0, hm0⟩ : ∃ x, x = M % 18446744073709551616 := ⟨_, rfl⟩
  obtain ⟨m1, hm1⟩ : ∃ x, x = M / 18446744073709551616 := ⟨_, rfl⟩
  have HM : Hid (m0 = M % 18446744073709551616 ∧ m1 = M / 18446744073709551616) := ⟨hm0, hm1⟩
  have hm1b : m1 < 9223372036854775808 := by omega
  have hid : IsD (M : Int) (m1 : Int) (m0 : Int) := ⟨by unfold dhi; omega, by unfold dlo; omega⟩
  have hir : InR (M : Int) := ⟨by rw [M127_eq]; omega, by rw [M127_eq]; omega⟩
  have ev : dcs (M : Int) sc = dml m0 m1 sc := by unfold dcs dml; rw [← hid.eh, ← hid.el]
  rw [ev]
  clear ev
  clear hm0 hm1 hid hir hM
  have ez : (w.alloc (.cells #[.int .i64 0, .int .u64 0, .int .i64 0] 41)).heap.size = w.heap.size + 1 := by simp
  have V0 := va_new (w.alloc (.cells #[.int .i64 0, .int .u64 0, .int .i64 0] 41)) (rc s 0 0 0 false) 131
  rw [ez] at V0
  have B0 := ((Below.refl w.heap.size w).alloc (Nat.le_refl _) (.cells #[.int .i64 0, .int .u64 0, .int .i64 0] 41)).alloc (by simp) (.cells (rc s 0 0 0 false).toArray 131)
  have VZ := (va_new w [.int .i64 0, .int .u64 0, .int .i64 0] 41).alloc (.cells (rc s 0 0 0 false).toArray 131)
  go_enter Tryz.func42, Tryz.ntmps42
  go_upto_region 2 with fail
  change Code.wp _ _ _ _ ((w.alloc (.cells #[.int .i64 0, .int .u64 0, .int .i64 0] 41)).alloc (.cells (rc s 0 0 0 false).toArray 131))
  change VA ((w.alloc (.cells #[.int .i64 0, .int .u64 0, .int .i64 0] 41)).alloc (.cells (rc s 0 0 0 false).toArray 131)) w.heap.size _ _ at VZ
  obtain ⟨r, hr⟩ : ∃ r, r = w.heap.size + 1 := ⟨_, rfl⟩
  rw [← hr] at V0
  rw [← hr]
  have HRr : Hid (w.heap.size < r) := (by omega : w.heap.size < r)
  have HV0 : Hid (RD ((w.alloc (.cells #[.int .i64 0, .int .u64 0, .int .i64 0] 41)).alloc (.cells (rc s 0 0 0 false).toArray 131)) r s 0 0 false) := V0
  have HB0 := (show Hid _ from B0)
  have HZ0 := (show Hid _ from VZ)
  clear V0 B0 VZ ez hr
  generalize (w.alloc (.cells #[.int .i64 0, .int .u64 0, .int .i64 0] 41)).alloc (.cells (rc s 0 0 0 false).toArray 131) = w0 at *
  go_wp2_with fail
  refine (P.out.tk r _ HV0.out).mono ?_
  rintro e w1 ⟨rfl, v, bb⟩
  have HV1 : Hid (RD w1 r s i 0 false) := v
  have HB1 := (show Hid _ from HB0.out.trans (bb.mono (Nat.le_of_lt HRr.out)))
  have HZ1 : Hid (VA w1 w.heap.size [.int .i64 0, .int .u64 0, .int .i64 0] 41) := ⟨by rw [bb.block w.heap.size HRr.out]; exact HZ0.out.blk⟩
  clear v bb HV0 HB0 HZ0
  go_wp2_with fail
  refine (P.out.wh r _ HV1.out).mono ?_
  rintro e w2 ⟨rfl, v, bb⟩
  have HV2 : Hid (RD w2 r s j M1 b1) := v
  have HB2 := (show Hid _ from HB1.out.trans (bb.mono (Nat.le_of_lt HRr.out)))
  have HZ2 : Hid (VA w2 w.heap.size [.int .i64 0, .int .u64 0, .int .i64 0] 41) := ⟨by rw [bb.block w.heap.size HRr.out]; exact HZ1.out.blk⟩
  clear v bb HV1 HB1 HZ1
  go_wp2_with fail
  refine (P.out.fr r _ HV2.out).mono ?_
  rintro e w3 ⟨rfl, v, bb⟩
  have HV3 : Hid (RD w3 r s f M false) := v
  have HB3 := (show Hid _ from HB2.out.trans (bb.mono (Nat.le_of_lt HRr.out)))
  have HZ3 : Hid (VA w3 w.heap.size [.int .i64 0, .int .u64 0, .int .i64 0] 41) := ⟨by rw [bb.block w.heap.size HRr.out]; exact HZ2.out.blk⟩
  clear v bb HV2 HB2 HZ2
  have a1 := VA.cell HV3.out 1 (v := .int .i64 (f : Int)) rfl
  have HV4 : Hid (VA w3 r (rc s f m0 m1 false) 131) := (show VA w3 r (rc s f m0 m1 false) 131 by
    have := HV3.out
    unfold RD at this
    rw [← HM.out.1, ← HM.out.2] at this
    exact this)
  clear HV3
  have s4 := VA.cell HV4.out 4 (v := .bool false) rfl
  have V4 := VA.cell HV4.out 2 (v := .int .u64 (m0 : Int)) rfl
  have V5 := VA.cell HV4.out 3 (v := .int .u64 (m1 : Int)) rfl
  go_upto_region 11 with fail
  clear s4 V4 V5 a1
  refine wp_region_noPanic ?_
  refine wp_region_held_drew (S := fun w' => VA w' r (rc s f m0 m1 false) 131) (by kernel_rfl) HV4.out.drew (fun hHeld => ?_)
  refine takeD 0 44 (.pointer (some ⟨r, 0, none⟩)) (by exact rfl) rfl (by kernel_rfl) (by kernel_rfl) (by kernel_rfl) (fun _ _ _ h => h) (Or.inl ⟨by rfl, ?_⟩) (by assumption) ?_
  · intro wq hS
    go_simp
  try simp only [Act.put, List.setIfInBounds_toArray, List.set_cons_zero, List.set_cons_succ]
  refine takeD 1 45 (.pointer (some ⟨r, 0, none⟩)) (by exact rfl) rfl (by kernel_rfl) (by kernel_rfl) (by kernel_rfl) (fun _ _ _ h => h) (Or.inl ⟨by rfl, ?_⟩) (by assumption) ?_
  · intro wq hS
    go_simp
  try simp only [Act.put, List.setIfInBounds_toArray, List.set_cons_zero, List.set_cons_succ]
  refine takeD 2 46 (.pointer (some ⟨r, 2, none⟩)) (by exact rfl) rfl (by kernel_rfl) (by kernel_rfl) (by kernel_rfl) (fun _ _ _ h => h) (Or.inl ⟨by rfl, ?_⟩) (by assumption) ?_
  · intro wq hS
    go_simp
  try simp only [Act.put, List.setIfInBounds_toArray, List.set_cons_zero, List.set_cons_succ]
  refine takeD 3 47 (.pointer (some ⟨r, 3, none⟩)) (by exact rfl) rfl (by kernel_rfl) (by kernel_rfl) (by kernel_rfl) (fun _ _ _ h => h) (Or.inl ⟨by rfl, ?_⟩) (by assumption) ?_
  · intro wq hS
    go_simp
  try simp only [Act.put, List.setIfInBounds_toArray, List.set_cons_zero, List.set_cons_succ]
  refine takeD 4 48 (.int .u64 (m1 : Int)) (by exact rfl) rfl (by kernel_rfl) (by kernel_rfl) (by kernel_rfl) (fun _ _ _ h => h) (Or.inl ⟨by rfl, ?_⟩) (by assumption) ?_
  · intro wq hS
    have h1 := hS.cell 3 (v := .int .u64 (m1 : Int)) rfl
    go_simp
  try simp only [Act.put, List.setIfInBounds_toArray, List.set_cons_zero, List.set_cons_succ]
  refine takeD 5 49 (.int .i64 (m1 : Int)) (by exact rfl) rfl (by kernel_rfl) (by kernel_rfl) (by kernel_rfl) (fun _ _ _ h => h) (Or.inl ⟨by rfl, ?_⟩) (by assumption) ?_
  · intro wq hS
    go_simp
    rw [IntKind.wrap_i64]
    omega
  try simp only [Act.put, List.setIfInBounds_toArray, List.set_cons_zero, List.set_cons_succ]
  refine takeD 6 50 (.pointer (some ⟨r, 0, none⟩)) (by exact rfl) rfl (by kernel_rfl) (by kernel_rfl) (by kernel_rfl) (fun _ _ _ h => h) (Or.inl ⟨by rfl, ?_⟩) (by assumption) ?_
  · intro wq hS
    go_simp
  try simp only [Act.put, List.setIfInBounds_toArray, List.set_cons_zero, List.set_cons_succ]
  refine takeD 7 51 (.pointer (some ⟨r, 0, none⟩)) (by exact rfl) rfl (by kernel_rfl) (by kernel_rfl) (by kernel_rfl) (fun _ _ _ h => h) (Or.inl ⟨by rfl, ?_⟩) (by assumption) ?_
  · intro wq hS
    go_simp
  try simp only [Act.put, List.setIfInBounds_toArray, List.set_cons_zero, List.set_cons_succ]
  refine takeD 8 52 (.pointer (some ⟨r, 2, none⟩)) (by exact rfl) rfl (by kernel_rfl) (by kernel_rfl) (by kernel_rfl) (fun _ _ _ h => h) (Or.inl ⟨by rfl, ?_⟩) (by assumption) ?_
  · intro wq hS
    go_simp
  try simp only [Act.put, List.setIfInBounds_toArray, List.set_cons_zero, List.set_cons_succ]
  refine takeD 9 53 (.pointer (some ⟨r, 2, none⟩)) (by exact rfl) rfl (by kernel_rfl) (by kernel_rfl) (by kernel_rfl) (fun _ _ _ h => h) (Or.inl ⟨by rfl, ?_⟩) (by assumption) ?_
  · intro wq hS
    go_simp
  try simp only [Act.put, List.setIfInBounds_toArray, List.set_cons_zero, List.set_cons_succ]
  refine takeD 10 54 (.int .u64 (m0 : Int)) (by exact rfl) rfl (by kernel_rfl) (by kernel_rfl) (by kernel_rfl) (fun _ _ _ h => h) (Or.inl ⟨by rfl, ?_⟩) (by assumption) ?_
  · intro wq hS
    have h1 := hS.cell 2 (v := .int .u64 (m0 : Int)) rfl
    go_simp
  try simp only [Act.put, List.setIfInBounds_toArray, List.set_cons_zero, List.set_cons_succ]
  refine takeD 11 55 (.int .i64 (sc : Int)) (by exact rfl) rfl (by kernel_rfl) (by kernel_rfl) (by kernel_rfl) (fun _ _ _ h => h) (Or.inl ⟨by rfl, ?_⟩) (by assumption) ?_
  · intro wq hS
    go_simp
  try simp only [Act.put, List.setIfInBounds_toArray, List.set_cons_zero, List.set_cons_succ]
  refine takeD 12 56 (.agg (dml m0 m1 sc).toArray) (by exact rfl) rfl (by kernel_rfl) (by kernel_rfl) (by kernel_rfl) (fun _ _ _ h => h) (Or.inl ⟨by rfl, ?_⟩) (by assumption) ?_
  · intro wq hS
    go_simp
    rfl
  try simp only [Act.put, List.setIfInBounds_toArray, List.set_cons_zero, List.set_cons_succ]
  clear hHeld
  have V_z := (show Hid _ from HV4.out.drew)
  have Z_z := (show Hid _ from HZ3.out.drew)
  have BB_z := (show Hid _ from HB3.out.drew)
  clear HV4 HZ3 HB3
  generalize w3.drew = wz at *
  refine wpAnyH_ready (rs := [13]) (by kernel_rfl) (by simp) ?_
  refine AllReadyH.cons (by exact rfl) (fun K hK => ?_) AllReadyH.nil
  go_simp
  have V_1 := (show Hid _ from V_z.out.alloc (.cells zdl.toArray 41))
  have Z_1 := (show Hid _ from Z_z.out.alloc (.cells zdl.toArray 41))
  have BB_1 := (show Hid _ from BB_z.out.alloc BB_z.out.size (.cells zdl.toArray 41))
  have XV_1 := (show Hid _ from va_new wz zdl 41)
  have HQ : Hid (r < wz.heap.size ∧ w.heap.size < wz.heap.size) := ⟨V_z.out.lt, Z_z.out.lt⟩
  refine hK.out _ _ V_1.out (fun hHeld => ?_)
  try simp only [Act.put, List.setIfInBounds_toArray, List.set_cons_zero, List.set_cons_succ]
  clear hK K hHeld V_z Z_z BB_z
  change wpAnyH _ _ _ _ _ _ _ _ (wz.alloc (.cells zdl.toArray 41))
  generalize wz.alloc (.cells zdl.toArray 41) = w5 at *
  generalize wz.heap.size = q at *
  refine wpAnyH_ready (rs := [14]) (by kernel_rfl) (by simp) ?_
  refine AllReadyH.cons (by exact rfl) (fun K hK => ?_) AllReadyH.nil
  refine stAn (by rfl) (by rfl) 41 _ _ (by rfl) q (by rfl) zdl (dml m0 m1 sc) (by rfl) 41 XV_1.out infoD rfl (dml_one _ _ _) ?_
  intro w9 v9 u9
  have V_9 := (show Hid _ from V_1.out.upd u9 (by have := HQ.out; omega))
  have Z_9 := (show Hid _ from Z_1.out.upd u9 (by have := HQ.out; omega))
  refine hK.out _ _ V_9.out (fun hHeld => ?_)
  clear hK K hHeld
  refine wpAnyH_done (by kernel_rfl) ?_ _
  refine NoPanic.normal ?_
  have XV_9 := (show Hid _ from v9)
  have BB_9 := (show Hid _ from u9.bel BB_1.out (by have := HQ.out; omega))
  clear v9 u9 V_1 Z_1 BB_1 XV_1 V_9
  go_wp2_with (first | (refine ldA rfl 41 _ rfl q (by rfl) (dml m0 m1 sc) _ XV_9.out _ Tryz.underlying41 rfl infoD ?_) | (refine stA rfl 41 _ _ rfl w.heap.size (by rfl) [.int .i64 0, .int .u64 0, .int .i64 0] (dml m0 m1 sc) (by rfl) 41 Z_9.out infoD rfl (dml_one _ _ _) ?_; intro wf vf uf))
  have hld := run_loadVar_row (P := Tryz.prog) wf w.heap.size 41 41 _ (0, 0) _ vf.blk Tryz.underlying41 rfl infoD
  exact bodyPost_ret (v := .agg (dml m0 m1 sc).toArray) (by simp [results, Tryz.results42, Act.put, asAddr, hld]) rfl ⟨rfl, uf.bel BB_9.out (by omega)⟩
set_option maxHeartbeats 4000000 in
set_option maxRecDepth 100000 in
theorem read_neg (s : ByteArray) (neg : Bool) (i j M1 f M sc : Nat) (b1 b : Bool) (w : World) (hP : Parts s neg i j M1 f M sc b1 b) (h : f = s.size) (hn : neg = true) (hb : b = false) (hM0 : M ≠ 0) (hM : M < 170141183460469231731687303715884105728) (hsc : (sc : Int) ≤ 18) :
    Calls Tryz.prog 42 #[.string s] w fun e w' => e = .returned (.agg (dcs (-(M : Int)) sc).toArray) ∧ Below w.heap.size w w' := by
  subst hn
  subst hb
  have P : Hid (Parts s true i j M1 f M sc b1 false) := hP
  clear hP
  have hf : ¬ (f : Int) < s.size := by omega
  obtain ⟨m0, hm0⟩ : ∃ x, x = M % 18446744073709551616 := ⟨_, rfl⟩
  obtain ⟨m1, hm1⟩ : ∃ x, x = M / 18446744073709551616 := ⟨_, rfl⟩
  have HM : Hid (m0 = M % 18446744073709551616 ∧ m1 = M / 18446744073709551616) := ⟨hm0, hm1⟩
  have hm1b : m1 < 9223372036854775808 := by omega
  have hid : IsD (M : Int) (m1 : Int) (m0 : Int) := ⟨by unfold dhi; omega, by unfold dlo; omega⟩
  have hir : InR (M : Int) := ⟨by rw [M127_eq]; omega, by rw [M127_eq]; omega⟩
  have HNG := (show Hid _ from fun w => neg_ok (M : Int) (m1 : Int) (m0 : Int) sc w hid hir hsc)
  have E1 : ∀ w, (Op.equalIn 10000 77 (.agg #[.int .u64 (m0 : Int), .int .u64 (m1 : Int)]) (.agg #[.int .u64 0, .int .u64 0])).run Tryz.prog w = .ok false w := fun w => by
    rw [eq_size]
    congr 1
    simp
    omega
  clear hm0 hm1 hid hir hM
  have ez : (w.alloc (.cells #[.int .i64 0, .int .u64 0, .int .i64 0] 41)).heap.size = w.heap.size + 1 := by simp
  have V0 := va_new (w.alloc (.cells #[.int .i64 0, .int .u64 0, .int .i64 0] 41)) (rc s 0 0 0 false) 131
  rw [ez] at V0
  have B0 := ((Below.refl w.heap.size w).alloc (Nat.le_refl _) (.cells #[.int .i64 0, .int .u64 0, .int .i64 0] 41)).alloc (by simp) (.cells (rc s 0 0 0 false).toArray 131)
  have VZ := (va_new w [.int .i64 0, .int .u64 0, .int .i64 0] 41).alloc (.cells (rc s 0 0 0 false).toArray 131)
  go_enter Tryz.func42, Tryz.ntmps42
  go_upto_region 2 with fail
  change Code.wp _ _ _ _ ((w.alloc (.cells #[.int .i64 0, .int .u64 0, .int .i64 0] 41)).alloc (.cells (rc s 0 0 0 false).toArray 131))
  change VA ((w.alloc (.cells #[.int .i64 0, .int .u64 0, .int .i64 0] 41)).alloc (.cells (rc s 0 0 0 false).toArray 131)) w.heap.size _ _ at VZ
  obtain ⟨r, hr⟩ : ∃ r, r = w.heap.size + 1 := ⟨_, rfl⟩
  rw [← hr] at V0
  rw [← hr]
  have HRr : Hid (w.heap.size < r) := (by omega : w.heap.size < r)
  have HV0 : Hid (RD ((w.alloc (.cells #[.int .i64 0, .int .u64 0, .int .i64 0] 41)).alloc (.cells (rc s 0 0 0 false).toArray 131)) r s 0 0 false) := V0
  have HB0 := (show Hid _ from B0)
  have HZ0 := (show Hid _ from VZ)
  clear V0 B0 VZ ez hr
  generalize (w.alloc (.cells #[.int .i64 0, .int .u64 0, .int .i64 0] 41)).alloc (.cells (rc s 0 0 0 false).toArray 131) = w0 at *
  go_wp2_with fail
  refine (P.out.tk r _ HV0.out).mono ?_
  rintro e w1 ⟨rfl, v, bb⟩
  have HV1 : Hid (RD w1 r s i 0 false) := v
  have HB1 := (show Hid _ from HB0.out.trans (bb.mono (Nat.le_of_lt HRr.out)))
  have HZ1 : Hid (VA w1 w.heap.size [.int .i64 0, .int .u64 0, .int .i64 0] 41) := ⟨by rw [bb.block w.heap.size HRr.out]; exact HZ0.out.blk⟩
  clear v bb HV0 HB0 HZ0
  go_wp2_with fail
  refine (P.out.wh r _ HV1.out).mono ?_
  rintro e w2 ⟨rfl, v, bb⟩
  have HV2 : Hid (RD w2 r s j M1 b1) := v
  have HB2 := (show Hid _ from HB1.out.trans (bb.mono (Nat.le_of_lt HRr.out)))
  have HZ2 : Hid (VA w2 w.heap.size [.int .i64 0, .int .u64 0, .int .i64 0] 41) := ⟨by rw [bb.block w.heap.size HRr.out]; exact HZ1.out.blk⟩
  clear v bb HV1 HB1 HZ1
  go_wp2_with fail
  refine (P.out.fr r _ HV2.out).mono ?_
  rintro e w3 ⟨rfl, v, bb⟩
  have HV3 : Hid (RD w3 r s f M false) := v
  have HB3 := (show Hid _ from HB2.out.trans (bb.mono (Nat.le_of_lt HRr.out)))
  have HZ3 : Hid (VA w3 w.heap.size [.int .i64 0, .int .u64 0, .int .i64 0] 41) := ⟨by rw [bb.block w.heap.size HRr.out]; exact HZ2.out.blk⟩
  clear v bb HV2 HB2 HZ2
  have a1 := VA.cell HV3.out 1 (v := .int .i64 (f : Int)) rfl
  have HV4 : Hid (VA w3 r (rc s f m0 m1 false) 131) := (show VA w3 r (rc s f m0 m1 false) 131 by
    have := HV3.out
    unfold RD at this
    rw [← HM.out.1, ← HM.out.2] at this
    exact this)
  clear HV3
  have s4 := VA.cell HV4.out 4 (v := .bool false) rfl
  have V4 := VA.cell HV4.out 2 (v := .int .u64 (m0 : Int)) rfl
  have V5 := VA.cell HV4.out 3 (v := .int .u64 (m1 : Int)) rfl
  go_upto_region 11 with fail
  clear s4 V4 V5 a1
  refine wp_region_noPanic ?_
  refine wp_region_held_drew (S := fun w' => VA w' r (rc s f m0 m1 false) 131) (by kernel_rfl) HV4.out.drew (fun hHeld => ?_)
  refine takeD 0 44 (.pointer (some ⟨r, 0, none⟩)) (by exact rfl) rfl (by kernel_rfl) (by kernel_rfl) (by kernel_rfl) (fun _ _ _ h => h) (Or.inl ⟨by rfl, ?_⟩) (by assumption) ?_
  · intro wq hS
    go_simp
  try simp only [Act.put, List.setIfInBounds_toArray, List.set_cons_zero, List.set_cons_succ]
  refine takeD 1 45 (.pointer (some ⟨r, 0, none⟩)) (by exact rfl) rfl (by kernel_rfl) (by kernel_rfl) (by kernel_rfl) (fun _ _ _ h => h) (Or.inl ⟨by rfl, ?_⟩) (by assumption) ?_
  · intro wq hS
    go_simp
  try simp only [Act.put, List.setIfInBounds_toArray, List.set_cons_zero, List.set_cons_succ]
  refine takeD 2 46 (.pointer (some ⟨r, 2, none⟩)) (by exact rfl) rfl (by kernel_rfl) (by kernel_rfl) (by kernel_rfl) (fun _ _ _ h => h) (Or.inl ⟨by rfl, ?_⟩) (by assumption) ?_
  · intro wq hS
    go_simp
  try simp only [Act.put, List.setIfInBounds_toArray, List.set_cons_zero, List.set_cons_succ]
  refine takeD 3 47 (.pointer (some ⟨r, 3, none⟩)) (by exact rfl) rfl (by kernel_rfl) (by kernel_rfl) (by kernel_rfl) (fun _ _ _ h => h) (Or.inl ⟨by rfl, ?_⟩) (by assumption) ?_
  · intro wq hS
    go_simp
  try simp only [Act.put, List.setIfInBounds_toArray, List.set_cons_zero, List.set_cons_succ]
  refine takeD 4 48 (.int .u64 (m1 : Int)) (by exact rfl) rfl (by kernel_rfl) (by kernel_rfl) (by kernel_rfl) (fun _ _ _ h => h) (Or.inl ⟨by rfl, ?_⟩) (by assumption) ?_
  · intro wq hS
    have h1 := hS.cell 3 (v := .int .u64 (m1 : Int)) rfl
    go_simp
  try simp only [Act.put, List.setIfInBounds_toArray, List.set_cons_zero, List.set_cons_succ]
  refine takeD 5 49 (.int .i64 (m1 : Int)) (by exact rfl) rfl (by kernel_rfl) (by kernel_rfl) (by kernel_rfl) (fun _ _ _ h => h) (Or.inl ⟨by rfl, ?_⟩) (by assumption) ?_
  · intro wq hS
    go_simp
    rw [IntKind.wrap_i64]
    omega
  try simp only [Act.put, List.setIfInBounds_toArray, List.set_cons_zero, List.set_cons_succ]
  refine takeD 6 50 (.pointer (some ⟨r, 0, none⟩)) (by exact rfl) rfl (by kernel_rfl) (by kernel_rfl) (by kernel_rfl) (fun _ _ _ h => h) (Or.inl ⟨by rfl, ?_⟩) (by assumption) ?_
  · intro wq hS
    go_simp
  try simp only [Act.put, List.setIfInBounds_toArray, List.set_cons_zero, List.set_cons_succ]
  refine takeD 7 51 (.pointer (some ⟨r, 0, none⟩)) (by exact rfl) rfl (by kernel_rfl) (by kernel_rfl) (by kernel_rfl) (fun _ _ _ h => h) (Or.inl ⟨by rfl, ?_⟩) (by assumption) ?_
  · intro wq hS
    go_simp
  try simp only [Act.put, List.setIfInBounds_toArray, List.set_cons_zero, List.set_cons_succ]
  refine takeD 8 52 (.pointer (some ⟨r, 2, none⟩)) (by exact rfl) rfl (by kernel_rfl) (by kernel_rfl) (by kernel_rfl) (fun _ _ _ h => h) (Or.inl ⟨by rfl, ?_⟩) (by assumption) ?_
  · intro wq hS
    go_simp
  try simp only [Act.put, List.setIfInBounds_toArray, List.set_cons_zero, List.set_cons_succ]
  refine takeD 9 53 (.pointer (some ⟨r, 2, none⟩)) (by exact rfl) rfl (by kernel_rfl) (by kernel_rfl) (by kernel_rfl) (fun _ _ _ h => h) (Or.inl ⟨by rfl, ?_⟩) (by assumption) ?_
  · intro wq hS
    go_simp
  try simp only [Act.put, List.setIfInBounds_toArray, List.set_cons_zero, List.set_cons_succ]
  refine takeD 10 54 (.int .u64 (m0 : Int)) (by exact rfl) rfl (by kernel_rfl) (by kernel_rfl) (by kernel_rfl) (fun _ _ _ h => h) (Or.inl ⟨by rfl, ?_⟩) (by assumption) ?_
  · intro wq hS
    have h1 := hS.cell 2 (v := .int .u64 (m0 : Int)) rfl
    go_simp
  try simp only [Act.put, List.setIfInBounds_toArray, List.set_cons_zero, List.set_cons_succ]
  refine takeD 11 55 (.int .i64 (sc : Int)) (by exact rfl) rfl (by kernel_rfl) (by kernel_rfl) (by kernel_rfl) (fun _ _ _ h => h) (Or.inl ⟨by rfl, ?_⟩) (by assumption) ?_
  · intro wq hS
    go_simp
  try simp only [Act.put, List.setIfInBounds_toArray, List.set_cons_zero, List.set_cons_succ]
  refine takeD 12 56 (.agg (dml m0 m1 sc).toArray) (by exact rfl) rfl (by kernel_rfl) (by kernel_rfl) (by kernel_rfl) (fun _ _ _ h => h) (Or.inl ⟨by rfl, ?_⟩) (by assumption) ?_
  · intro wq hS
    go_simp
    rfl
  try simp only [Act.put, List.setIfInBounds_toArray, List.set_cons_zero, List.set_cons_succ]
  clear hHeld
  have V_z := (show Hid _ from HV4.out.drew)
  have Z_z := (show Hid _ from HZ3.out.drew)
  have BB_z := (show Hid _ from HB3.out.drew)
  clear HV4 HZ3 HB3
  generalize w3.drew = wz at *
  refine wpAnyH_ready (rs := [13]) (by kernel_rfl) (by simp) ?_
  refine AllReadyH.cons (by exact rfl) (fun K hK => ?_) AllReadyH.nil
  go_simp
  have V_1 := (show Hid _ from V_z.out.alloc (.cells zdl.toArray 41))
  have Z_1 := (show Hid _ from Z_z.out.alloc (.cells zdl.toArray 41))
  have BB_1 := (show Hid _ from BB_z.out.alloc BB_z.out.size (.cells zdl.toArray 41))
  have XV_1 := (show Hid _ from va_new wz zdl 41)
  have HQ : Hid (r < wz.heap.size ∧ w.heap.size < wz.heap.size) := ⟨V_z.out.lt, Z_z.out.lt⟩
  refine hK.out _ _ V_1.out (fun hHeld => ?_)
  try simp only [Act.put, List.setIfInBounds_toArray, List.set_cons_zero, List.set_cons_succ]
  clear hK K hHeld V_z Z_z BB_z
  change wpAnyH _ _ _ _ _ _ _ _ (wz.alloc (.cells zdl.toArray 41))
  generalize wz.alloc (.cells zdl.toArray 41) = w5 at *
  generalize wz.heap.size = q at *
  refine wpAnyH_ready (rs := [14]) (by kernel_rfl) (by simp) ?_
  refine AllReadyH.cons (by exact rfl) (fun K hK => ?_) AllReadyH.nil
  refine stAn (by rfl) (by rfl) 41 _ _ (by rfl) q (by rfl) zdl (dml m0 m1 sc) (by rfl) 41 XV_1.out infoD rfl (dml_one _ _ _) ?_
  intro w9 v9 u9
  have V_9 := (show Hid _ from V_1.out.upd u9 (by have := HQ.out; omega))
  have Z_9 := (show Hid _ from Z_1.out.upd u9 (by have := HQ.out; omega))
  refine hK.out _ _ V_9.out (fun hHeld => ?_)
  clear hK K hHeld
  refine wpAnyH_done (by kernel_rfl) ?_ _
  refine NoPanic.normal ?_
  have XV_9 := (show Hid _ from v9)
  have BB_9 := (show Hid _ from u9.bel BB_1.out (by have := HQ.out; omega))
  clear v9 u9 V_1 Z_1 BB_1 XV_1 V_9
  go_wp2_with (refine ldA rfl 41 _ rfl q (by rfl) (dml m0 m1 sc) _ XV_9.out _ Tryz.underlying41 rfl infoD ?_)
  refine (HNG.out _).mono ?_
  rintro e wa ⟨rfl, ba⟩
  have XV_a := (show Hid _ from XV_9.out.step ba)
  have Z_a := (show Hid _ from Z_9.out.step ba)
  have BB_a := (show Hid _ from BB_9.out.trans (ba.mono BB_9.out.size))
  clear ba XV_9 Z_9 BB_9
  go_upto_region 14 with (refine stA rfl 41 _ _ rfl q (by rfl) (dml m0 m1 sc) (dcs (-(M : Int)) sc) (by rfl) 41 XV_a.out infoD rfl (dcs_one _ _) ?_; intro wb vb ub)
  have XV_b := (show Hid _ from vb)
  have Z_b := (show Hid _ from Z_a.out.upd ub (by have := HQ.out; omega))
  have BB_b := (show Hid _ from ub.bel BB_a.out (by have := HQ.out; omega))
  clear vb ub XV_a Z_a BB_a
  go_wp2_with (first | (refine ldA rfl 41 _ rfl q (by rfl) (dcs (-(M : Int)) sc) _ XV_b.out _ Tryz.underlying41 rfl infoD ?_) | (refine stA rfl 41 _ _ rfl w.heap.size (by rfl) [.int .i64 0, .int .u64 0, .int .i64 0] (dcs (-(M : Int)) sc) (by rfl) 41 Z_b.out infoD rfl (dcs_one _ _) ?_; intro wf vf uf))
  have hld := run_loadVar_row (P := Tryz.prog) wf w.heap.size 41 41 _ (0, 0) _ vf.blk Tryz.underlying41 rfl infoD
  exact bodyPost_ret (v := .agg (dcs (-(M : Int)) sc).toArray) (by simp [results, Tryz.results42, Act.put, asAddr, hld]) rfl ⟨rfl, uf.bel BB_b.out (by omega)⟩
end Go.Proofs.YteohncnjjgoemaaGreatDoor.dg
/- digits: read, where whole or fraction gives up. -/
namespace Go.Proofs.YteohncnjjgoemaaGreatDoor.dg
open Go.RowKit
set_option linter.unusedVariables false
set_option linter.unusedSimpArgs false

set_option maxHeartbeats 1000000 in
theorem read_wfault (s : ByteArray) (neg : Bool) (i : Nat) (w : World) (tk : ∀ r w, RD w r s 0 0 false → Calls Tryz.prog 73 #[.pointer (some ⟨r, 0, none⟩), .int .u8 45] w fun e w' => e = .returned (.bool neg) ∧ RD w' r s i 0 false ∧ Below r w w') (wh : ∀ r w, RD w r s i 0 false → Calls Tryz.prog 74 #[.pointer (some ⟨r, 0, none⟩)] w fun e w' => e = .panicked [{ v := .iface 94 (.int .i64 (i : Int)), recovered := false }] ∧ Below r w w') :
    Calls Tryz.prog 42 #[.string s] w fun e w' => e = .panicked [{ v := .iface 94 (.int .i64 (i : Int)), recovered := false }] ∧ Below w.heap.size w w' := by
  have TK := (show Hid _ from tk)
  have WH := (show Hid _ from wh)
  clear tk wh
  have ez : (w.alloc (.cells #[.int .i64 0, .int .u64 0, .int .i64 0] 41)).heap.size = w.heap.size + 1 := by simp
  have V0 := va_new (w.alloc (.cells #[.int .i64 0, .int .u64 0, .int .i64 0] 41)) (rc s 0 0 0 false) 131
  rw [ez] at V0
  have B0 := ((Below.refl w.heap.size w).alloc (Nat.le_refl _) (.cells #[.int .i64 0, .int .u64 0, .int .i64 0] 41)).alloc (by simp) (.cells (rc s 0 0 0 false).toArray 131)
  have VZ := (va_new w [.int .i64 0, .int .u64 0, .int .i64 0] 41).alloc (.cells (rc s 0 0 0 false).toArray 131)
  go_enter Tryz.func42, Tryz.ntmps42
  go_upto_region 2 with fail
  change Code.wp _ _ _ _ ((w.alloc (.cells #[.int .i64 0, .int .u64 0, .int .i64 0] 41)).alloc (.cells (rc s 0 0 0 false).toArray 131))
  change VA ((w.alloc (.cells #[.int .i64 0, .int .u64 0, .int .i64 0] 41)).alloc (.cells (rc s 0 0 0 false).toArray 131)) w.heap.size _ _ at VZ
  obtain ⟨r, hr⟩ : ∃ r, r = w.heap.size + 1 := ⟨_, rfl⟩
  rw [← hr] at V0
  rw [← hr]
  have HRr : Hid (w.heap.size < r) := (by omega : w.heap.size < r)
  have HV0 : Hid (RD ((w.alloc (.cells #[.int .i64 0, .int .u64 0, .int .i64 0] 41)).alloc (.cells (rc s 0 0 0 false).toArray 131)) r s 0 0 false) := V0
  have HB0 := (show Hid _ from B0)
  have HZ0 := (show Hid _ from VZ)
  clear V0 B0 VZ ez hr
  generalize (w.alloc (.cells #[.int .i64 0, .int .u64 0, .int .i64 0] 41)).alloc (.cells (rc s 0 0 0 false).toArray 131) = w0 at *
  go_wp2_with fail
  refine (TK.out r _ HV0.out).mono ?_
  rintro e w1 ⟨rfl, v, bb⟩
  have HV1 : Hid (RD w1 r s i 0 false) := v
  have HB1 := (show Hid _ from HB0.out.trans (bb.mono (Nat.le_of_lt HRr.out)))
  have HZ1 : Hid (VA w1 w.heap.size [.int .i64 0, .int .u64 0, .int .i64 0] 41) := ⟨by rw [bb.block w.heap.size HRr.out]; exact HZ0.out.blk⟩
  clear v bb HV0 HB0 HZ0
  go_wp2_with fail
  refine (WH.out r _ HV1.out).mono ?_
  rintro e w2 ⟨rfl, bb⟩
  have HB2 := (show Hid _ from HB1.out.trans (bb.mono (Nat.le_of_lt HRr.out)))
  clear bb
  try go_wp2_with fail
  exact ⟨rfl, rfl, HB2.out⟩
set_option maxHeartbeats 1000000 in
theorem read_ffault (s : ByteArray) (neg : Bool) (i : Nat) (w : World) (j M1 : Nat) (b1 : Bool) (tk : ∀ r w, RD w r s 0 0 false → Calls Tryz.prog 73 #[.pointer (some ⟨r, 0, none⟩), .int .u8 45] w fun e w' => e = .returned (.bool neg) ∧ RD w' r s i 0 false ∧ Below r w w') (wh : ∀ r w, RD w r s i 0 false → Calls Tryz.prog 74 #[.pointer (some ⟨r, 0, none⟩)] w fun e w' => e = .returned (.tuple #[]) ∧ RD w' r s j M1 b1 ∧ Below r w w') (fr : ∀ r w, RD w r s j M1 b1 → Calls Tryz.prog 75 #[.pointer (some ⟨r, 0, none⟩)] w fun e w' => e = .panicked [{ v := .iface 94 (.int .i64 ((j + 1 : Nat) : Int)), recovered := false }] ∧ Below r w w') :
    Calls Tryz.prog 42 #[.string s] w fun e w' => e = .panicked [{ v := .iface 94 (.int .i64 ((j + 1 : Nat) : Int)), recovered := false }] ∧ Below w.heap.size w w' := by
  have TK := (show Hid _ from tk)
  have WH := (show Hid _ from wh)
  have FR := (show Hid _ from fr)
  clear tk wh fr
  have ez : (w.alloc (.cells #[.int .i64 0, .int .u64 0, .int .i64 0] 41)).heap.size = w.heap.size + 1 := by simp
  have V0 := va_new (w.alloc (.cells #[.int .i64 0, .int .u64 0, .int .i64 0] 41)) (rc s 0 0 0 false) 131
  rw [ez] at V0
  have B0 := ((Below.refl w.heap.size w).alloc (Nat.le_refl _) (.cells #[.int .i64 0, .int .u64 0, .int .i64 0] 41)).alloc (by simp) (.cells (rc s 0 0 0 false).toArray 131)
  have VZ := (va_new w [.int .i64 0, .int .u64 0, .int .i64 0] 41).alloc (.cells (rc s 0 0 0 false).toArray 131)
  go_enter Tryz.func42, Tryz.ntmps42
  go_upto_region 2 with fail
  change Code.wp _ _ _ _ ((w.alloc (.cells #[.int .i64 0, .int .u64 0, .int .i64 0] 41)).alloc (.cells (rc s 0 0 0 false).toArray 131))
  change VA ((w.alloc (.cells #[.int .i64 0, .int .u64 0, .int .i64 0] 41)).alloc (.cells (rc s 0 0 0 false).toArray 131)) w.heap.size _ _ at VZ
  obtain ⟨r, hr⟩ : ∃ r, r = w.heap.size + 1 := ⟨_, rfl⟩
  rw [← hr] at V0
  rw [← hr]
  have HRr : Hid (w.heap.size < r) := (by omega : w.heap.size < r)
  have HV0 : Hid (RD ((w.alloc (.cells #[.int .i64 0, .int .u64 0, .int .i64 0] 41)).alloc (.cells (rc s 0 0 0 false).toArray 131)) r s 0 0 false) := V0
  have HB0 := (show Hid _ from B0)
  have HZ0 := (show Hid _ from VZ)
  clear V0 B0 VZ ez hr
  generalize (w.alloc (.cells #[.int .i64 0, .int .u64 0, .int .i64 0] 41)).alloc (.cells (rc s 0 0 0 false).toArray 131) = w0 at *
  go_wp2_with fail
  refine (TK.out r _ HV0.out).mono ?_
  rintro e w1 ⟨rfl, v, bb⟩
  have HV1 : Hid (RD w1 r s i 0 false) := v
  have HB1 := (show Hid _ from HB0.out.trans (bb.mono (Nat.le_of_lt HRr.out)))
  have HZ1 : Hid (VA w1 w.heap.size [.int .i64 0, .int .u64 0, .int .i64 0] 41) := ⟨by rw [bb.block w.heap.size HRr.out]; exact HZ0.out.blk⟩
  clear v bb HV0 HB0 HZ0
  go_wp2_with fail
  refine (WH.out r _ HV1.out).mono ?_
  rintro e w2 ⟨rfl, v, bb⟩
  have HV2 : Hid (RD w2 r s j M1 b1) := v
  have HB2 := (show Hid _ from HB1.out.trans (bb.mono (Nat.le_of_lt HRr.out)))
  have HZ2 : Hid (VA w2 w.heap.size [.int .i64 0, .int .u64 0, .int .i64 0] 41) := ⟨by rw [bb.block w.heap.size HRr.out]; exact HZ1.out.blk⟩
  clear v bb HV1 HB1 HZ1
  go_wp2_with fail
  refine (FR.out r _ HV2.out).mono ?_
  rintro e w3 ⟨rfl, bb⟩
  have HB3 := (show Hid _ from HB2.out.trans (bb.mono (Nat.le_of_lt HRr.out)))
  clear bb
  try go_wp2_with fail
  exact ⟨rfl, rfl, HB3.out⟩
end Go.Proofs.YteohncnjjgoemaaGreatDoor.dg
/- digits: Parse's deferred closure, and Parse. -/
namespace Go.Proofs.YteohncnjjgoemaaGreatDoor.dg
open Go.RowKit
set_option linter.unusedVariables false
set_option linter.unusedSimpArgs false

set_option maxHeartbeats 1000000 in
theorem catch_idle (p q t : Addr) (w : World) :
    CallsD Tryz.prog 41 #[.pointer (some p), .pointer (some q), .pointer (some t)] .returning w fun e u' w' => e = .returned (.tuple #[]) ∧ u' = .returning ∧ w' = w := by
  refine callsD_of_wpS Tryz.func41 rfl fun c₀ cs hu => ?_
  apply wpS_seq
  apply wpS_region
  simp [wpOpsS, go_sem, recoverD, hu, Tryz.ntmps41, Exit.thenS]
  refine wpS_of_wp ?_
  go_wp2_with fail
  cases c₀
  simp_all [bodyPostS, results, Tryz.results41, Exit.thenS]
theorem infoN : (Tryz.prog.info? 3).map (·.size) = some 1 := by kernel_rfl
theorem ta_hit (v : Value) (xT : TypeId) (w : World) : (Instr.typeAssert (.iface 94 v) xT 94 true).run Tryz.prog w = .ok (.tuple #[v, .bool true]) w := by
  simp [Instr.typeAssert, run_underlying Tryz.underlying94, go_sem]
theorem ta_miss (v : Value) (xT : TypeId) (w : World) : (Instr.typeAssert (.iface 96 v) xT 94 true).run Tryz.prog w = .ok (.tuple #[.int .i64 0, .bool false]) w := by
  simp [Instr.typeAssert, run_underlying Tryz.underlying94, go_sem]
theorem ta_great (v : Value) (xT : TypeId) (w : World) : (Instr.typeAssert (.iface 96 v) xT 96 true).run Tryz.prog w = .ok (.tuple #[v, .bool true]) w := by
  simp [Instr.typeAssert, run_underlying Tryz.underlying96, go_sem]
theorem ifn (u : TypeId) (v : Value) (w : World) : (binOp .eql 20 (.iface u v) .nilIface).run Tryz.prog w = .ok (.bool false) w := run_eql_held_nil w 20 u v (by kernel_rfl)
set_option maxHeartbeats 2000000 in
theorem catch_fault (p q t i : Nat) (x y : Value) (w : World) (hp : VA w p zdl 41) (hq : VA w q [x] 3) (ht : VA w t [y] 25) (h1 : p < q) (h2 : q < t) :
    CallsD Tryz.prog 41 #[.pointer (some ⟨p, 0, none⟩), .pointer (some ⟨q, 0, none⟩), .pointer (some ⟨t, 0, none⟩)] (.panicking [{ v := .iface 94 (.int .i64 (i : Int)), recovered := false }]) w fun e u' w' => e = .returned (.tuple #[]) ∧ u' = (.panicking [{ v := .iface 94 (.int .i64 (i : Int)), recovered := true }])
      ∧ VA w' p zdl 41 ∧ VA w' q [.int .i64 (i : Int)] 3 ∧ VA w' t [.int .i64 6] 25 ∧ Below p w w' := by
  have HP := (show Hid _ from hp)
  have HQ := (show Hid _ from hq)
  have HT := (show Hid _ from ht)
  have H1 := (show Hid _ from h1)
  have H2 := (show Hid _ from h2)
  clear hp hq ht h1 h2
  refine callsD_of_wpS Tryz.func41 rfl fun c₀ cs hu => ?_
  apply wpS_seq
  apply wpS_region
  simp [wpOpsS, go_sem, recoverD, hu, Tryz.ntmps41, Exit.thenS]
  refine wpS_of_wp ?_
  have hu' : Hid (c₀.mode = _) := hu
  clear hu
  have e0 : ∀ x y, eqGuard .eql 20 x y (.iface 94 (.int .i64 (i : Int))) .nilIface = pure () := fun x y => eqGuard_at_iface ..
  have e1 := ifn 94 (.int .i64 (i : Int))
  have e2 := ta_hit (.int .i64 (i : Int))
  generalize hV : Value.iface 94 (.int .i64 (i : Int)) = V at *
  have HV := (show Hid _ from hV)
  clear hV
  rw [show (#[Value.pointer (some ⟨p, 0, none⟩), Value.pointer (some ⟨q, 0, none⟩), Value.pointer (some ⟨t, 0, none⟩)] ++ (Array.replicate 16 undef).setIfInBounds 4 V : Array Value) = #[.pointer (some ⟨p, 0, none⟩), .pointer (some ⟨q, 0, none⟩), .pointer (some ⟨t, 0, none⟩), undef, undef, undef, undef, V, undef, undef, undef, undef, undef, undef, undef, undef, undef, undef, undef] from rfl]
  go_upto_region 7 with fail
  clear e0 e1 e2
  go_wp2_with (first | (refine stA rfl 41 _ _ rfl p (by rfl) zdl zdl (by rfl) 41 HP.out infoD rfl (by intro v hv; simp [zdl] at hv; rcases hv with rfl | rfl | rfl <;> rfl) ?_; intro w1 v1 u1; have HQ1 := (show Hid _ from HQ.out.upd u1 (by have := H1.out; omega)); have HT1 := (show Hid _ from HT.out.upd u1 (by have := H1.out; have := H2.out; omega)); have c1 := HQ1.out.cell 0 (v := x) rfl; have f1 := HQ1.out.free 0; have c2 := (HT1.out.set_other (q := q) (by have := H2.out; omega) 0 (.int .i64 (i : Int))).cell 0 (v := y) rfl; have f2 := (HT1.out.set_other (q := q) (by have := H2.out; omega) 0 (.int .i64 (i : Int))).free 0; have HV1 := (show Hid _ from v1); have HU := (show Hid _ from u1); clear u1 v1))
  have g1 := H1.out
  have g2 := H2.out
  have V1 := (HV1.out.set_other (q := q) (by omega) 0 (.int .i64 (i : Int))).set_other (q := t) (by omega) 0 (.int .i64 6)
  have V2 : VA _ q [.int .i64 (i : Int)] 3 := (HQ1.out.set 0 (.int .i64 (i : Int))).set_other (q := t) (by omega) 0 (.int .i64 6)
  have V3 : VA _ t [.int .i64 6] 25 := (HT1.out.set_other (q := q) (by omega) 0 (.int .i64 (i : Int))).set 0 (.int .i64 6)
  have V4 := ((HU.out.bel (Below.refl p w) (Nat.le_refl _)).setCell (p := ⟨q, 0, none⟩) (by show p ≤ q; omega) (.int .i64 (i : Int))).setCell (p := ⟨t, 0, none⟩) (by show p ≤ t; omega) (.int .i64 6)
  exact ⟨rfl, _, rfl, .tuple #[], by simp [results, Tryz.results41, go_sem], rfl, by first | rw [HV.out] | rfl, V1, V2, V3, V4⟩
end Go.Proofs.YteohncnjjgoemaaGreatDoor.dg
/- digits: Parse's deferred closure where the number is too great. -/
namespace Go.Proofs.YteohncnjjgoemaaGreatDoor.dg
open Go.RowKit
set_option linter.unusedVariables false
set_option linter.unusedSimpArgs false

set_option maxHeartbeats 2000000 in
theorem catch_great (p q t : Nat) (x y : Value) (w : World) (hp : VA w p zdl 41) (hq : VA w q [x] 3) (ht : VA w t [y] 25) (h1 : p < q) (h2 : q < t) :
    CallsD Tryz.prog 41 #[.pointer (some ⟨p, 0, none⟩), .pointer (some ⟨q, 0, none⟩), .pointer (some ⟨t, 0, none⟩)] (.panicking [{ v := .iface 96 (.agg #[]), recovered := false }]) w fun e u' w' => e = .returned (.tuple #[]) ∧ u' = (.panicking [{ v := .iface 96 (.agg #[]), recovered := true }])
      ∧ VA w' p zdl 41 ∧ VA w' q [.int .i64 0] 3 ∧ VA w' t [.int .i64 4] 25 ∧ Below p w w' := by
  have HP := (show Hid _ from hp)
  have HQ := (show Hid _ from hq)
  have HT := (show Hid _ from ht)
  have H1 := (show Hid _ from h1)
  have H2 := (show Hid _ from h2)
  clear hp hq ht h1 h2
  refine callsD_of_wpS Tryz.func41 rfl fun c₀ cs hu => ?_
  apply wpS_seq
  apply wpS_region
  simp [wpOpsS, go_sem, recoverD, hu, Tryz.ntmps41, Exit.thenS]
  refine wpS_of_wp ?_
  have hu' : Hid (c₀.mode = _) := hu
  clear hu
  have e0 : ∀ x y, eqGuard .eql 20 x y (.iface 96 (.agg #[])) .nilIface = pure () := fun x y => eqGuard_at_iface ..
  have e1 := ifn 96 (.agg #[])
  have e2 := ta_miss (.agg #[])
  have e3 := ta_great (.agg #[])
  generalize hV : Value.iface 96 (.agg #[]) = V at *
  have HV := (show Hid _ from hV)
  clear hV
  rw [show (#[Value.pointer (some ⟨p, 0, none⟩), Value.pointer (some ⟨q, 0, none⟩), Value.pointer (some ⟨t, 0, none⟩)] ++ (Array.replicate 16 undef).setIfInBounds 4 V : Array Value) = #[.pointer (some ⟨p, 0, none⟩), .pointer (some ⟨q, 0, none⟩), .pointer (some ⟨t, 0, none⟩), undef, undef, undef, undef, V, undef, undef, undef, undef, undef, undef, undef, undef, undef, undef, undef] from rfl]
  go_upto_region 10 with fail
  clear e0 e1 e2 e3
  have HA : Hid (Below p w (w.alloc (.cells #[] 96))) := (Below.refl p w).alloc (by have := HP.out.lt; omega) _
  replace HP := (show Hid _ from HP.out.alloc (.cells #[] 96))
  replace HQ := (show Hid _ from HQ.out.alloc (.cells #[] 96))
  replace HT := (show Hid _ from HT.out.alloc (.cells #[] 96))
  change Code.wp _ _ _ _ (w.alloc (.cells #[] 96))
  generalize w.alloc (.cells #[] 96) = wa at *
  go_wp2_with (first | (refine stA rfl 41 _ _ rfl p (by rfl) zdl zdl (by rfl) 41 HP.out infoD rfl (by intro v hv; simp [zdl] at hv; rcases hv with rfl | rfl | rfl <;> rfl) ?_; intro w1 v1 u1; have HQ1 := (show Hid _ from HQ.out.upd u1 (by have := H1.out; omega)); have HT1 := (show Hid _ from HT.out.upd u1 (by have := H1.out; have := H2.out; omega)); have c1 := HQ1.out.cell 0 (v := x) rfl; have f1 := HQ1.out.free 0; have c2 := (HT1.out.set_other (q := q) (by have := H2.out; omega) 0 (.int .i64 0)).cell 0 (v := y) rfl; have f2 := (HT1.out.set_other (q := q) (by have := H2.out; omega) 0 (.int .i64 0)).free 0; have HV1 := (show Hid _ from v1); have HU := (show Hid _ from u1); clear u1 v1))
  have g1 := H1.out
  have g2 := H2.out
  have V1 := (HV1.out.set_other (q := q) (by omega) 0 (.int .i64 0)).set_other (q := t) (by omega) 0 (.int .i64 4)
  have V2 : VA _ q [.int .i64 0] 3 := (HQ1.out.set 0 (.int .i64 0)).set_other (q := t) (by omega) 0 (.int .i64 4)
  have V3 : VA _ t [.int .i64 4] 25 := (HT1.out.set_other (q := q) (by omega) 0 (.int .i64 0)).set 0 (.int .i64 4)
  have V4 := ((HU.out.bel HA.out (Nat.le_refl _)).setCell (p := ⟨q, 0, none⟩) (by show p ≤ q; omega) (.int .i64 0)).setCell (p := ⟨t, 0, none⟩) (by show p ≤ t; omega) (.int .i64 4)
  exact ⟨rfl, _, rfl, .tuple #[], by simp [results, Tryz.results41, go_sem], rfl, by first | rw [HV.out] | rfl, V1, V2, V3, V4⟩
end Go.Proofs.YteohncnjjgoemaaGreatDoor.dg
/- digits: Parse. -/
namespace Go.Proofs.YteohncnjjgoemaaGreatDoor.dg
open Go.RowKit
set_option linter.unusedVariables false
set_option linter.unusedSimpArgs false

theorem infoE : (Tryz.prog.info? 25).map (·.size) = some 1 := by kernel_rfl
theorem hmf (fn : Fn) (first cap : Array Value) (w : World) : (Instr.makeFunc fn first cap).run Tryz.prog w = .ok (.func fn first cap) w := rfl
/-- the three named results' variables -/
def pwr (w : World) : World := ((w.alloc (.cells zdl.toArray 41)).alloc (.cells #[.int .i64 0] 3)).alloc (.cells #[.int .i64 0] 25)
structure PV (w w1 : World) : Prop where
  d : VA w1 w.heap.size zdl 41
  a : VA w1 (w.heap.size + 1) [.int .i64 0] 3
  e : VA w1 (w.heap.size + 2) [.int .i64 0] 25
  b : Below w.heap.size w w1
theorem pv_new (w : World) : PV w (pwr w) := by
  have h1 : (w.alloc (.cells zdl.toArray 41)).heap.size = w.heap.size + 1 := by simp
  have h2 : ((w.alloc (.cells zdl.toArray 41)).alloc (.cells #[.int .i64 0] 3)).heap.size = w.heap.size + 2 := by simp
  refine ⟨((va_new w zdl 41).alloc _).alloc _, ?_, ?_, ?_⟩
  · rw [← h1]; exact (va_new _ [.int .i64 0] 3).alloc _
  · rw [← h2]; exact va_new _ [.int .i64 0] 25
  · exact (((Below.refl w.heap.size w).alloc (Nat.le_refl _) _).alloc (by simp) _).alloc (by simp; omega) _
theorem PV.step {w w1 w2 : World} (h : PV w w1) (k : Below w1.heap.size w1 w2) : PV w w2 := ⟨h.d.step k, h.a.step k, h.e.step k, h.b.trans (k.mono h.b.size)⟩
set_option maxHeartbeats 1000000 in
theorem parse_fault (s : ByteArray) (i : Nat) (w : World) (hs : s.size ≤ 64)
    (hr : ∀ w, Calls Tryz.prog 42 #[.string s] w fun e w' => e = .panicked [{ v := .iface 94 (.int .i64 (i : Int)), recovered := false }] ∧ Below w.heap.size w w') :
    Calls Tryz.prog 20 #[.string s] w fun e w' => e = .returned (.tuple #[.agg zdl.toArray, .int .i64 (i : Int), .int .i64 6]) ∧ Below w.heap.size w w' := by
  have HR := (show Hid _ from hr)
  have hs' : ¬ ((64 : Int) < s.size) := by omega
  have mf := hmf
  clear hr hs
  go_enter_defers Tryz.func20, Tryz.ntmps20
  go_wp2_with fail
  refine (HR.out _).mono ?_
  rintro e w1 ⟨rfl, b1⟩
  have P1 : PV w w1 := (pv_new w).step b1
  clear b1
  go_wp2_with fail
  refine leaves_cons (f := 41) (args := #[.pointer (some ⟨w.heap.size, 0, none⟩), .pointer (some ⟨w.heap.size + 1, 0, none⟩), .pointer (some ⟨w.heap.size + 1 + 1, 0, none⟩)]) (by simp) (by simp [go_sem]) ?_
  refine (catch_fault w.heap.size (w.heap.size + 1) (w.heap.size + 1 + 1) i _ _ _ P1.d P1.a P1.e (by omega) (by omega)).mono ?_
  rintro e u' w2 ⟨rfl, rfl, vd, va, ve, bb⟩
  have d0 := vd.cell 0 (v := .int .i64 0) rfl
  have d1 := vd.cell 1 (v := .int .u64 0) rfl
  have d2 := vd.cell 2 (v := .int .i64 0) rfl
  have l1 := va.cell 0 (v := .int .i64 (i : Int)) rfl
  have l2 : World.cell? _ ⟨w.heap.size + 1 + 1, 0, none⟩ = some (.int .i64 6) := ve.cell 0 rfl
  have B2 := P1.b.trans bb
  simp [Leaves, settle, results, Tryz.results20, go_sem, asAddr, d0, d1, d2, l1, l2]
  first | exact ⟨_, rfl, rfl, B2⟩ | exact ⟨rfl, B2⟩ | exact B2
set_option maxHeartbeats 1000000 in
theorem parse_great (s : ByteArray) (w : World) (hs : s.size ≤ 64)
    (hr : ∀ w, Calls Tryz.prog 42 #[.string s] w fun e w' => e = .panicked [{ v := .iface 96 (.agg #[]), recovered := false }] ∧ Below w.heap.size w w') :
    Calls Tryz.prog 20 #[.string s] w fun e w' => e = .returned (.tuple #[.agg zdl.toArray, .int .i64 0, .int .i64 4]) ∧ Below w.heap.size w w' := by
  have HR := (show Hid _ from hr)
  have hs' : ¬ ((64 : Int) < s.size) := by omega
  have mf := hmf
  clear hr hs
  go_enter_defers Tryz.func20, Tryz.ntmps20
  go_wp2_with fail
  refine (HR.out _).mono ?_
  rintro e w1 ⟨rfl, b1⟩
  have P1 : PV w w1 := (pv_new w).step b1
  clear b1
  go_wp2_with fail
  refine leaves_cons (f := 41) (args := #[.pointer (some ⟨w.heap.size, 0, none⟩), .pointer (some ⟨w.heap.size + 1, 0, none⟩), .pointer (some ⟨w.heap.size + 1 + 1, 0, none⟩)]) (by simp) (by simp [go_sem]) ?_
  refine (catch_great w.heap.size (w.heap.size + 1) (w.heap.size + 1 + 1) _ _ _ P1.d P1.a P1.e (by omega) (by omega)).mono ?_
  rintro e u' w2 ⟨rfl, rfl, vd, va, ve, bb⟩
  have d0 := vd.cell 0 (v := .int .i64 0) rfl
  have d1 := vd.cell 1 (v := .int .u64 0) rfl
  have d2 := vd.cell 2 (v := .int .i64 0) rfl
  have l1 := va.cell 0 (v := .int .i64 0) rfl
  have l2 : World.cell? _ ⟨w.heap.size + 1 + 1, 0, none⟩ = some (.int .i64 4) := ve.cell 0 rfl
  have B2 := P1.b.trans bb
  simp [Leaves, settle, results, Tryz.results20, go_sem, asAddr, d0, d1, d2, l1, l2]
  first | exact ⟨_, rfl, rfl, B2⟩ | exact ⟨rfl, B2⟩ | exact B2
set_option maxHeartbeats 1000000 in
theorem parse_ok (s : ByteArray) (c : Int) (sc : Nat) (w : World) (hs : s.size ≤ 64)
    (hr : ∀ w, Calls Tryz.prog 42 #[.string s] w fun e w' => e = .returned (.agg (dcs c sc).toArray) ∧ Below w.heap.size w w') :
    Calls Tryz.prog 20 #[.string s] w fun e w' => e = .returned (.tuple #[.agg (dcs c sc).toArray, .int .i64 0, .int .i64 0]) ∧ Below w.heap.size w w' := by
  have HR := (show Hid _ from hr)
  have hs' : ¬ ((64 : Int) < s.size) := by omega
  have mf := hmf
  clear hr hs
  go_enter_defers Tryz.func20, Tryz.ntmps20
  go_wp2_with fail
  refine (HR.out _).mono ?_
  rintro e w1 ⟨rfl, b1⟩
  have P1 := (show Hid _ from (pv_new w).step b1)
  clear b1
  go_wp2_with (refine stA rfl 41 _ _ rfl w.heap.size (by rfl) zdl (dcs c sc) (by rfl) 41 P1.out.d infoD rfl (dcs_one _ _) ?_; intro w2 v2 u2; have HA := (show Hid _ from P1.out.a.upd u2 (by omega)); have HE := (show Hid _ from P1.out.e.upd u2 (by omega)); have c1 := HA.out.cell 0 (v := .int .i64 0) rfl; have f1 := HA.out.free 0; have c2 := (HE.out.set_other (q := w.heap.size + 1) (by omega) 0 (.int .i64 0)).cell 0 (v := .int .i64 0) rfl; have f2 := (HE.out.set_other (q := w.heap.size + 1) (by omega) 0 (.int .i64 0)).free 0; have HV2 := (show Hid _ from v2); have HU := (show Hid _ from u2); clear u2 v2)
  refine leaves_cons (f := 41) (args := #[.pointer (some ⟨w.heap.size, 0, none⟩), .pointer (some ⟨w.heap.size + 1, 0, none⟩), .pointer (some ⟨w.heap.size + 1 + 1, 0, none⟩)]) (by simp) (by simp [go_sem]) ?_
  refine (catch_idle _ _ _ _).mono ?_
  rintro e u' w3 ⟨rfl, rfl, hw⟩
  have vd := (HV2.out.set_other (q := w.heap.size + 1) (by omega) 0 (.int .i64 0)).set_other (q := w.heap.size + 2) (by omega) 0 (.int .i64 0)
  have va : VA _ (w.heap.size + 1) [.int .i64 0] 3 := (HA.out.set 0 (.int .i64 0)).set_other (q := w.heap.size + 2) (by omega) 0 (.int .i64 0)
  have ve : VA _ (w.heap.size + 2) [.int .i64 0] 25 := (HE.out.set_other (q := w.heap.size + 1) (by omega) 0 (.int .i64 0)).set 0 (.int .i64 0)
  have B2 := ((HU.out.bel P1.out.b (Nat.le_refl _)).setCell (p := ⟨w.heap.size + 1, 0, none⟩) (by show _ ≤ w.heap.size + 1; omega) (.int .i64 0)).setCell (p := ⟨w.heap.size + 2, 0, none⟩) (by show _ ≤ w.heap.size + 2; omega) (.int .i64 0)
  have hw' : w3 = (w2.setCell ⟨w.heap.size + 1, 0, none⟩ (.int .i64 0)).setCell ⟨w.heap.size + 2, 0, none⟩ (.int .i64 0) := hw
  rw [← hw'] at vd va ve B2
  have d0 := vd.cell 0 (v := .int .i64 (dhi c)) rfl
  have d1 := vd.cell 1 (v := .int .u64 (dlo c)) rfl
  have d2 := vd.cell 2 (v := .int .i64 (sc : Int)) rfl
  have l1 := va.cell 0 (v := .int .i64 0) rfl
  have l2 : World.cell? _ ⟨w.heap.size + 1 + 1, 0, none⟩ = some (.int .i64 0) := ve.cell 0 rfl
  clear hw hw'
  simp [Leaves, settle, results, Tryz.results20, go_sem, asAddr, d0, d1, d2, l1, l2]
  first | exact ⟨_, rfl, rfl, B2⟩ | exact ⟨rfl, B2⟩ | exact B2
set_option maxHeartbeats 1000000 in
theorem parse_long (s : ByteArray) (w : World) (hs : 64 < s.size) :
    Calls Tryz.prog 20 #[.string s] w fun e w' => e = .returned (.tuple #[.agg zdl.toArray, .int .i64 0, .int .i64 2]) ∧ Below w.heap.size w w' := by
  have hs' : ((64 : Int) < s.size) := by omega
  have mf := hmf
  clear hs
  have P1 := (show Hid _ from pv_new w)
  go_enter_defers Tryz.func20, Tryz.ntmps20
  go_upto_region 2 with fail
  change Code.wp _ _ _ _ (pwr w)
  generalize pwr w = w1 at *
  go_wp2_with (refine stA rfl 41 _ _ rfl w.heap.size (by rfl) zdl zdl (by rfl) 41 P1.out.d infoD rfl (by intro v hv; simp [zdl] at hv; rcases hv with rfl | rfl | rfl <;> rfl) ?_; intro w2 v2 u2; have HA := (show Hid _ from P1.out.a.upd u2 (by omega)); have HE := (show Hid _ from P1.out.e.upd u2 (by omega)); have c1 := HA.out.cell 0 (v := .int .i64 0) rfl; have f1 := HA.out.free 0; have c2 := (HE.out.set_other (q := w.heap.size + 1) (by omega) 0 (.int .i64 0)).cell 0 (v := .int .i64 0) rfl; have f2 := (HE.out.set_other (q := w.heap.size + 1) (by omega) 0 (.int .i64 0)).free 0; have HV2 := (show Hid _ from v2); have HU := (show Hid _ from u2); clear u2 v2)
  have vd := (HV2.out.set_other (q := w.heap.size + 1) (by omega) 0 (.int .i64 0)).set_other (q := w.heap.size + 1 + 1) (by omega) 0 (.int .i64 2)
  have va : VA _ (w.heap.size + 1) [.int .i64 0] 3 := (HA.out.set 0 (.int .i64 0)).set_other (q := w.heap.size + 1 + 1) (by omega) 0 (.int .i64 2)
  have ve : VA _ (w.heap.size + 1 + 1) [.int .i64 2] 25 := (HE.out.set_other (q := w.heap.size + 1) (by omega) 0 (.int .i64 0)).set 0 (.int .i64 2)
  have B2 := ((HU.out.bel P1.out.b (Nat.le_refl _)).setCell (p := ⟨w.heap.size + 1, 0, none⟩) (by show _ ≤ w.heap.size + 1; omega) (.int .i64 0)).setCell (p := ⟨w.heap.size + 1 + 1, 0, none⟩) (by show _ ≤ w.heap.size + 1 + 1; omega) (.int .i64 2)
  generalize (w2.setCell ⟨w.heap.size + 1, 0, none⟩ (.int .i64 0)).setCell ⟨w.heap.size + 1 + 1, 0, none⟩ (.int .i64 2) = w3 at *
  have d0 := vd.cell 0 (v := .int .i64 0) rfl
  have d1 := vd.cell 1 (v := .int .u64 0) rfl
  have d2 := vd.cell 2 (v := .int .i64 0) rfl
  have l1 := va.cell 0 (v := .int .i64 0) rfl
  have l2 : World.cell? _ ⟨w.heap.size + 1 + 1, 0, none⟩ = some (.int .i64 2) := ve.cell 0 rfl
  simp [bodyPostD, Leaves, settle, results, Tryz.results20, go_sem, asAddr, d0, d1, d2, l1, l2]
  first | exact ⟨_, rfl, rfl, B2⟩ | exact ⟨rfl, B2⟩ | exact B2
end Go.Proofs.YteohncnjjgoemaaGreatDoor.dg
/- digits: Parse in plain numbers. -/
namespace Go.Proofs.YteohncnjjgoemaaGreatDoor.dg
open Go.RowKit
set_option linter.unusedVariables false
set_option linter.unusedSimpArgs false

/-- the byte at a place; 256 behind the end -/
def bt (s : ByteArray) (i : Nat) : Nat := if h : i < s.size then s[i].toNat else 256
theorem bt_in {s : ByteArray} {i : Nat} (h : i < s.size) : bt s i = s[i].toNat := by unfold bt; rw [dif_pos h]
theorem bt_lt {s : ByteArray} {i : Nat} : bt s i < 256 ↔ i < s.size := by
  unfold bt
  by_cases h : i < s.size
  · simp [h]; exact s[i].toNat_lt
  · simp [h]
theorem isDg_iff {s : ByteArray} {i : Nat} : isDg s i ↔ 48 ≤ bt s i ∧ bt s i ≤ 57 := by
  constructor
  · rintro ⟨h, a, b⟩; rw [bt_in h]; exact ⟨a, b⟩
  · rintro ⟨a, b⟩
    have h : i < s.size := bt_lt.1 (by omega)
    rw [bt_in h] at a b
    exact ⟨h, a, b⟩
theorem dgt_bt {s : ByteArray} {i : Nat} (h : i < s.size) : dgt s i = bt s i - 48 := by unfold dgt bt; rw [dif_pos h, dif_pos h]
theorem bt_ne {s : ByteArray} {i c : Nat} (hc : bt s i ≠ c) : ∀ h : i < s.size, s[i].toNat ≠ c := fun h e => hc (by rw [bt_in h]; exact e)
/-- the number that n digits from i on make, behind M -/
def nv (s : ByteArray) (i M : Nat) : Nat → Nat
  | 0 => M
  | n + 1 => 10 * nv s i M n + dgt s (i + n)
def B127 : Nat := 170141183460469231731687303715884105728
theorem nv_mono {s : ByteArray} {i M : Nat} : ∀ n, M ≤ nv s i M n
  | 0 => Nat.le_refl _
  | n + 1 => by have := nv_mono (s := s) (i := i) (M := M) n; simp only [nv]; omega
theorem fld_true {s : ByteArray} {i M : Nat} : ∀ n, (fld s i M true n) = (M, true)
  | 0 => rfl
  | n + 1 => by simp [fld, fld_true n, stpM, stpB]
theorem fld_nv {s : ByteArray} {i M : Nat} : ∀ n, (nv s i M n < B127 → fld s i M false n = (nv s i M n, false)) ∧ (¬ nv s i M n < B127 → M < B127 → (fld s i M false n).2 = true ∧ (fld s i M false n).1 ≠ 0)
  | 0 => ⟨fun _ => rfl, fun h h2 => absurd h2 h⟩
  | n + 1 => by
    obtain ⟨h1, h2⟩ := fld_nv (s := s) (i := i) (M := M) n
    constructor
    · intro h
      have hn : nv s i M n < B127 := by simp only [nv] at h; omega
      simp only [fld, h1 hn, nv]
      simp only [nv] at h
      simp [stpM, stpB, h, show (170141183460469231731687303715884105728 : Nat) = B127 from rfl]
    · intro h hM
      by_cases hn : nv s i M n < B127
      · simp only [fld, h1 hn]
        simp only [nv] at h
        have hd : dgt s (i + n) < 208 := by
          unfold dgt
          split
          · next hx => have := s[i + n].toNat_lt; omega
          · omega
        have h0 : nv s i M n ≠ 0 := by
          intro e
          rw [e] at h
          unfold B127 at h
          omega
        simp [stpM, stpB, h, h0, show (170141183460469231731687303715884105728 : Nat) = B127 from rfl]
      · obtain ⟨a, b⟩ := h2 hn hM
        simp [fld, stpM, stpB, a, b]
/-- a minus, or none -/
structure Mins (s : ByteArray) (neg : Bool) (i : Nat) : Prop where
  h : (neg = true ∧ bt s 0 = 45 ∧ i = 1) ∨ (neg = false ∧ bt s 0 ≠ 45 ∧ i = 0)
/-- the digits in front: up to j, the number V -/
structure Whol (s : ByteArray) (i j V : Nat) : Prop where
  h : (bt s i = 48 ∧ j = i + 1 ∧ V = 0) ∨ (bt s i ≠ 48 ∧ ∃ n, 1 ≤ n ∧ j = i + n ∧ (∀ k, k < n → isDg s (i + k)) ∧ ¬ isDg s j ∧ V = nv s i 0 n)
/-- the point and the digits behind it -/
structure Frac (s : ByteArray) (j f sc V1 V : Nat) : Prop where
  h : (bt s j ≠ 46 ∧ f = j ∧ sc = 0 ∧ V = V1) ∨ (bt s j = 46 ∧ 1 ≤ sc ∧ sc ≤ 18 ∧ f = j + 1 + sc ∧ (∀ k, k < sc → isDg s (j + 1 + k)) ∧ (sc = 18 ∨ ¬ isDg s f) ∧ V = nv s (j + 1) V1 sc)
theorem Mins.le {s : ByteArray} {neg : Bool} {i : Nat} (h : Mins s neg i) : i ≤ s.size := by
  rcases h.h with ⟨_, h1, rfl⟩ | ⟨_, _, rfl⟩
  · exact bt_lt.1 (by omega)
  · exact Nat.zero_le _
theorem Whol.le {s : ByteArray} {i j V : Nat} (h : Whol s i j V) : j ≤ s.size ∧ i < j := by
  rcases h.h with ⟨h1, rfl, _⟩ | ⟨_, n, hn, rfl, hd, _⟩
  · exact ⟨bt_lt.1 (by omega), by omega⟩
  · obtain ⟨hx, _⟩ := hd (n - 1) (by omega)
    omega
theorem Mins.take {s : ByteArray} {neg : Bool} {i : Nat} (hm : Mins s neg i) (hs : s.size ≤ 64) : ∀ r w, RD w r s 0 0 false → Calls Tryz.prog 73 #[.pointer (some ⟨r, 0, none⟩), .int .u8 45] w fun e w' => e = .returned (.bool neg) ∧ RD w' r s i 0 false ∧ Below r w w' := by
  intro r w V
  rcases hm.h with ⟨rfl, h1, rfl⟩ | ⟨rfl, h1, rfl⟩
  · have h : 0 < s.size := bt_lt.1 (by omega)
    exact take_t r s 0 0 false 45 w V hs h (by rw [← bt_in h]; exact h1)
  · exact take_f r s 0 0 false 45 w V (Nat.zero_le _) (bt_ne h1)
theorem Whol.call {s : ByteArray} {i j V : Nat} (hw : Whol s i j V) (hs : s.size ≤ 64) : ∃ M1 b1, M1 < 170141183460469231731687303715884105728 ∧ (V < B127 → M1 = V ∧ b1 = false) ∧ (¬ V < B127 → b1 = true ∧ M1 ≠ 0) ∧ ∀ r w, RD w r s i 0 false → Calls Tryz.prog 74 #[.pointer (some ⟨r, 0, none⟩)] w fun e w' => e = .returned (.tuple #[]) ∧ RD w' r s j M1 b1 ∧ Below r w w' := by
  rcases hw.h with ⟨h1, rfl, rfl⟩ | ⟨h0, n, hn, rfl, hd, hx, rfl⟩
  · have h : i < s.size := bt_lt.1 (by omega)
    exact ⟨0, false, by decide, fun _ => ⟨rfl, rfl⟩, fun h => absurd (by decide) h, fun r w V => whole_zero r s i 0 false w V hs h (by rw [← bt_in h]; exact h1)⟩
  · obtain ⟨hz, _⟩ := hd (n - 1) (by omega)
    refine ⟨(fld s i 0 false n).1, (fld s i 0 false n).2, fld_lt (by decide) n, fun h => ?_, fun h => ?_, fun r w V => whole_run r s i 0 n false w V (by decide) hs (bt_ne h0) hn (by omega) hd hx⟩
    · rw [(fld_nv n).1 h]; exact ⟨rfl, rfl⟩
    · exact (fld_nv n).2 h (by decide)
theorem Frac.call {s : ByteArray} {j f sc V1 V M1 : Nat} {b1 : Bool} (hf : Frac s j f sc V1 V) (hs : s.size ≤ 64) (hj : j ≤ s.size) (hM : M1 < 170141183460469231731687303715884105728) (h1 : V1 < B127 → M1 = V1 ∧ b1 = false) (h2 : ¬ V1 < B127 → b1 = true ∧ M1 ≠ 0) :
    ∃ M b, M < 170141183460469231731687303715884105728 ∧ (V < B127 → M = V ∧ b = false) ∧ (¬ V < B127 → b = true ∧ M ≠ 0) ∧ ∀ r w, RD w r s j M1 b1 → Calls Tryz.prog 75 #[.pointer (some ⟨r, 0, none⟩)] w fun e w' => e = .returned (.int .i64 (sc : Int)) ∧ RD w' r s f M b ∧ Below r w w' := by
  rcases hf.h with ⟨h0, rfl, rfl, rfl⟩ | ⟨h0, hn, hn18, rfl, hd, hx, rfl⟩
  · exact ⟨M1, b1, hM, h1, h2, fun r w V => frac_none r s f M1 b1 w V hj (bt_ne h0)⟩
  · have h : j < s.size := bt_lt.1 (by omega)
    obtain ⟨hz, _⟩ := hd (sc - 1) (by omega)
    refine ⟨(fld s (j + 1) M1 b1 sc).1, (fld s (j + 1) M1 b1 sc).2, fld_lt hM sc, fun hV => ?_, fun hV => ?_, fun r w V => frac_run r s j M1 sc b1 w V hM hs h (by rw [← bt_in h]; exact h0) hn hn18 (by omega) hd hx⟩
    · have hV1 : V1 < B127 := Nat.lt_of_le_of_lt (nv_mono sc) hV
      obtain ⟨rfl, rfl⟩ := h1 hV1
      rw [(fld_nv sc).1 hV]
      exact ⟨rfl, rfl⟩
    · by_cases hV1 : V1 < B127
      · obtain ⟨rfl, rfl⟩ := h1 hV1
        exact (fld_nv sc).2 hV hM
      · obtain ⟨rfl, h0⟩ := h2 hV1
        rw [fld_true]
        exact ⟨rfl, h0⟩
theorem Frac.le {s : ByteArray} {j f sc V1 V : Nat} (h : Frac s j f sc V1 V) (hj : j ≤ s.size) : f ≤ s.size ∧ sc ≤ 18 := by
  rcases h.h with ⟨_, rfl, rfl, _⟩ | ⟨_, hn, h18, rfl, hd, _⟩
  · exact ⟨hj, by omega⟩
  · obtain ⟨hx, _⟩ := hd (sc - 1) (by omega)
    omega
theorem parts_of {s : ByteArray} {neg : Bool} {i j V1 f sc V : Nat} (hm : Mins s neg i) (hw : Whol s i j V1) (hf : Frac s j f sc V1 V) (hs : s.size ≤ 64) :
    ∃ M1 b1 M b, M < 170141183460469231731687303715884105728 ∧ (V < B127 → M = V ∧ b = false) ∧ (¬ V < B127 → b = true ∧ M ≠ 0) ∧ Parts s neg i j M1 f M sc b1 b := by
  obtain ⟨M1, b1, hM1, a1, a2, c1⟩ := hw.call hs
  obtain ⟨M, b, hM, d1, d2, c2⟩ := hf.call hs hw.le.1 hM1 a1 a2
  exact ⟨M1, b1, M, b, hM, d1, d2, ⟨hm.take hs, c1, c2⟩⟩
/-- no digit in front -/
theorem p_none {s : ByteArray} {neg : Bool} {i : Nat} (hm : Mins s neg i) (hs : s.size ≤ 64) (hx : ¬ isDg s i) (w : World) :
    Calls Tryz.prog 20 #[.string s] w fun e w' => e = .returned (.tuple #[.agg zdl.toArray, .int .i64 (i : Int), .int .i64 6]) ∧ Below w.heap.size w w' :=
  parse_fault s i w hs fun w => read_wfault s neg i w (hm.take hs) fun r w V => whole_fault r s i 0 false w V hm.le hx
/-- no digit behind the point -/
theorem p_point {s : ByteArray} {neg : Bool} {i j V1 : Nat} (hm : Mins s neg i) (hw : Whol s i j V1) (hs : s.size ≤ 64) (hp : bt s j = 46) (hx : ¬ isDg s (j + 1)) (w : World) :
    Calls Tryz.prog 20 #[.string s] w fun e w' => e = .returned (.tuple #[.agg zdl.toArray, .int .i64 ((j + 1 : Nat) : Int), .int .i64 6]) ∧ Below w.heap.size w w' := by
  obtain ⟨M1, b1, hM1, a1, a2, c1⟩ := hw.call hs
  have h : j < s.size := bt_lt.1 (by omega)
  exact parse_fault s (j + 1) w hs fun w => read_ffault s neg i w j M1 b1 (hm.take hs) c1 fun r w V => frac_fault r s j M1 b1 w V hs h (by rw [← bt_in h]; exact hp) hx
/-- something behind the number -/
theorem p_more {s : ByteArray} {neg : Bool} {i j V1 f sc V : Nat} (hm : Mins s neg i) (hw : Whol s i j V1) (hf : Frac s j f sc V1 V) (hs : s.size ≤ 64) (h : f < s.size) (w : World) :
    Calls Tryz.prog 20 #[.string s] w fun e w' => e = .returned (.tuple #[.agg zdl.toArray, .int .i64 (f : Int), .int .i64 6]) ∧ Below w.heap.size w w' := by
  obtain ⟨M1, b1, M, b, hM, d1, d2, P⟩ := parts_of hm hw hf hs
  exact parse_fault s f w hs fun w => read_fault s neg i j M1 f M sc b1 b w P h
/-- nought with a minus -/
theorem p_nought {s : ByteArray} {i j V1 f sc : Nat} (hm : Mins s true i) (hw : Whol s i j V1) (hf : Frac s j f sc V1 0) (hs : s.size ≤ 64) (h : f = s.size) (w : World) :
    Calls Tryz.prog 20 #[.string s] w fun e w' => e = .returned (.tuple #[.agg zdl.toArray, .int .i64 0, .int .i64 6]) ∧ Below w.heap.size w w' := by
  obtain ⟨M1, b1, M, b, hM, d1, d2, P⟩ := parts_of hm hw hf hs
  obtain ⟨rfl, rfl⟩ := d1 (by decide)
  exact parse_fault s 0 w hs fun w => read_nought s true i j M1 f 0 sc b1 false w P h rfl rfl
/-- too great -/
theorem p_great {s : ByteArray} {neg : Bool} {i j V1 f sc V : Nat} (hm : Mins s neg i) (hw : Whol s i j V1) (hf : Frac s j f sc V1 V) (hs : s.size ≤ 64) (h : f = s.size) (hV : ¬ V < B127) (w : World) :
    Calls Tryz.prog 20 #[.string s] w fun e w' => e = .returned (.tuple #[.agg zdl.toArray, .int .i64 0, .int .i64 4]) ∧ Below w.heap.size w w' := by
  obtain ⟨M1, b1, M, b, hM, d1, d2, P⟩ := parts_of hm hw hf hs
  obtain ⟨rfl, h0⟩ := d2 hV
  cases neg with
  | false => exact parse_great s w hs fun w => read_great_pos s false i j M1 f M sc b1 true w P h rfl rfl
  | true => exact parse_great s w hs fun w => read_great_neg s true i j M1 f M sc b1 true w P h rfl rfl h0
/-- a number -/
def sg (neg : Bool) (V : Nat) : Int := if neg then -(V : Int) else V
theorem p_yes {s : ByteArray} {neg : Bool} {i j V1 f sc V : Nat} (hm : Mins s neg i) (hw : Whol s i j V1) (hf : Frac s j f sc V1 V) (hs : s.size ≤ 64) (h : f = s.size) (hV : V < B127) (hn : neg = true → V ≠ 0) (w : World) :
    Calls Tryz.prog 20 #[.string s] w fun e w' => e = .returned (.tuple #[.agg (dcs (sg neg V) sc).toArray, .int .i64 0, .int .i64 0]) ∧ Below w.heap.size w w' := by
  obtain ⟨M1, b1, M, b, hM, d1, d2, P⟩ := parts_of hm hw hf hs
  obtain ⟨rfl, rfl⟩ := d1 hV
  have hsc := (hf.le hw.le.1).2
  cases neg with
  | false => exact parse_ok s (sg false M) sc w hs fun w => read_pos s false i j M1 f M sc b1 false w P h rfl rfl hM (by omega)
  | true => exact parse_ok s (sg true M) sc w hs fun w => read_neg s true i j M1 f M sc b1 false w P h rfl rfl (hn rfl) hM (by omega)
end Go.Proofs.YteohncnjjgoemaaGreatDoor.dg
