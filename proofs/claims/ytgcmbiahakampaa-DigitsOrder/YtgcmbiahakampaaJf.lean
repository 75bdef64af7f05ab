/- digits: the reader: keep. -/
import Derived.Test.YtgcmbiahakampaaJe
namespace Go.Proofs.Ytgcmbiahakampaa
open Go.RowKit
set_option linter.unusedVariables false
set_option linter.unusedSimpArgs false

theorem keep_beyond (r : Nat) (s : ByteArray) (i m0 m1 : Nat) (d : Int) (w : World) (V : VA w r (rc s i m0 m1 true) 85) :
    Calls Try.prog 59 #[.pointer (some ⟨r, 0, none⟩), .int .u8 d] w fun e w' => e = .returned (.tuple #[]) ∧ VA w' r (rc s i m0 m1 true) 85 ∧ Below r w w' := by
  have b1 := V.cell 4 (v := .bool true) rfl
  have HV := (show Hid _ from V)
  clear V
  go_enter Try.func59, Try.ntmps59
  go_wp2_with fail
  first | exact bodyPost_end (v := .tuple #[]) (by simp [results, Try.results59, go_sem]) rfl ⟨rfl, HV.out, Below.refl _ _⟩ | exact bodyPost_ret (v := .tuple #[]) (by simp [results, Try.results59, go_sem]) rfl ⟨rfl, HV.out, Below.refl _ _⟩
set_option maxHeartbeats 1000000 in
theorem keep_ok (r : Nat) (s : ByteArray) (i m0 m1 l1 h3 : Nat) (d : Int) (w : World) (V : VA w r (rc s i m0 m1 false) 85)
    (hw : ∀ w, Calls Try.prog 62 #[.agg (zc m0 m1).toArray, .int .u8 d] w fun e w' => e = .returned (.tuple #[.agg (zc l1 h3).toArray, .bool true]) ∧ Below w.heap.size w w') :
    Calls Try.prog 59 #[.pointer (some ⟨r, 0, none⟩), .int .u8 d] w fun e w' => e = .returned (.tuple #[]) ∧ VA w' r (rc s i l1 h3 false) 85 ∧ Below r w w' := by
  have b1 := V.cell 4 (v := .bool false) rfl
  have s0 := V.cell 2 (v := .int .u64 (m0 : Int)) rfl
  have s1 := V.cell 3 (v := .int .u64 (m1 : Int)) rfl
  have HL : Hid (r < w.heap.size) := V.lt
  have HV := (show Hid _ from V)
  clear V
  simp only [zc] at hw
  go_enter Try.func59, Try.ntmps59
  go_wp2_with fail
  clear b1 s0 s1
  refine (hw _).mono ?_
  rintro e w1 ⟨rfl, b1⟩
  have HV1 := (show Hid _ from HV.out.step b1)
  have HB1 := (show Hid (Below r w w1) from b1.mono (Nat.le_of_lt HL.out))
  have HL1 : Hid (r < w1.heap.size) := Nat.lt_of_lt_of_le HL.out b1.size
  clear b1 HV HL
  go_upto_region 2 with fail
  change Code.wp _ _ _ _ (w1.alloc (.cells (zc l1 h3).toArray 48))
  have HN := (show Hid _ from va_new w1 (zc l1 h3) 48)
  have HV2 := (show Hid _ from HV1.out.alloc (.cells (zc l1 h3).toArray 48))
  have HB2 := (show Hid _ from HB1.out.alloc (Nat.le_of_lt HL1.out) (.cells (zc l1 h3).toArray 48))
  clear HV1 HB1
  obtain ⟨q, hq⟩ : ∃ q, q = w1.heap.size := ⟨_, rfl⟩
  rw [← hq] at HN HL1
  rw [← hq]
  generalize w1.alloc (.cells (zc l1 h3).toArray 48) = w2 at *
  clear hq
  have n0 := HN.out.cell 0 (v := .int .u64 (l1 : Int)) rfl
  have n1 := HN.out.cell 1 (v := .int .u64 (h3 : Int)) rfl
  have r2 := HV2.out.cell 2 (v := .int .u64 (m0 : Int)) rfl
  have f2 := HV2.out.free 2
  have V3 := HV2.out.set 2 (.int .u64 (l1 : Int))
  have r3 := V3.cell 3 (v := .int .u64 (m1 : Int)) rfl
  have f3 := V3.free 3
  have HV4 := (show Hid _ from V3.set 3 (.int .u64 (h3 : Int)))
  have HB4 := (show Hid _ from (HB2.out.setCell (p := ⟨r, 2, none⟩) (Nat.le_refl _) (.int .u64 (l1 : Int))).setCell (p := ⟨r, 3, none⟩) (Nat.le_refl _) (.int .u64 (h3 : Int)))
  clear V3
  go_wp2_with fail
  first | exact bodyPost_end (v := .tuple #[]) (by simp [results, Try.results59, go_sem]) rfl ⟨rfl, HV4.out, HB4.out⟩ | exact bodyPost_ret (v := .tuple #[]) (by simp [results, Try.results59, go_sem]) rfl ⟨rfl, HV4.out, HB4.out⟩
set_option maxHeartbeats 1000000 in
theorem keep_over (r : Nat) (s : ByteArray) (i m0 m1 l1 h3 : Nat) (d : Int) (w : World) (V : VA w r (rc s i m0 m1 false) 85)
    (hw : ∀ w, Calls Try.prog 62 #[.agg (zc m0 m1).toArray, .int .u8 d] w fun e w' => e = .returned (.tuple #[.agg (zc l1 h3).toArray, .bool false]) ∧ Below w.heap.size w w') :
    Calls Try.prog 59 #[.pointer (some ⟨r, 0, none⟩), .int .u8 d] w fun e w' => e = .returned (.tuple #[]) ∧ VA w' r (rc s i m0 m1 true) 85 ∧ Below r w w' := by
  have b1 := V.cell 4 (v := .bool false) rfl
  have s0 := V.cell 2 (v := .int .u64 (m0 : Int)) rfl
  have s1 := V.cell 3 (v := .int .u64 (m1 : Int)) rfl
  have HL : Hid (r < w.heap.size) := V.lt
  have HV := (show Hid _ from V)
  clear V
  simp only [zc] at hw
  go_enter Try.func59, Try.ntmps59
  go_wp2_with fail
  clear b1 s0 s1
  refine (hw _).mono ?_
  rintro e w1 ⟨rfl, b1⟩
  have HV1 := (show Hid _ from HV.out.step b1)
  have HB1 := (show Hid (Below r w w1) from b1.mono (Nat.le_of_lt HL.out))
  have HL1 : Hid (r < w1.heap.size) := Nat.lt_of_lt_of_le HL.out b1.size
  clear b1 HV HL
  go_upto_region 2 with fail
  change Code.wp _ _ _ _ (w1.alloc (.cells (zc l1 h3).toArray 48))
  have HN := (show Hid _ from va_new w1 (zc l1 h3) 48)
  have HV2 := (show Hid _ from HV1.out.alloc (.cells (zc l1 h3).toArray 48))
  have HB2 := (show Hid _ from HB1.out.alloc (Nat.le_of_lt HL1.out) (.cells (zc l1 h3).toArray 48))
  clear HV1 HB1
  obtain ⟨q, hq⟩ : ∃ q, q = w1.heap.size := ⟨_, rfl⟩
  rw [← hq] at HN HL1
  rw [← hq]
  generalize w1.alloc (.cells (zc l1 h3).toArray 48) = w2 at *
  clear hq
  have r4 := HV2.out.cell 4 (v := .bool false) rfl
  have f4 := HV2.out.free 4
  have HV4 := (show Hid _ from HV2.out.set 4 (.bool true))
  have HB4 := (show Hid _ from HB2.out.setCell (p := ⟨r, 4, none⟩) (Nat.le_refl _) (.bool true))
  go_wp2_with fail
  first | exact bodyPost_end (v := .tuple #[]) (by simp [results, Try.results59, go_sem]) rfl ⟨rfl, HV4.out, HB4.out⟩ | exact bodyPost_ret (v := .tuple #[]) (by simp [results, Try.results59, go_sem]) rfl ⟨rfl, HV4.out, HB4.out⟩
end Go.Proofs.Ytgcmbiahakampaa
