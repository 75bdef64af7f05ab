/- event: awake. -/
import Derived.Test.YtcognhhbpapibaaDoorEm
namespace Go.Proofs.YtcognhhbpapibaaDoor
open Go.RowKit
set_option linter.unusedVariables false

/-- the document's first example -/
def x0 : E8 := ⟨3, 300, [7, 0, 0, 0, 0, 0, 0, 0], []⟩
theorem x0_ok : x0.ok := ⟨by decide, by decide, rfl, by decide⟩
theorem x0_form : x0.form := ⟨by decide, by decide, by decide, fun i h1 h2 => by
  have : ∀ j : Fin 8, 1 ≤ j.val → x0.ns.getD j.val 0 = 0 := by decide
  exact this ⟨i, h2⟩ h1⟩
theorem x0_wf : ∀ t ∈ x0.ts, I64 t.1 ∧ I64 t.2 := fun t h => by cases h
theorem x0_bytes : x0.bytes = [3, 172, 2, 14] := by
  have h7 : enc (zz 7) = [14] := by rw [show zz 7 = 14 by decide, enc_lo (by omega)]
  show [3] ++ enc 300 ++ ([] ++ enc (zz 7)) ++ (if (3 : Nat) = 1 then enc 0 ++ tbs [] 0 else []) = _
  rw [enc300, h7]
  rfl
set_option maxHeartbeats 2000000 in
set_option maxRecDepth 100000 in
theorem awake_ok (w : World) (T : Tc w) : Calls Tryd.prog 7 #[] w fun e w' => e = .returned (.bool true) ∧ Below w.heap.size w w' := by
  have hw0 := T.lt
  have HT := (show Hid _ from T)
  clear T
  go_enter Tryd.func7, Tryd.ntmps7
  go_wp2_with (first
    | (refine stA rfl 26 _ _ rfl w.heap.size (by rfl) (E8.cells ⟨0, 0, List.replicate 8 0, []⟩ (.slice none 0 0)) (E8.cells ⟨3, 300, List.replicate 8 0, []⟩ (.slice none 0 0)) (by rfl) 26 (va_new w (E8.cells ⟨0, 0, List.replicate 8 0, []⟩ (.slice none 0 0)) 26) (info26.trans rfl) rfl (fun u hu => ev_one hu) ?_; intro w1 V1 U1; have B1 := U1.bel ((Below.refl w.heap.size w).alloc (Nat.le_refl _) (.cells (E8.cells ⟨0, 0, List.replicate 8 0, []⟩ (.slice none 0 0)).toArray 26)) (Nat.le_refl _); have V2 : VA (w1.setCell ⟨w.heap.size, 2, none⟩ (.int .i64 7)) w.heap.size (x0.cells (.slice none 0 0)) 26 := V1.set 2 (.int .i64 7); have c2 := V1.cell 2 (v := .int .i64 0) rfl; have f2 := V1.free 2; have B2 := B1.setCell (p := ⟨w.heap.size, 2, none⟩) (Nat.le_refl _) (.int .i64 7))
    | (refine ldA rfl 26 _ rfl w.heap.size (by rfl) _ _ V2 _ Tryd.underlying26 rfl (info26.trans rfl) ?_))
  generalize w1.setCell ⟨w.heap.size, 2, none⟩ (.int .i64 7) = w2 at *
  have HB2 := (show Hid _ from B2)
  have HV2 := (show Hid _ from V2)
  clear B1 B2 V1 V2 U1 c2 f2
  refine (write_yes x0 (.slice none 0 0) _ x0_ok (HT.out.step HB2.out (by omega)) (tr_nil _) x0_form).mono ?_
  rintro e w3 ⟨⟨u, rfl, o3⟩, b3⟩
  have HB3 := (show Hid _ from HB2.out.trans (b3.mono HB2.out.size))
  have HV3 := (show Hid _ from HV2.out.step b3)
  have O3 := (show Hid _ from o3.bs)
  clear o3 b3 HB2 HV2
  go_wp2_with fail
  refine (read_yes u x0 _ x0_ok x0_form x0_wf (HT.out.step HB3.out (by omega)) O3.out).mono ?_
  rintro e w4 ⟨⟨tv, rfl, t4⟩, b4⟩
  obtain ⟨ta, tn, tc, rfl⟩ : ∃ a n c, tv = .slice a n c := by obtain ⟨_, a, c, e, _⟩ := t4; exact ⟨a, _, c, e⟩
  have HB4 := (show Hid _ from HB3.out.trans (b4.mono HB3.out.size))
  have HV4 := (show Hid _ from HV3.out.step b4)
  have O4 := (show Hid _ from O3.out.step b4)
  have T4 := (show Hid _ from t4)
  have l4 := HV4.out.lt
  clear t4 b4 HB3 HV3 O3
  go_wp2_with (refine stA rfl 26 _ _ rfl w4.heap.size (by rfl) (E8.cells ⟨0, 0, List.replicate 8 0, []⟩ (.slice none 0 0)) (x0.cells (.slice ta tn tc)) (by rfl) 26 (va_new w4 (E8.cells ⟨0, 0, List.replicate 8 0, []⟩ (.slice none 0 0)) 26) (info26.trans rfl) rfl (fun u hu => ev_one hu) ?_; intro w5 V5 U5)
  have D5 := U5.bel ((Below.refl w4.heap.size w4).alloc (Nat.le_refl _) (.cells (E8.cells ⟨0, 0, List.replicate 8 0, []⟩ (.slice none 0 0)).toArray 26)) (Nat.le_refl _)
  have D6 := D5.alloc D5.size (.cells #[.int .u8 3, .int .u8 172, .int .u8 2, .int .u8 14] 5)
  have X1 : Hid (Bs (w5.alloc (.cells #[.int .u8 3, .int .u8 172, .int .u8 2, .int .u8 14] 5)) u [3, 172, 2, 14]) := by rw [← x0_bytes]; exact O4.out.step D6
  have X2 : Hid (Bs (w5.alloc (.cells #[.int .u8 3, .int .u8 172, .int .u8 2, .int .u8 14] 5)) (.slice (some ⟨w5.heap.size, 0, none⟩) 4 4) [3, 172, 2, 14]) := bs_new w5 [3, 172, 2, 14] (fun x hx => by simp at hx; omega) 4 rfl (by omega) 5
  have V6 := (show Hid _ from V5.alloc (.cells #[.int .u8 3, .int .u8 172, .int .u8 2, .int .u8 14] 5))
  have W6 := (show Hid _ from HV4.out.step D6)
  have T6 := (show Hid _ from T4.out.step D6)
  have HB6 := (show Hid _ from HB4.out.trans (D6.mono HB4.out.size))
  clear D5 D6 V5 U5 HV4 T4 HB4 O4 l4
  generalize w5.alloc (.cells #[.int .u8 3, .int .u8 172, .int .u8 2, .int .u8 14] 5) = w6 at *
  refine (same_ok _ _ [3, 172, 2, 14] [3, 172, 2, 14] _ X1.out X2.out).mono ?_
  rintro e w7 ⟨rfl, b7⟩
  rw [show decide ([3, 172, 2, 14] = [3, 172, 2, 14]) = true from rfl]
  have V7 := V6.out.step b7
  have W7 := W6.out.step b7
  have T7 := (show Hid _ from T6.out.step b7)
  have HB7 := (show Hid _ from HB6.out.trans (b7.mono HB6.out.size))
  have p0 := V7.cell 0 (v := .int .u8 3) rfl
  have p1 := V7.cell 1 (v := .int .u64 300) rfl
  have p2 := V7.cell 2 (v := .int .i64 7) rfl
  have p3 := V7.cell 3 (v := .int .i64 0) rfl
  have p4 := V7.cell 4 (v := .int .i64 0) rfl
  have p5 := V7.cell 5 (v := .int .i64 0) rfl
  have p6 := V7.cell 6 (v := .int .i64 0) rfl
  have p7 := V7.cell 7 (v := .int .i64 0) rfl
  have p8 := V7.cell 8 (v := .int .i64 0) rfl
  have p9 := V7.cell 9 (v := .int .i64 0) rfl
  have p10 := V7.cell 10 (v := .slice ta tn tc) rfl
  have q0 := W7.cell 0 (v := .int .u8 3) rfl
  have q1 := W7.cell 1 (v := .int .u64 300) rfl
  have q2 := W7.cell 2 (v := .int .i64 7) rfl
  have q3 := W7.cell 3 (v := .int .i64 0) rfl
  have q4 := W7.cell 4 (v := .int .i64 0) rfl
  have q5 := W7.cell 5 (v := .int .i64 0) rfl
  have q6 := W7.cell 6 (v := .int .i64 0) rfl
  have q7 := W7.cell 7 (v := .int .i64 0) rfl
  have q8 := W7.cell 8 (v := .int .i64 0) rfl
  have q9 := W7.cell 9 (v := .int .i64 0) rfl
  have q10 := W7.cell 10 (v := .slice none 0 0) rfl
  have HV7 := (show Hid _ from V7)
  clear b7 X1 X2 V6 W6 T6 HB6 V7 W7
  go_wp2_with fail
  refine (esame_true x0 (.slice ta tn tc) (.slice none 0 0) _ x0_ok T7.out (tr_nil _)).mono ?_
  rintro e w8 ⟨rfl, b8⟩
  have V8 := HV7.out.step b8
  have HB8 := (show Hid _ from HB7.out.trans (b8.mono HB7.out.size))
  clear p0 q0 p1 q1 p2 q2 p3 q3 p4 q4 p5 q5 p6 q6 p7 q7 p8 q8 p9 q9 p10 q10
  have p0 := V8.cell 0 (v := .int .u8 3) rfl
  have p1 := V8.cell 1 (v := .int .u64 300) rfl
  have p2 := V8.cell 2 (v := .int .i64 7) rfl
  have p3 := V8.cell 3 (v := .int .i64 0) rfl
  have p4 := V8.cell 4 (v := .int .i64 0) rfl
  have p5 := V8.cell 5 (v := .int .i64 0) rfl
  have p6 := V8.cell 6 (v := .int .i64 0) rfl
  have p7 := V8.cell 7 (v := .int .i64 0) rfl
  have p8 := V8.cell 8 (v := .int .i64 0) rfl
  have p9 := V8.cell 9 (v := .int .i64 0) rfl
  have p10 := V8.cell 10 (v := .slice ta tn tc) rfl
  clear b8 V8 HV7 T7 HB7
  go_wp2_with fail
  refine (esame_op x0 ⟨0, 0, List.replicate 8 0, []⟩ (.slice ta tn tc) (.slice none 0 0) _ (by decide) (by decide) (by decide)).mono ?_
  rintro e w9 ⟨rfl, b9⟩
  have HB9 := (show Hid _ from HB8.out.trans (b9.mono HB8.out.size))
  clear b9
  go_wp2_with fail
  go_ret
  exact ⟨rfl, HB9.out⟩
end Go.Proofs.YtcognhhbpapibaaDoor
