/- event: Check and Write of events that are not in form. -/
import Derived.Test.YtcognhhbpapibaaDoorEc
namespace Go.Proofs.YtcognhhbpapibaaDoor
open Go.RowKit
set_option linter.unusedVariables false

set_option maxHeartbeats 1000000 in
set_option maxRecDepth 100000 in
theorem check_bad (x : E8) (tv : Value) (w : World) (hx : x.ok) (R : Tr w tv x.ts) (f : x.op < 1 ∨ 15 < x.op) :
    Calls Tryd.prog 14 #[.agg (x.cells tv).toArray] w fun e w' => e = .returned (.int .i64 3) ∧ Below w.heap.size w w' := by
  have V := va_new w (x.cells tv) 26
  have y0 := V.cell 0 (x.c0 tv)
  have y10 := V.cell 10 (E8.ctv hx tv)
  obtain ⟨ta, tc, rfl, ht1, ht2⟩ : ∃ a c, tv = .slice a x.ts.length c ∧ x.ts.length ≤ c ∧ c ≤ 9223372036854775807 := by obtain ⟨_, a, c, e, h1, h2, _⟩ := R; exact ⟨a, c, e, h1, h2⟩
  have HB := (show Hid _ from (Below.refl w.heap.size w).alloc (Nat.le_refl _) (.cells (x.cells (.slice ta x.ts.length tc)).toArray 26))
  have o255 := hx.op
  have HF := (show Hid _ from f)
  clear V R hx f
  generalize x.ts.length = tn at *
  go_enter Tryd.func14, Tryd.ntmps14
  go_wp2_with fail
  generalize w.alloc (.cells (x.cells (.slice ta tn tc)).toArray 26) = w1 at *
  refine (count_no x.op _ HF.out o255).mono ?_
  rintro e w2 ⟨rfl, rfl⟩
  go_wp2_with fail
  go_quiet (fail)
  go_wp2_with fail
  go_ret
  exact ⟨rfl, bel_drewN HB.out _⟩
set_option maxHeartbeats 1000000 in
set_option maxRecDepth 100000 in
theorem check_long (x : E8) (tv : Value) (w : World) (hx : x.ok) (T : Tc w) (R : Tr w tv x.ts) (f1 : 1 ≤ x.op) (f2 : x.op ≤ 15) (f3 : most x.op < x.ts.length) :
    Calls Tryd.prog 14 #[.agg (x.cells tv).toArray] w fun e w' => e = .returned (.int .i64 3) ∧ Below w.heap.size w w' := by
  have V := va_new w (x.cells tv) 26
  have y0 := V.cell 0 (x.c0 tv)
  have y10 := V.cell 10 (E8.ctv hx tv)
  obtain ⟨ta, tc, rfl, ht1, ht2⟩ : ∃ a c, tv = .slice a x.ts.length c ∧ x.ts.length ≤ c ∧ c ≤ 9223372036854775807 := by obtain ⟨_, a, c, e, h1, h2, _⟩ := R; exact ⟨a, c, e, h1, h2⟩
  have HB := (show Hid _ from (Below.refl w.heap.size w).alloc (Nat.le_refl _) (.cells (x.cells (.slice ta x.ts.length tc)).toArray 26))
  have o255 := hx.op
  have hT := (show Hid _ from T.step HB.out (by have := T.lt; omega))
  clear V R hx T
  generalize x.ts.length = tn at *
  obtain ⟨op, hop⟩ : ∃ op, op = x.op := ⟨_, rfl⟩
  rw [← hop] at y0 f1 f2 f3 o255
  obtain ⟨ms, hms⟩ : ∃ ms, ms = most op := ⟨_, rfl⟩
  have HM := (show Hid _ from hms)
  rw [← hms] at f3
  have dm : decide (ms < tn) = true := decide_eq_true f3
  clear hop hms
  go_enter Tryd.func14, Tryd.ntmps14
  go_wp2_with fail
  generalize w.alloc (.cells (x.cells (.slice ta tn tc)).toArray 26) = w1 at *
  refine (count_yes op _ hT.out f1 f2).mono ?_
  rintro e w2 ⟨rfl, rfl⟩
  generalize ((ct.getD op 0 : Nat) : Int) = N at *
  go_wp2_with fail
  go_region_held3 (fun w' => w'.cell? ⟨w.heap.size, 0, none⟩ = some (.int .u8 (op : Int)) ∧ w'.cell? ⟨w.heap.size, 10, none⟩ = some (.slice ta tn tc))
    (first | exact ⟨y0, y10⟩)
    (first | (go_at_call 27; refine (most_ok op _ (by omega)).mono ?_; rintro e w4 ⟨rfl, rfl⟩; rw [← HM.out]))
  go_wp2_with fail
  go_ret
  exact ⟨rfl, HB.out.drew⟩
theorem check_no (x : E8) (tv : Value) (w : World) (hx : x.ok) (T : Tc w) (R : Tr w tv x.ts) (hf : ¬ x.form) :
    Calls Tryd.prog 14 #[.agg (x.cells tv).toArray] w fun e w' => e = .returned (.int .i64 3) ∧ Below w.heap.size w w' := by
  by_cases h1 : x.op < 1 ∨ 15 < x.op
  · exact check_bad x tv w hx R h1
  · by_cases h2 : most x.op < x.ts.length
    · exact check_long x tv w hx T R (by omega) (by omega) h2
    · exact check_in x tv w hx T R (by omega) (by omega) (by omega) 3 (Or.inr ⟨fun hz => hf ⟨by omega, by omega, by omega, hz⟩, rfl⟩)
set_option maxHeartbeats 1000000 in
set_option maxRecDepth 100000 in
theorem write_no (x : E8) (tv : Value) (w : World) (hx : x.ok) (T : Tc w) (R : Tr w tv x.ts) (hf : ¬ x.form) :
    Calls Tryd.prog 9 #[.agg (x.cells tv).toArray] w fun e w' => e = .returned (.tuple #[.slice none 0 0, .int .i64 3]) ∧ Below w.heap.size w w' := by
  have V := va_new w (x.cells tv) 26
  have HB := (show Hid _ from (Below.refl w.heap.size w).alloc (Nat.le_refl _) (.cells (x.cells tv).toArray 26))
  have HT := (show Hid _ from T.step HB.out (by have := T.lt; omega))
  have HR := (show Hid _ from R.step HB.out)
  have HV := (show Hid _ from V)
  have HX := (show Hid _ from hx)
  have HF := (show Hid _ from hf)
  have hl11 := E8.len11 hx tv
  clear V T R hx hf
  go_enter Tryd.func9, Tryd.ntmps9
  go_wp2_with (refine ldA rfl 26 _ rfl w.heap.size (by rfl) _ _ HV.out _ Tryd.underlying26 rfl (info26.trans (by rw [hl11])) ?_)
  generalize w.alloc (.cells (x.cells tv).toArray 26) = w1 at *
  refine (check_no x tv _ HX.out HT.out HR.out HF.out).mono ?_
  rintro e w2 ⟨rfl, b2⟩
  have HB2 := (show Hid _ from HB.out.trans (b2.mono HB.out.size))
  clear b2 HV HT HR HB
  go_wp2_with fail
  go_ret2
  exact ⟨rfl, HB2.out⟩
end Go.Proofs.YtcognhhbpapibaaDoor
