/- event: the walk of EventReads. -/
import Derived.Test.YtcognhhbpapibaaDoorFk
namespace Go.Proofs.YtcognhhbpapibaaDoor
open Go.RowKit
set_option linter.unusedVariables false

set_option maxHeartbeats 2000000 in
set_option maxRecDepth 100000 in
theorem reads_walk (v : Value) (bs : List Nat) (w : World) (T : Tc w) (h : Bs w v bs) (hl : bs.length ≤ 140737488351232) :
    Calls Tryd.prog 4 #[v] w fun e w' => e = .returned (.bool true) ∧ Below w.heap.size w w' := by
  obtain ⟨x, er, xok, xz, er0, er3, HRD, HDC⟩ := both bs
  have HT := (show Hid _ from T)
  have HB := (show Hid _ from h)
  have HXK := (show Hid _ from xok)
  have HXZ := (show Hid _ from xz)
  have HH1 := (show Hid _ from HRD)
  have HH2 := (show Hid _ from HDC)
  have hw0 := T.lt
  have lx := E8.len11 xok
  obtain ⟨L, hL⟩ : ∃ L, L = bs.length := ⟨_, rfl⟩
  have HL := (show Hid _ from hL)
  obtain ⟨a, c, rfl, hlc, hc9⟩ : ∃ a c, v = .slice a L c ∧ L ≤ c ∧ c ≤ 9223372036854775807 := by obtain ⟨_, a, c, e, h1, h2, _⟩ := h; exact ⟨a, c, by rw [hL]; exact e, by rw [hL]; exact h1, h2⟩
  clear T h xok xz HRD HDC hL
  go_enter Tryd.func4, Tryd.ntmps4
  go_wp2_with fail
  refine (awake_ok _ HT.out).mono ?_
  rintro e w1 ⟨rfl, b1⟩
  have D1 := (show Hid _ from b1)
  clear b1
  go_wp2_with fail
  refine (spare_ok _ bs _ (HB.out.step D1.out) (by omega)).mono ?_
  rintro e w2 ⟨⟨g, cap, rfl, o2⟩, b2⟩
  have D2 := (show Hid _ from D1.out.trans (b2.mono D1.out.size))
  have F2 := (show Hid _ from o2.bs)
  have Q2 : Hid (Bs w2 (.slice (some ⟨g, 0, none⟩) bs.length cap) bs) := by
    have := o2.bs.cut bs.length (by simp)
    rw [List.take_left] at this
    exact this
  rw [← HL.out]
  rw [← HL.out] at F2 Q2
  clear o2 b2 D1
  go_wp2_with fail
  refine (HH1.out _ _ (HT.out.step D2.out (by omega)) Q2.out).mono ?_
  rintro e w3 ⟨⟨ta, tn, tc, rfl, t3⟩, b3⟩
  have D3 := (show Hid _ from D2.out.trans (b3.mono D2.out.size))
  have F3 := (show Hid _ from F2.out.step b3)
  have T3 := (show Hid _ from t3)
  clear b3 t3 D2 F2 Q2
  go_wp2_with (refine stA rfl 26 _ _ rfl w3.heap.size (by rfl) (E8.cells ⟨0, 0, List.replicate 8 0, []⟩ (.slice none 0 0)) (x.cells (.slice ta tn tc)) (by rfl) 26 (va_new w3 (E8.cells ⟨0, 0, List.replicate 8 0, []⟩ (.slice none 0 0)) 26) (info26.trans (by rw [lx])) (by rw [lx]; rfl) (fun u hu => ev_one hu) ?_; intro w4 V4 U4)
  have b4 := U4.bel ((Below.refl w3.heap.size w3).alloc (Nat.le_refl _) (.cells (E8.cells ⟨0, 0, List.replicate 8 0, []⟩ (.slice none 0 0)).toArray 26)) (Nat.le_refl _)
  have D4 := (show Hid _ from D3.out.trans (b4.mono D3.out.size))
  have F4 := (show Hid _ from F3.out.step b4)
  have T4 := (show Hid _ from T3.out.step b4)
  have VE4 := (show Hid _ from V4)
  clear b4 U4 V4 D3 F3 T3
  refine (HH2.out _ _ (HB.out.step D4.out)).mono ?_
  rintro e w5 ⟨⟨ua, un, uc, rfl, t5⟩, b5⟩
  have D5 := (show Hid _ from D4.out.trans (b5.mono D4.out.size))
  have F5 := (show Hid _ from F4.out.step b5)
  have T5 := (show Hid _ from T4.out.step b5)
  have S5 := (show Hid _ from t5)
  have VE5 := (show Hid _ from VE4.out.step b5)
  clear b5 t5 D4 F4 T4 VE4
  go_wp2_with (first
    | (refine stA rfl 26 _ _ rfl w5.heap.size (by rfl) (E8.cells ⟨0, 0, List.replicate 8 0, []⟩ (.slice none 0 0)) (x.cells (.slice ua un uc)) (by rfl) 26 (va_new w5 (E8.cells ⟨0, 0, List.replicate 8 0, []⟩ (.slice none 0 0)) 26) (info26.trans (by rw [lx])) (by rw [lx]; rfl) (fun u hu => ev_one hu) ?_; intro w6 V6 U6; have b6 := U6.bel ((Below.refl w5.heap.size w5).alloc (Nat.le_refl _) (.cells (E8.cells ⟨0, 0, List.replicate 8 0, []⟩ (.slice none 0 0)).toArray 26)) (Nat.le_refl _); have VE6 := VE5.out.step b6)
    | (refine ldA rfl 26 _ rfl w3.heap.size (by rfl) _ _ VE6 _ Tryd.underlying26 rfl (info26.trans (by rw [lx])) ?_)
    | (refine ldA rfl 26 _ rfl w5.heap.size (by rfl) _ _ V6 _ Tryd.underlying26 rfl (info26.trans (by rw [lx])) ?_))
  have D6 := (show Hid _ from D5.out.trans (b6.mono D5.out.size))
  have F6 := (show Hid _ from F5.out.step b6)
  have T6 := (show Hid _ from T5.out.step b6)
  have S6 := (show Hid _ from S5.out.step b6)
  have HV6 := (show Hid _ from VE6)
  clear b6 V6 U6 VE6 D5 F5 T5 S5 VE5
  refine (rsame_true x _ _ _ HXK.out T6.out S6.out).mono ?_
  rintro e w7 ⟨rfl, b7⟩
  have D7 := (show Hid _ from D6.out.trans (b7.mono D6.out.size))
  have F7 := (show Hid _ from F6.out.step b7)
  have T7 := (show Hid _ from T6.out.step b7)
  have HV7 := (show Hid _ from HV6.out.step b7)
  clear b7 D6 F6 T6 S6 HV6
  have dd : (er != er) = false := by simp
  go_wp2_with fail
  refine (kept_ok _ _ bs _ F7.out (HB.out.step D7.out)).mono ?_
  rintro e w8 ⟨rfl, b8⟩
  have D8 := (show Hid _ from D7.out.trans (b8.mono D7.out.size))
  have T8 := (show Hid _ from T7.out.step b8)
  have HV8 := (show Hid _ from HV7.out.step b8)
  clear b8 D7 F7 T7 HV7
  by_cases he : er = 0
  rotate_left
  · have e1 : (er == 0) = false := by simpa using he
    have e2 : (er != 0) = true := by simp [bne, e1]
    go_wp2_with fail
    go_ret
    exact ⟨rfl, D8.out⟩
  · subst he
    obtain ⟨gx, bx⟩ := HXZ.out rfl
    have HG := (show Hid _ from gx)
    have HBX := (show Hid _ from bx)
    clear gx bx
    go_wp2_with (refine ldA rfl 26 _ rfl w3.heap.size (by rfl) _ _ HV8.out _ Tryd.underlying26 rfl (info26.trans (by rw [lx])) ?_)
    refine (write_yes x _ _ HG.out.ok (HT.out.step D8.out (by omega)) T8.out HG.out.form).mono ?_
    rintro e w9 ⟨⟨u, rfl, o9⟩, b9⟩
    have D9 := (show Hid _ from D8.out.trans (b9.mono D8.out.size))
    have O9 := (show Hid _ from o9.bs)
    clear o9 b9
    go_wp2_with fail
    refine (same_ok _ _ _ _ _ O9.out (HB.out.step D9.out)).mono ?_
    rintro e w10 ⟨rfl, b10⟩
    have D10 := (show Hid _ from D9.out.trans (b10.mono D9.out.size))
    clear b10
    rw [show decide (x.bytes = bs) = true from decide_eq_true HBX.out]
    go_wp2_with fail
    go_ret
    exact ⟨rfl, D10.out⟩
end Go.Proofs.YtcognhhbpapibaaDoor
