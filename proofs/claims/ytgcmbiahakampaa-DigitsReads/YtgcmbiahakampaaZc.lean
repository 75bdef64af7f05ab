/- digits: the document's DocWrite; DigitsWrites' walk. -/
import Derived.Test.YtgcmbiahakampaaZb
namespace Go.Proofs.Ytgcmbiahakampaa
open Go.RowKit
set_option linter.unusedVariables false
set_option linter.unusedSimpArgs false

set_option maxHeartbeats 1000000 in
set_option maxRecDepth 100000 in
theorem docwrite_bad (h l s : Int) (w : World) (hb : Bad h l s) : Calls Try.prog 10 #[.agg #[.int .i64 h, .int .u64 l, .int .i64 s]] w fun e w' => e = .returned (.tuple #[.string ⟨#[]⟩, .int .i64 3]) ∧ Below w.heap.size w w' := by
  have hf := fun w => form_no h l s w hb
  have VD_0 := (show Hid _ from va_new w [.int .i64 h, .int .u64 l, .int .i64 s] 24)
  have BB_0 := (show Hid _ from (Below.refl w.heap.size w).alloc (Nat.le_refl _) (.cells #[.int .i64 h, .int .u64 l, .int .i64 s] 24))
  clear hb
  go_enter Try.func10, Try.ntmps10
  go_wp2_with (refine ldA rfl 24 _ rfl w.heap.size (by rfl) [.int .i64 h, .int .u64 l, .int .i64 s] _ VD_0.out _ Try.underlying24 rfl infoD ?_)
  refine (hf _).mono ?_
  rintro e w1 ⟨rfl, b1⟩
  have BB_1 := (show Hid _ from BB_0.out.trans (b1.mono BB_0.out.size))
  clear b1
  go_wp2_with fail
  go_ret2
  exact ⟨rfl, BB_1.out⟩
set_option maxHeartbeats 1000000 in
set_option maxRecDepth 100000 in
theorem docwrite_ok (c : Int) (s K : Nat) (w : World) (ic : InR c) (hs : s ≤ 18) (hK : Places s c.natAbs K) : Calls Try.prog 10 #[.agg #[.int .i64 (dhi c), .int .u64 (dlo c), .int .i64 (s : Int)]] w fun e w' => e = .returned (.tuple #[.string (tx (wtx c s K)), .int .i64 0]) ∧ Below w.heap.size w w' := by
  have hf := fun w => form_yes c s w ic (by omega)
  have HW := (show Hid _ from fun w => rwrite_ok c s K w ic hs hK)
  have VD_0 := (show Hid _ from va_new w [.int .i64 (dhi c), .int .u64 (dlo c), .int .i64 (s : Int)] 24)
  have BB_0 := (show Hid _ from (Below.refl w.heap.size w).alloc (Nat.le_refl _) (.cells #[.int .i64 (dhi c), .int .u64 (dlo c), .int .i64 (s : Int)] 24))
  generalize tx (wtx c s K) = t at *
  clear ic hs hK
  go_enter Try.func10, Try.ntmps10
  go_wp2_with (refine ldA rfl 24 _ rfl w.heap.size (by rfl) [.int .i64 (dhi c), .int .u64 (dlo c), .int .i64 (s : Int)] _ VD_0.out _ Try.underlying24 rfl infoD ?_)
  refine (hf _).mono ?_
  rintro e w1 ⟨rfl, b1⟩
  have VD_1 := (show Hid _ from VD_0.out.step b1)
  have BB_1 := (show Hid _ from BB_0.out.trans (b1.mono BB_0.out.size))
  clear b1 VD_0 BB_0 hf
  go_wp2_with (refine ldA rfl 24 _ rfl w.heap.size (by rfl) [.int .i64 (dhi c), .int .u64 (dlo c), .int .i64 (s : Int)] _ VD_1.out _ Try.underlying24 rfl infoD ?_)
  refine (HW.out _).mono ?_
  rintro e w2 ⟨rfl, b2⟩
  have BB_2 := (show Hid _ from BB_1.out.trans (b2.mono BB_1.out.size))
  clear b2 VD_1 BB_1
  go_wp2_with fail
  go_ret2
  exact ⟨rfl, BB_2.out⟩
theorem sg_abs (c : Int) : sg (decide (c < 0)) c.natAbs = c := by
  unfold sg
  by_cases h : c < 0
  · simp [h]; omega
  · simp [h]; omega
set_option maxHeartbeats 2000000 in
set_option maxRecDepth 100000 in
theorem writes_walk (h l s : Int) (w : World) (wh : (Lit.int .i64 h).wf = true) (wl : (Lit.int .u64 l).wf = true) : Calls Try.prog 3 #[.agg #[.int .i64 h, .int .u64 l, .int .i64 s]] w fun e w' => e = .returned (.bool true) ∧ Below w.heap.size w w' := by
  have VD_0 := (show Hid _ from va_new w [.int .i64 h, .int .u64 l, .int .i64 s] 24)
  have BB_0 := (show Hid _ from (Below.refl w.heap.size w).alloc (Nat.le_refl _) (.cells #[.int .i64 h, .int .u64 l, .int .i64 s] 24))
  rcases form_cases h l s wh wl with hb | ⟨c, n, rfl, rfl, rfl, ic, hn⟩
  · have HB := (show Hid _ from fun w => dwrite_bad h l s w hb)
    have HB2 := (show Hid _ from fun w => docwrite_bad h l s w hb)
    clear hb wh wl
    go_enter Try.func3, Try.ntmps3
    go_wp2_with fail
    refine (awake02 _).mono ?_
    rintro e w1 ⟨rfl, b1⟩
    have VD_1 := (show Hid _ from VD_0.out.step b1)
    have BB_1 := (show Hid _ from BB_0.out.trans (b1.mono BB_0.out.size))
    clear b1 VD_0 BB_0
    go_wp2_with (refine ldA rfl 24 _ rfl w.heap.size (by rfl) [.int .i64 h, .int .u64 l, .int .i64 s] _ VD_1.out _ Try.underlying24 rfl infoD ?_)
    refine (HB.out _).mono ?_
    rintro e w2 ⟨rfl, b2⟩
    have VD_2 := (show Hid _ from VD_1.out.step b2)
    have BB_2 := (show Hid _ from BB_1.out.trans (b2.mono BB_1.out.size))
    clear b2 VD_1 BB_1
    go_wp2_with (refine ldA rfl 24 _ rfl w.heap.size (by rfl) [.int .i64 h, .int .u64 l, .int .i64 s] _ VD_2.out _ Try.underlying24 rfl infoD ?_)
    refine (HB2.out _).mono ?_
    rintro e w3 ⟨rfl, b3⟩
    have BB_3 := (show Hid _ from BB_2.out.trans (b3.mono BB_2.out.size))
    clear b3 VD_2 BB_2
    go_wp2_with fail
    go_ret
    exact ⟨rfl, BB_3.out⟩
  · obtain ⟨K, hK, hW⟩ := dwrite_any c n ic (by omega)
    have T := txt_any c n K ic (by omega) hK
    have HW := (show Hid _ from hW)
    have HW2 := (show Hid _ from fun w => docwrite_ok c n K w ic (by omega) hK)
    have hP := T.read
    rw [sg_abs] at hP
    have HP := (show Hid _ from hP)
    clear T hP hW hK wh wl
    generalize tx (wtx c n K) = t at *
    go_enter Try.func3, Try.ntmps3
    go_wp2_with fail
    refine (awake02 _).mono ?_
    rintro e w1 ⟨rfl, b1⟩
    have VD_1 := (show Hid _ from VD_0.out.step b1)
    have BB_1 := (show Hid _ from BB_0.out.trans (b1.mono BB_0.out.size))
    clear b1 VD_0 BB_0
    go_wp2_with (refine ldA rfl 24 _ rfl w.heap.size (by rfl) [.int .i64 (dhi c), .int .u64 (dlo c), .int .i64 (n : Int)] _ VD_1.out _ Try.underlying24 rfl infoD ?_)
    refine (HW.out _).mono ?_
    rintro e w2 ⟨rfl, b2⟩
    have VD_2 := (show Hid _ from VD_1.out.step b2)
    have BB_2 := (show Hid _ from BB_1.out.trans (b2.mono BB_1.out.size))
    clear b2 VD_1 BB_1
    go_wp2_with (refine ldA rfl 24 _ rfl w.heap.size (by rfl) [.int .i64 (dhi c), .int .u64 (dlo c), .int .i64 (n : Int)] _ VD_2.out _ Try.underlying24 rfl infoD ?_)
    refine (HW2.out _).mono ?_
    rintro e w3 ⟨rfl, b3⟩
    have VD_3 := (show Hid _ from VD_2.out.step b3)
    have BB_3 := (show Hid _ from BB_2.out.trans (b3.mono BB_2.out.size))
    clear b3 VD_2 BB_2
    go_wp2_with fail
    refine (HP.out _).mono ?_
    rintro e w4 ⟨rfl, b4⟩
    have VD_4 := (show Hid _ from VD_3.out.step b4)
    have BB_4 := (show Hid _ from BB_3.out.trans (b4.mono BB_3.out.size))
    clear b4 VD_3 BB_3
    unfold dcs
    have VX := va_new w4 [.int .i64 (dhi c), .int .u64 (dlo c), .int .i64 (n : Int)] 24
    have VY := VD_4.out.alloc (.cells #[.int .i64 (dhi c), .int .u64 (dlo c), .int .i64 (n : Int)] 24)
    have e0 := VY.cell 0 (v := .int .i64 (dhi c)) rfl
    have e1 := VY.cell 1 (v := .int .u64 (dlo c)) rfl
    have e2 := VY.cell 2 (v := .int .i64 (n : Int)) rfl
    clear VX VY VD_4
    go_wp2_with fail
    go_ret
    exact ⟨rfl, BB_4.out.alloc BB_4.out.size _⟩
end Go.Proofs.Ytgcmbiahakampaa
