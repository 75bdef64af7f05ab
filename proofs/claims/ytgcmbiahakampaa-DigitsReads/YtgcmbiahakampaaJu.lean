/- digits: Write out of form; DigitsLead's walk. -/
import Derived.Test.YtgcmbiahakampaaJt
import Derived.Test.YtgcmbiahakampaaPg
namespace Go.Proofs.Ytgcmbiahakampaa
open Go.RowKit
set_option linter.unusedVariables false
set_option linter.unusedSimpArgs false

theorem bt_app (a b : ByteArray) (i : Nat) : bt (a ++ b) i = if i < a.size then bt a i else bt b (i - a.size) := by
  unfold bt
  have hs : (a ++ b).size = a.size + b.size := ByteArray.size_append
  by_cases h : i < a.size
  · rw [dif_pos (by omega), if_pos h, dif_pos h, ByteArray.getElem_append_left h]
  · by_cases h2 : i - a.size < b.size
    · rw [dif_pos (by omega), if_neg h, dif_pos h2, ByteArray.getElem_append_right (by omega)]
    · rw [dif_neg (by omega), if_neg h, dif_neg h2]
theorem bt_ext (s : ByteArray) (a b i : Nat) (hb : b ≤ s.size) : bt (s.extract a b) i = if a + i < b then bt s (a + i) else 256 := by
  unfold bt
  have hs : (s.extract a b).size = b - a := by rw [ByteArray.size_extract]; omega
  by_cases h : a + i < b
  · rw [dif_pos (by omega), if_pos h, dif_pos (by omega), ByteArray.getElem_extract]
  · rw [dif_neg (by omega), if_neg h]
theorem lead_pos {t : ByteArray} (h41 : t.size ≤ 41) (h : isDg t 0) : PF (⟨#[48]⟩ ++ t) 1 := by
  have hs : (⟨#[48]⟩ ++ t : ByteArray).size = 1 + t.size := ByteArray.size_append
  have b0 : bt (⟨#[48]⟩ ++ t) 0 = 48 := by rw [bt_app]; rfl
  have b1 : bt (⟨#[48]⟩ ++ t) 1 = bt t 0 := by rw [bt_app]; rfl
  exact p_lead (neg := false) (i := 0) ⟨Or.inr ⟨rfl, by omega, rfl⟩⟩ (by omega) b0 (isDg_iff.2 (by rw [Nat.zero_add, b1]; exact isDg_iff.1 h))
theorem lead_neg {t : ByteArray} (h41 : t.size ≤ 41) (h0 : 0 < t.size) (h : isDg t 1) : PF (⟨#[45, 48]⟩ ++ t.extract 1 t.size) 2 := by
  have hs : (⟨#[45, 48]⟩ ++ t.extract 1 t.size : ByteArray).size = 2 + (t.extract 1 t.size).size := ByteArray.size_append
  have he : (t.extract 1 t.size).size = t.size - 1 := by rw [ByteArray.size_extract]; omega
  have b0 : bt (⟨#[45, 48]⟩ ++ t.extract 1 t.size) 0 = 45 := by rw [bt_app]; rfl
  have b1 : bt (⟨#[45, 48]⟩ ++ t.extract 1 t.size) 1 = 48 := by rw [bt_app]; rfl
  have h1 : 1 < t.size := by obtain ⟨h, _⟩ := h; exact h
  have b2 : bt (⟨#[45, 48]⟩ ++ t.extract 1 t.size) 2 = bt t 1 := by
    rw [bt_app, if_neg (by decide)]
    show bt _ 0 = _
    rw [bt_ext _ _ _ _ (Nat.le_refl _), if_pos (by omega)]
  exact p_lead (neg := true) (i := 1) ⟨Or.inl ⟨rfl, b0, rfl⟩⟩ (by omega) b1 (isDg_iff.2 (by rw [b2]; exact isDg_iff.1 h))
set_option maxHeartbeats 1000000 in
theorem dwrite_bad (h l s : Int) (w : World) (hb : Bad h l s) : Calls Try.prog 9 #[.agg #[.int .i64 h, .int .u64 l, .int .i64 s]] w fun e w' => e = .returned (.tuple #[.string ⟨#[]⟩, .int .i64 3]) ∧ Below w.heap.size w w' := by
  have hsg := fun w => sign_bad h l s w hb
  have VD_0 := (show Hid _ from va_new w [.int .i64 h, .int .u64 l, .int .i64 s] 24)
  have BB_0 := (show Hid _ from (Below.refl w.heap.size w).alloc (Nat.le_refl _) (.cells #[.int .i64 h, .int .u64 l, .int .i64 s] 24))
  clear hb
  go_enter Try.func9, Try.ntmps9
  go_wp2_with (refine ldA rfl 24 _ rfl w.heap.size (by rfl) [.int .i64 h, .int .u64 l, .int .i64 s] _ VD_0.out _ Try.underlying24 rfl infoD ?_)
  refine (hsg _).mono ?_
  rintro e w1 ⟨rfl, b1⟩
  have BB_1 := (show Hid _ from BB_0.out.trans (b1.mono BB_0.out.size))
  clear b1
  go_wp2_with fail
  go_ret2
  exact ⟨rfl, BB_1.out⟩
set_option maxHeartbeats 1000000 in
set_option maxRecDepth 100000 in
theorem lead_walk (h l s : Int) (w : World) (wh : (Lit.int .i64 h).wf = true) (wl : (Lit.int .u64 l).wf = true) : Calls Try.prog 7 #[.agg #[.int .i64 h, .int .u64 l, .int .i64 s]] w fun e w' => e = .returned (.bool true) ∧ Below w.heap.size w w' := by
  have VD_0 := (show Hid _ from va_new w [.int .i64 h, .int .u64 l, .int .i64 s] 24)
  have BB_0 := (show Hid _ from (Below.refl w.heap.size w).alloc (Nat.le_refl _) (.cells #[.int .i64 h, .int .u64 l, .int .i64 s] 24))
  rcases form_cases h l s wh wl with hb | ⟨c, n, rfl, rfl, rfl, ic, hn⟩
  · have HB := (show Hid _ from fun w => dwrite_bad h l s w hb)
    clear hb wh wl
    go_enter Try.func7, Try.ntmps7
    go_wp2_with fail
    refine (awake02 _).mono ?_
    rintro e w1 ⟨rfl, b1⟩
    have VD_1 := (show Hid _ from VD_0.out.step b1)
    have BB_1 := (show Hid _ from BB_0.out.trans (b1.mono BB_0.out.size))
    clear b1 VD_0 BB_0
    go_wp2_with (refine ldA rfl 24 _ rfl w.heap.size (by rfl) [.int .i64 h, .int .u64 l, .int .i64 s] _ VD_1.out _ Try.underlying24 rfl infoD ?_)
    refine (HB.out _).mono ?_
    rintro e w2 ⟨rfl, b2⟩
    have BB_2 := (show Hid _ from BB_1.out.trans (b2.mono BB_1.out.size))
    clear b2 VD_1 BB_1
    go_wp2_with fail
    go_ret
    exact ⟨rfl, BB_2.out⟩
  · obtain ⟨K, hK, hW⟩ := dwrite_any c n ic (by omega)
    have T := txt_any c n K ic (by omega) hK
    have HW := (show Hid _ from hW)
    generalize tx (wtx c n K) = t at *
    clear hW hK wh wl
    have h0 : 0 < t.size := by have := T.sz; have := T.hp; omega
    have h41 := T.s41
    have hl1 : ¬ 9223372036854775807 < 1 + t.size := by omega
    have hix : (t[0].toNat : Int) = bt t 0 := by rw [bt_in h0]
    have hf0 := T.fr 0 (by have := T.hp; omega)
    have hf1 := Nat.mod_lt (c.natAbs / 10 ^ (n + (K - n) - 1 - 0)) (show 10 > 0 by decide)
    by_cases hc : c < 0
    · rw [if_pos hc] at hf0 T
      have hbt : bt t 0 = 45 := by
        rcases T.mi with ⟨_, _, h⟩ | ⟨h, _⟩
        · exact h
        · simp [hc] at h
      have hb0 : ((bt t 0 : Int) == 45) = true := by rw [hbt]; rfl
      have HT := (show Hid _ from T)
      have HF : Hid (isDg t 1) := isDg_iff.2 (by rw [Nat.add_zero] at hf0; omega)
      have HBT : Hid (bt t 0 = 45) := hbt
      clear T hf0 hf1 hbt hc
      go_enter Try.func7, Try.ntmps7
      go_wp2_with fail
      refine (awake02 _).mono ?_
      rintro e w1 ⟨rfl, b1⟩
      have VD_1 := (show Hid _ from VD_0.out.step b1)
      have BB_1 := (show Hid _ from BB_0.out.trans (b1.mono BB_0.out.size))
      clear b1 VD_0 BB_0
      go_wp2_with (refine ldA rfl 24 _ rfl w.heap.size (by rfl) [.int .i64 (dhi c), .int .u64 (dlo c), .int .i64 (n : Int)] _ VD_1.out _ Try.underlying24 rfl infoD ?_)
      refine (HW.out _).mono ?_
      rintro e w2 ⟨rfl, b2⟩
      have BB_2 := (show Hid _ from BB_1.out.trans (b2.mono BB_1.out.size))
      clear b2 VD_1 BB_1
      go_upto_region 8 with fail
      go_quiet (fail)
      have BB_z := (show Hid _ from below_drewN BB_2.out nq)
      clear BB_2
      generalize w2.drewN nq = wz at *
      have HPF := (show Hid _ from lead_neg h41 h0 HF.out)
      generalize (⟨#[45, 48]⟩ ++ t.extract 1 t.size : ByteArray) = u at *
      go_wp2_with fail
      refine (HPF.out _).mono ?_
      rintro e w3 ⟨rfl, b3⟩
      have BB_3 := (show Hid _ from BB_z.out.trans (b3.mono BB_z.out.size))
      clear b3
      go_wp2_with fail
      go_ret
      exact ⟨rfl, BB_3.out.alloc BB_3.out.size _⟩
    · rw [if_neg hc] at hf0 T
      rw [Nat.add_zero] at hf0
      have HF : Hid (isDg t 0) := isDg_iff.2 (by omega)
      have hb0 : ((bt t 0 : Int) == 45) = false := by simp; omega
      clear T hf0 hf1 hc
      go_enter Try.func7, Try.ntmps7
      go_wp2_with fail
      refine (awake02 _).mono ?_
      rintro e w1 ⟨rfl, b1⟩
      have VD_1 := (show Hid _ from VD_0.out.step b1)
      have BB_1 := (show Hid _ from BB_0.out.trans (b1.mono BB_0.out.size))
      clear b1 VD_0 BB_0
      go_wp2_with (refine ldA rfl 24 _ rfl w.heap.size (by rfl) [.int .i64 (dhi c), .int .u64 (dlo c), .int .i64 (n : Int)] _ VD_1.out _ Try.underlying24 rfl infoD ?_)
      refine (HW.out _).mono ?_
      rintro e w2 ⟨rfl, b2⟩
      have BB_2 := (show Hid _ from BB_1.out.trans (b2.mono BB_1.out.size))
      clear b2 VD_1 BB_1
      go_wp2_with fail
      refine (lead_pos h41 HF.out _).mono ?_
      rintro e w3 ⟨rfl, b3⟩
      have BB_3 := (show Hid _ from BB_2.out.trans (b3.mono BB_2.out.size))
      clear b3
      go_wp2_with fail
      go_ret
      exact ⟨rfl, BB_3.out.alloc BB_3.out.size _⟩
end Go.Proofs.Ytgcmbiahakampaa
