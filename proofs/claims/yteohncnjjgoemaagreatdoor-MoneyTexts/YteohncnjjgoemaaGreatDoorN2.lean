/- digits: awake; DigitsLead's walk. -/
import Derived.Test.YteohncnjjgoemaaGreatDoorN1
import Derived.BigQuiet
import Derived.Test.YteohncnjjgoemaaGreatDoorPg
namespace Go.Proofs.YteohncnjjgoemaaGreatDoor.dg
open Go.RowKit
set_option linter.unusedVariables false
set_option linter.unusedSimpArgs false

theorem awake_write (w : World) : Calls Tryz.prog 12 #[.agg #[.int .i64 0, .int .u64 5, .int .i64 2]] w fun e w' => e = .returned (.tuple #[.string ⟨#[48, 46, 48, 53]⟩, .int .i64 0]) ∧ Below w.heap.size w w' :=
  dwrite_pos 5 0 5 5 0 2 3 w ⟨rfl, rfl⟩ ⟨by decide, by decide⟩ (by decide) (by decide) rfl rfl (by decide) (by decide) ⟨by decide, by decide, by decide, fun j hj => Or.inl (by omega)⟩
theorem awake_parse (w : World) : Calls Tryz.prog 20 #[.string ⟨#[49, 50, 46, 48]⟩] w fun e w' => e = .returned (.tuple #[.agg #[.int .i64 0, .int .u64 120, .int .i64 1], .int .i64 0, .int .i64 0]) ∧ Below w.heap.size w w' := by
  have b0 : bt ⟨#[49, 50, 46, 48]⟩ 0 = 49 := rfl
  have b1 : bt ⟨#[49, 50, 46, 48]⟩ 1 = 50 := rfl
  have b2 : bt ⟨#[49, 50, 46, 48]⟩ 2 = 46 := rfl
  have b3 : bt ⟨#[49, 50, 46, 48]⟩ 3 = 48 := rfl
  have b4 : bt ⟨#[49, 50, 46, 48]⟩ 4 = 256 := rfl
  have hm : Mins ⟨#[49, 50, 46, 48]⟩ false 0 := ⟨Or.inr ⟨rfl, by rw [b0]; decide, rfl⟩⟩
  have hw : Whol ⟨#[49, 50, 46, 48]⟩ 0 2 12 := ⟨Or.inr ⟨by rw [b0]; decide, 2, by decide, rfl, fun k hk => isDg_iff.2 (by match k, hk with | 0, _ => rw [b0]; decide | 1, _ => rw [b1]; decide), fun h => by have := isDg_iff.1 h; rw [b2] at this; omega, rfl⟩⟩
  have hf : Frac ⟨#[49, 50, 46, 48]⟩ 2 4 1 12 120 := ⟨Or.inr ⟨b2, by decide, by decide, rfl, fun k hk => isDg_iff.2 (by match k, hk with | 0, _ => rw [b3]; decide), Or.inr fun h => by have := isDg_iff.1 h; rw [b4] at this; omega, rfl⟩⟩
  exact p_yes hm hw hf (by decide) rfl (by decide) (by simp) w
end Go.Proofs.YteohncnjjgoemaaGreatDoor.dg
/- digits: Write out of form; DigitsLead's walk. -/
namespace Go.Proofs.YteohncnjjgoemaaGreatDoor.dg
open Go.RowKit
set_option linter.unusedVariables false
set_option linter.unusedSimpArgs false

theorem bt_app (a b : ByteArray) (i : Nat) : bt (a ++ b) i = if i < a.size then bt a i else bt b (i - a.size) := by
  unfold bt
  have hs : (a ++ b).size = a.size + b.size := ByteArray.size_append
  by_cases h : i < a.size
  · rw [dif_pos (by omega), if_pos h, dif_pos h, ByteArray.getElem_append_left h]
  · by_cases h2 : i - a.size < b.size
    · rw [dif_pos (by omega), if_neg h, dif_pos h2, ByteArray.getElem_append_right (by omega)]
    · rw [dif_neg (by omega), if_neg h, dif_neg h2]
theorem bt_ext (s : ByteArray) (a b i : Nat) (hb : b ≤ s.size) : bt (s.extract a b) i = if a + i < b then bt s (a + i) else 256 := by
  unfold bt
  have hs : (s.extract a b).size = b - a := by rw [ByteArray.size_extract]; omega
  by_cases h : a + i < b
  · rw [dif_pos (by omega), if_pos h, dif_pos (by omega), ByteArray.getElem_extract]
  · rw [dif_neg (by omega), if_neg h]
theorem lead_pos {t : ByteArray} (h41 : t.size ≤ 41) (h : isDg t 0) : PF (⟨#[48]⟩ ++ t) 1 := by
  have hs : (⟨#[48]⟩ ++ t : ByteArray).size = 1 + t.size := ByteArray.size_append
  have b0 : bt (⟨#[48]⟩ ++ t) 0 = 48 := by rw [bt_app]; rfl
  have b1 : bt (⟨#[48]⟩ ++ t) 1 = bt t 0 := by rw [bt_app]; rfl
  exact p_lead (neg := false) (i := 0) ⟨Or.inr ⟨rfl, by omega, rfl⟩⟩ (by omega) b0 (isDg_iff.2 (by rw [Nat.zero_add, b1]; exact isDg_iff.1 h))
theorem lead_neg {t : ByteArray} (h41 : t.size ≤ 41) (h0 : 0 < t.size) (h : isDg t 1) : PF (⟨#[45, 48]⟩ ++ t.extract 1 t.size) 2 := by
  have hs : (⟨#[45, 48]⟩ ++ t.extract 1 t.size : ByteArray).size = 2 + (t.extract 1 t.size).size := ByteArray.size_append
  have he : (t.extract 1 t.size).size = t.size - 1 := by rw [ByteArray.size_extract]; omega
  have b0 : bt (⟨#[45, 48]⟩ ++ t.extract 1 t.size) 0 = 45 := by rw [bt_app]; rfl
  have b1 : bt (⟨#[45, 48]⟩ ++ t.extract 1 t.size) 1 = 48 := by rw [bt_app]; rfl
  have h1 : 1 < t.size := by obtain ⟨h, _⟩ := h; exact h
  have b2 : bt (⟨#[45, 48]⟩ ++ t.extract 1 t.size) 2 = bt t 1 := by
    rw [bt_app, if_neg (by decide)]
    show bt _ 0 = _
    rw [bt_ext _ _ _ _ (Nat.le_refl _), if_pos (by omega)]
  exact p_lead (neg := true) (i := 1) ⟨Or.inl ⟨rfl, b0, rfl⟩⟩ (by omega) b1 (isDg_iff.2 (by rw [b2]; exact isDg_iff.1 h))
set_option maxHeartbeats 1000000 in
theorem dwrite_bad (h l s : Int) (w : World) (hb : Bad h l s) : Calls Tryz.prog 12 #[.agg #[.int .i64 h, .int .u64 l, .int .i64 s]] w fun e w' => e = .returned (.tuple #[.string ⟨#[]⟩, .int .i64 3]) ∧ Below w.heap.size w w' := by
  have hsg := fun w => sign_bad h l s w hb
  have VD_0 := (show Hid _ from va_new w [.int .i64 h, .int .u64 l, .int .i64 s] 41)
  have BB_0 := (show Hid _ from (Below.refl w.heap.size w).alloc (Nat.le_refl _) (.cells #[.int .i64 h, .int .u64 l, .int .i64 s] 41))
  clear hb
  go_enter Tryz.func12, Tryz.ntmps12
  go_wp2_with (refine ldA rfl 41 _ rfl w.heap.size (by rfl) [.int .i64 h, .int .u64 l, .int .i64 s] _ VD_0.out _ Tryz.underlying41 rfl infoD ?_)
  refine (hsg _).mono ?_
  rintro e w1 ⟨rfl, b1⟩
  have BB_1 := (show Hid _ from BB_0.out.trans (b1.mono BB_0.out.size))
  clear b1
  go_wp2_with fail
  go_ret2
  exact ⟨rfl, BB_1.out⟩
end Go.Proofs.YteohncnjjgoemaaGreatDoor.dg
