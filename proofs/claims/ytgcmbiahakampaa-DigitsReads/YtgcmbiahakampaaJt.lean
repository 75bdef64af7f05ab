/- digits: awake; DigitsLead's walk. -/
import Derived.Test.YtgcmbiahakampaaJs
import Derived.BigQuiet
namespace Go.Proofs.Ytgcmbiahakampaa
open Go.RowKit
set_option linter.unusedVariables false
set_option linter.unusedSimpArgs false

theorem awake_write (w : World) : Calls Try.prog 9 #[.agg #[.int .i64 0, .int .u64 5, .int .i64 2]] w fun e w' => e = .returned (.tuple #[.string ⟨#[48, 46, 48, 53]⟩, .int .i64 0]) ∧ Below w.heap.size w w' :=
  dwrite_pos 5 0 5 5 0 2 3 w ⟨rfl, rfl⟩ ⟨by decide, by decide⟩ (by decide) (by decide) rfl rfl (by decide) (by decide) ⟨by decide, by decide, by decide, fun j hj => Or.inl (by omega)⟩
theorem awake_parse (w : World) : Calls Try.prog 11 #[.string ⟨#[49, 50, 46, 48]⟩] w fun e w' => e = .returned (.tuple #[.agg #[.int .i64 0, .int .u64 120, .int .i64 1], .int .i64 0, .int .i64 0]) ∧ Below w.heap.size w w' := by
  have b0 : bt ⟨#[49, 50, 46, 48]⟩ 0 = 49 := rfl
  have b1 : bt ⟨#[49, 50, 46, 48]⟩ 1 = 50 := rfl
  have b2 : bt ⟨#[49, 50, 46, 48]⟩ 2 = 46 := rfl
  have b3 : bt ⟨#[49, 50, 46, 48]⟩ 3 = 48 := rfl
  have b4 : bt ⟨#[49, 50, 46, 48]⟩ 4 = 256 := rfl
  have hm : Mins ⟨#[49, 50, 46, 48]⟩ false 0 := ⟨Or.inr ⟨rfl, by rw [b0]; decide, rfl⟩⟩
  have hw : Whol ⟨#[49, 50, 46, 48]⟩ 0 2 12 := ⟨Or.inr ⟨by rw [b0]; decide, 2, by decide, rfl, fun k hk => isDg_iff.2 (by match k, hk with | 0, _ => rw [b0]; decide | 1, _ => rw [b1]; decide), fun h => by have := isDg_iff.1 h; rw [b2] at this; omega, rfl⟩⟩
  have hf : Frac ⟨#[49, 50, 46, 48]⟩ 2 4 1 12 120 := ⟨Or.inr ⟨b2, by decide, by decide, rfl, fun k hk => isDg_iff.2 (by match k, hk with | 0, _ => rw [b3]; decide), Or.inr fun h => by have := isDg_iff.1 h; rw [b4] at this; omega, rfl⟩⟩
  exact p_yes hm hw hf (by decide) rfl (by decide) (by simp) w
set_option maxHeartbeats 1000000 in
set_option maxRecDepth 100000 in
theorem awake02 (w : World) : Calls Try.prog 8 #[] w fun e w' => e = .returned (.bool true) ∧ Below w.heap.size w w' := by
  go_enter Try.func8, Try.ntmps8
  go_wp2_with fail
  refine (awake_write _).mono ?_
  rintro e w1 ⟨rfl, b1⟩
  have B1 := (show Hid _ from b1)
  clear b1
  go_wp2_with fail
  refine (awake_parse _).mono ?_
  rintro e w2 ⟨rfl, b2⟩
  have B2 := (show Hid _ from B1.out.trans (b2.mono B1.out.size))
  clear b2 B1
  go_wp2_with fail
  go_ret
  exact ⟨rfl, B2.out.alloc B2.out.size _⟩
end Go.Proofs.Ytgcmbiahakampaa
