/- money: MoneyTexts' walk, whatever comes in; the tables out of a row. -/
import Derived.Test.YteohncnjjgoemaaGreatDoorXm
namespace Go.Proofs.YteohncnjjgoemaaGreatDoor
open Go.RowKit
set_option linter.unusedVariables false
set_option linter.unusedSimpArgs false

theorem cm_of {W : World} {rest : List (String × DataW Unit)} (h : laidMet Tryz.prog (("passbook/money.currencies", pairData curs) :: rest) W) : Cm W := by
  have key := pairs_of_head (show Tryz.prog.globalNamed "passbook/money.currencies" = some 0 by kernel_rfl) (by kernel_rfl) Tryz.underlying47 Tryz.underlying46 (by rfl) (by rfl) (by rfl) (by rfl) (by kernel_rfl) (by kernel_rfl) (by kernel_rfl) (by kernel_rfl) (by kernel_rfl) h
  refine ⟨fun i hi => ?_⟩
  have fin : ∀ x, curs[i]? = some x → (nmb i).data.toList = x.1 → W.cell? ⟨0, i * 2, none⟩ = some (.string (nmb i)) := fun x hx hn => by
    obtain ⟨s, hs, h1, _⟩ := key i x hx
    have : s = nmb i := ByteArray.ext (Array.ext' (by rw [hs, hn]))
    rw [← this]
    exact h1
  match i, hi with
  | 0, _ => exact fin _ rfl rfl
  | 1, _ => exact fin _ rfl rfl
  | 2, _ => exact fin _ rfl rfl
  | 3, _ => exact fin _ rfl rfl
theorem mx_of {W : World} (h : W.ShapedOpen Tryz.prog) : Mx W := ⟨laysM145.s1_3 W h⟩
theorem texts_walk (c n : Int) (s : ByteArray) (w : World) (T : Cu w) (N : Cm w) (X : Mx w) : Calls Tryz.prog 3 #[.agg #[.int .i64 c, .int .i64 n], .string s] w fun e w' => e = .returned (.bool true) ∧ Below w.heap.size w w' := by
  obtain ⟨a0, a1, ee, B⟩ := mb_any s
  cases hf : mform c n with
  | false =>
    by_cases he : ee = 0
    · exact texts_bad_ok c n s w T N X hf a0 a1 ee B he
    · exact texts_bad_no c n s w T N X hf a0 a1 ee B he
  | true =>
    have hf2 := hf
    unfold mform wi at hf2
    simp only [Bool.and_eq_true, decide_eq_true_eq] at hf2
    obtain ⟨i, rfl⟩ : ∃ i : Nat, c = i := ⟨c.toNat, by omega⟩
    obtain ⟨tt, h1, h2, h3⟩ := mw_any i n (by omega) hf2.2
    by_cases he : ee = 0
    · exact texts_form_ok i n s w T N X hf tt h1 h2 h3 a0 a1 ee B he
    · exact texts_form_no i n s w T N X hf tt h1 h2 h3 a0 a1 ee B he
end Go.Proofs.YteohncnjjgoemaaGreatDoor
