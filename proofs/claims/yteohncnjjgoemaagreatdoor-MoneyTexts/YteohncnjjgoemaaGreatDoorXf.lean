/- money: what a text cut at its first blank is; the document's Name. -/
import Derived.Test.YteohncnjjgoemaaGreatDoorXe
namespace Go.Proofs.YteohncnjjgoemaaGreatDoor
open Go.RowKit
set_option linter.unusedVariables false
set_option linter.unusedSimpArgs false

theorem occ32 (L : List UInt8) (i : Nat) : Lib.occAt L [32] i = true ↔ L[i]? = some 32 := by
  unfold Lib.occAt
  by_cases h : i < L.length
  · rw [List.drop_eq_getElem_cons h, List.getElem?_eq_getElem h]
    simp [List.isPrefixOf]
    exact eq_comm
  · rw [List.drop_eq_nil_of_le (by omega), List.getElem?_eq_none (by omega)]
    simp [List.isPrefixOf]
theorem bt_list (s : ByteArray) (i : Nat) (x : UInt8) : s.data.toList[i]? = some x ↔ dg.bt s i = x.toNat ∧ i < s.size := by
  by_cases h : i < s.size
  · rw [dg.bt_in h]
    have e : s.data.toList[i]? = some s[i] := by
      rw [List.getElem?_eq_getElem (by simpa using h)]
      rfl
    rw [e]
    simp only [Option.some.injEq]
    constructor
    · intro hh; exact ⟨by rw [hh], h⟩
    · rintro ⟨hh, _⟩; exact UInt8.toNat_inj.1 hh
  · rw [List.getElem?_eq_none (by simpa using h)]
    simp [h]
/-- a text's front and end around its first blank -/
theorem ct_spec (s : ByteArray) : (∃ k, k < s.size ∧ dg.bt s k = 32 ∧ (∀ j, j < k → dg.bt s j ≠ 32) ∧ (⟨(ct s).1.toArray⟩ : ByteArray) = s.extract 0 k ∧ (⟨(ct s).2.1.toArray⟩ : ByteArray) = s.extract (k + 1) s.size)
    ∨ ((∀ j, j < s.size → dg.bt s j ≠ 32) ∧ (⟨(ct s).1.toArray⟩ : ByteArray) = s ∧ (⟨(ct s).2.1.toArray⟩ : ByteArray) = ⟨#[]⟩) := by
  unfold ct Lib.cut
  rcases Lib.index_spec s.data.toList [32] with ⟨h1, h2⟩ | ⟨k, h1, h2, h3, h4⟩
  · right
    rw [h1, if_neg (by decide)]
    refine ⟨fun j hj e => ?_, by simp, rfl⟩
    have := h2 j (by simp; exact Nat.le_of_lt hj)
    rw [(occ32 _ _).2 ((bt_list s j 32).2 ⟨e, hj⟩)] at this
    cases this
  · left
    have hk := (bt_list s k 32).1 ((occ32 _ _).1 h3)
    rw [h1, if_pos (by omega)]
    refine ⟨k, hk.2, hk.1, fun j hj e => ?_, ?_, ?_⟩
    · have := h4 j hj
      rw [(occ32 _ _).2 ((bt_list s j 32).2 ⟨e, by omega⟩)] at this
      cases this
    · apply ByteArray.ext
      apply Array.ext'
      simp
    · apply ByteArray.ext
      apply Array.ext'
      simp
      rw [List.take_of_length_le]
      simp
set_option maxHeartbeats 1000000 in
theorem name_ok (i : Nat) (w : World) (hi : i < 4) : Calls Tryz.prog 16 #[.int .i64 (i : Int)] w fun e w' => e = .returned (.string (nmb i)) ∧ w' = w := by
  match i, hi with
  | 0, _ =>
    go_enter Tryz.func16, Tryz.ntmps16
    go_wp2_with fail
    go_ret
    exact ⟨rfl, rfl⟩
  | 1, _ =>
    go_enter Tryz.func16, Tryz.ntmps16
    go_wp2_with fail
    go_ret
    exact ⟨rfl, rfl⟩
  | 2, _ =>
    go_enter Tryz.func16, Tryz.ntmps16
    go_wp2_with fail
    go_ret
    exact ⟨rfl, rfl⟩
  | 3, _ =>
    go_enter Tryz.func16, Tryz.ntmps16
    go_wp2_with fail
    go_ret
    exact ⟨rfl, rfl⟩
end Go.Proofs.YteohncnjjgoemaaGreatDoor
