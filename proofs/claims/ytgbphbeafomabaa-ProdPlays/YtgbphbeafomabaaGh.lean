/- prod: the keys of the catalogue's map. -/
import Derived.Test.YtgbphbeafomabaaGg
import Derived.DeepKeys4
import Derived.Test.YtgbphbeafomabaaEz
namespace Go.Proofs.Ytgbphbeafomabaa
open Go.RowKit Go.Maps
set_option linter.unusedVariables false

theorem laidOutP : laidOutB Try.prog = true := by kernel_rfl
theorem typesN : Try.prog.types.size = 98 := by kernel_rfl
theorem keyedP : Keyed Try.prog 67 := Keyed.of_law (deep_law_laid laidOutP (m := 2) (by omega) (by rw [typesN]; decide) (by kernel_rfl) (by kernel_rfl))
/-- a key -/
def kv (id day : Int) : Value := .agg #[.int .i64 id, .int .i64 day]
theorem tysz : ∃ n, Try.prog.types.size + 1 = n + 2 := by
  have : 1 ≤ Try.prog.types.size := by rw [typesN]; omega
  exact ⟨Try.prog.types.size - 1, by omega⟩
/-- where a key's version lies -/
def kl (id day : Int) : Lit := .string (keyBytes [.int .i64 id, .int .i64 day])
theorem kl_key {id day : Int} (h1 : I64 id) (h2 : I64 day) : keyOf Try.prog 67 (kv id day) = some (kl id day) := by
  have w1 : (Lit.int .i64 id).wf = true := WalkArith.wf_i64 h1
  have w2 : (Lit.int .i64 day).wf = true := WalkArith.wf_i64 h2
  have hk : Try.prog.keyType 67 = true := by kernel_rfl
  have hf : (kv id day).formed Try.prog 67 = true := by
    have hc : Try.prog.cellsOf 67 = 2 := by kernel_rfl
    simp [Value.formed, kv, Try.underlying67, hc]
  obtain ⟨n, hn⟩ := tysz
  have hl : Try.prog.keyLits (Try.prog.types.size + 1) 67 [.int .i64 id, .int .i64 day] = some [.int .i64 id, .int .i64 day] := by
    rw [hn]
    have c1 : Try.prog.cellsOf 67 = 2 := by kernel_rfl
    have c2 : Try.prog.cellsOf 2 = 1 := by kernel_rfl
    have c3 : Try.prog.cellsOf 3 = 1 := by kernel_rfl
    simp [Program.keyLits, Try.underlying67, Try.underlying2, Try.underlying3, c1, c2, c3, w1, w2]
  have hu := Try.underlying67
  unfold keyOf kl
  rw [hu]
  simp only [hk, hf, Bool.and_self, if_true]
  simp only [kv, Value.cells] at hl ⊢
  rw [hl]
  rfl
end Go.Proofs.Ytgbphbeafomabaa
