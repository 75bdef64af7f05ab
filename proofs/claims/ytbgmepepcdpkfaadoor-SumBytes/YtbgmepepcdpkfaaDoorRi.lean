/- sum: an array of 32 bytes that comes in by value, opened. -/
import Derived.Test.YtbgmepepcdpkfaaDoorRe
import Derived.OpenShut
import Derived.WideShapes
import Derived.Lib.LaidTab
namespace Go.Proofs.YtbgmepepcdpkfaaDoor
open Go.ChangeShapes Go.WideShapes Go.ChangeAt Go.RowKit
set_option linter.unusedVariables false

theorem acells : Tryd.prog.cellsOf 23 = 32 := by kernel_rfl
theorem acells8 : Tryd.prog.cellsOf 5 = 1 := by kernel_rfl
theorem came_arr {H : Type} {enc : TypeId × Value → H} {W : World} {r : Reach} {b0 : Nat} {v : Value} {d : DataW H} {p : List MemPlace} (hv : Value.okWide Tryd.prog W r b0 23 v) (h : DataW.Trod enc Tryd.prog W 0 (fun _ => true) true 23 v d p) :
    ∃ xs : List Nat, v = .agg (cl xs).toArray ∧ xs.length = 32 ∧ By xs := by
  simp only [Value.okWide, Tryd.underlying23] at hv
  obtain ⟨cs, rfl, hsz, _⟩ := hv
  rw [acells] at hsz
  obtain ⟨l⟩ := cs
  replace hsz : l.length = 32 := by simpa using hsz
  obtain ⟨fuel, hf⟩ := h
  cases fuel with
  | zero => simp [DataW.trod] at hf
  | succ fuel =>
    simp only [DataW.trod, Tryd.underlying23, acells, acells8] at hf
    split at hf
    · obtain ⟨ys, hm, _⟩ := Option.map_eq_some_iff.1 hf
      have each : ∀ i, ∃ n : Nat, i < 32 → l[i]? = some (.int .u8 (n : Int)) ∧ n ≤ 255 := by
        intro i
        by_cases hi : i < 32
        · obtain ⟨b, _, hb⟩ := Go.Lib.mapM_at hm i i (by simp [hi])
          obtain ⟨z, hc, _, hw⟩ := DataW.trod_int Tryd.underlying5 hb
          have hz : 0 ≤ z ∧ z ≤ 255 := by simpa [Lit.wf, IntKind.min, IntKind.max, IntKind.signed, IntKind.bits] using hw
          have h1 : l[i]? = some (.int .u8 z) := by
            have := congrArg (·[0]?) hc
            simpa [Value.cells, List.getElem?_take, List.getElem?_drop] using this
          refine ⟨z.toNat, fun _ => ⟨?_, by omega⟩⟩
          rw [h1, show ((z.toNat : Nat) : Int) = z by omega]
        · exact ⟨0, fun h => absurd h hi⟩
      obtain ⟨f, hf⟩ := Classical.skolem.1 each
      refine ⟨(List.range 32).map f, ?_, by simp, fun x hx => ?_⟩
      · congr 1
        show (⟨l⟩ : Array Value) = ⟨cl ((List.range 32).map f)⟩
        congr 1
        apply List.ext_getElem?
        intro i
        by_cases hi : i < 32
        · rw [(hf i hi).1]
          simp [cl, hi]
        · rw [List.getElem?_eq_none (by omega), List.getElem?_eq_none (by simp [cl]; omega)]
      · obtain ⟨i, hi, rfl⟩ := List.mem_map.1 hx
        have := (hf i (List.mem_range.1 hi)).2
        omega
    · cases hf
end Go.Proofs.YtbgmepepcdpkfaaDoor
