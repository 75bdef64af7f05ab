/- ProdPlays: for all versions, one behind the other, and all questions the law answers true: each is added or refused as the document says, List answers them all, At answers as the document says, and what is written into the tiers that were handed in or answered changes nothing. No condition beyond the row. -/
import Derived.Test.YtgbphbeafomabaaRows
import Derived.WalkKit
import Derived.ProofKit
import Derived.OpenShut
import Derived.SizedLaws
import Derived.Test.YtgbphbeafomabaaHl
import Derived.Test.YtgbphbeafomabaaGu
namespace Go.Proofs.Ytgbphbeafomabaa.prodPlays
open Go.ChangeShapes Go.WideShapes Go.ChangeAt Go.RowKit
set_option linter.unusedVariables false

theorem own : ownKnob Try.prog.godebug = none := by kernel_rfl
theorem laidOut : laidOutB Try.prog = true := by kernel_rfl
set_option maxRecDepth 100000 in
theorem lifted (os : Os) (started : os.Started) (H : Type) (enc : TypeId × Value → H) :
    ReturnsInHanded {} Try.checked os 4 .any (Rows.prodPlaysSpec.pre6 enc Try.prog Try.f4 Rows.prodPlaysRow.domain false) (Rows.prodPlaysSpec.post enc Try.prog Try.f4 false true false false) := by
  refine returnsInHanded_of_change_sized (C := Try.checked) own started (by kernel_rfl) Try.func4
    (ChangeSpec.witness6 (enc := enc) (C := Try.checked) false ⟨#[], #[.slice none 0 0, .slice none 0 0], []⟩ 8 (by kernel_rfl) (by kernel_rfl) (by kernel_rfl) (by kernel_rfl)) ?_
  intro W base args ds gs before hval0 hW hcnd hz0 _
  have hval : ∀ (j : Nat) t v, Try.f4.params[j]? = some t → args[j]? = some v → Value.okWide Try.prog W .any base t v := hval0
  have hz : (DataW.weightsEach Try.prog (Try.f4.params.toList ++ Rows.prodPlaysSpec.plain.varTypes Try.prog) (ds ++ gs)).all (· ≤ reachBytes) = true := hz0
  have hW' := hW
  obtain ⟨p, q, hA0, hV, rfl, hfz, hnd⟩ := hW
  have hA : DataW.TrodAll enc Try.prog W 0 (fun _ => true) true Try.f4.params.toList args.toList ds p := hA0
  rw [Try.params4] at hA hval
  obtain ⟨v0, vs0, d0, ds0, p0, q0, hargs, rfl, rfl, hr0, r0⟩ := trodAll_cons hA
  obtain ⟨v1, vs1, d1, ds1, p1, q1, rfl, rfl, rfl, hr1, r1⟩ := trodAll_cons r0
  obtain ⟨rfl, rfl, rfl⟩ := trodAll_nil r1
  obtain rfl : args = #[v0, v1] := by cases args; simp_all
  obtain ⟨rfl, rfl⟩ := trodVars_none hV
  obtain ⟨b0, len0, cap0, rfl⟩ := okWide_slice Try.underlying38 (hval 0 38 v0 rfl rfl)
  have hk0 := hr0
  obtain ⟨fuel0, hf0⟩ := hr0
  obtain ⟨xs0, X0⟩ := came_pvs (R := 140737488351232) hf0 (fun n hn => by
    have h1 := List.all_eq_true.1 hz n (DataW.weights_mem_each (j := 0) (t := 38) (by rw [Try.params4]; rfl) (by rfl) n hn)
    rw [show reachBytes = 140737488351232 by decide] at h1
    simpa using h1)
  obtain ⟨b1, len1, cap1, rfl⟩ := okWide_slice Try.underlying39 (hval 1 39 v1 rfl rfl)
  have hk1 := hr1
  obtain ⟨fuel1, hf1⟩ := hr1
  obtain ⟨u1, qs1, eu1, Q1, _⟩ := came_asks hf1
  obtain rfl : u1 = .slice b1 len1 cap1 := by simpa [Value.cells] using eu1.symm
  clear hA0 hval0 hz0
  simp only [List.append_nil] at hW'
  have hlt0 : ∀ x ∈ p0, x.block < W.heap.size := fun x hx => hW'.lt x (by simp [hx])
  have hlt1 : ∀ x ∈ p1, x.block < W.heap.size := fun x hx => hW'.lt x (by simp [hx])
  have walk : Calls Try.prog 4 #[.slice b0 len0 cap0, .slice b1 len1 cap1] W fun e w' => e = .returned (.bool true) ∧ Below W.heap.size W w' := plays_walk _ xs0 _ qs1 W X0 Q1
  refine walk.mono fun e W' ⟨he, hg⟩ => ?_
  subst he
  exact ⟨_, rfl, _, _, _, [], _, [], hW', trodAll_cons_mk (shut_bool Try.underlying4 _) trodAll_mk0, (trodAll_cons_mk (Below.trod laidOut (by kernel_rfl) (of_decide_eq_true (by kernel_rfl)) hk0 hg hlt0) (trodAll_cons_mk (Below.trod laidOut (by kernel_rfl) (of_decide_eq_true (by kernel_rfl)) hk1 hg hlt1) trodAll_mk0)), rfl, hg.frame _, fun h => by cases h⟩
theorem over : Rows.prodPlaysRow.holds Try.pinned (OpenSpec.ofChange Rows.prodPlaysSpec) :=
  OpenClaim.holds_of_wide 4 Try.f4 rfl rfl rfl rfl rfl rfl rfl ⟨rfl, rfl, rfl, rfl, rfl⟩ rfl rfl rfl rfl rfl (by kernel_rfl) Try.func4 (by kernel_rfl)
    (of_decide_eq_true (by kernel_rfl)) (by unfold Func.isWrapper; first | (rw [if_pos (by decide +kernel)]; kernel_rfl) | (rw [if_neg (by decide +kernel)]; exact ⟨rfl, rfl⟩))
    (fun os started H enc _ => lifted os started H enc)
end Go.Proofs.Ytgbphbeafomabaa.prodPlays
namespace Go.Proofs.Ytgbphbeafomabaa
theorem prodPlays_holds : Rows.ProdPlaysSaid := prodPlays.over
#print axioms prodPlays_holds
end Go.Proofs.Ytgbphbeafomabaa
