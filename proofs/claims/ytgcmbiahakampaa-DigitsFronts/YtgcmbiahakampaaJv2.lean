/- DigitsFronts: a text that is cut off is refused at its end, or is a text itself; a byte that is wrong is refused where it stands, whatever follows: the law answers true for all inputs. Conditions: those of the row alone. -/
import Derived.Test.YtgcmbiahakampaaRows
import Derived.WalkKit
import Derived.ProofKit
import Derived.OpenShut
import Derived.Lib.SmallJoins
import Derived.SizedLaws
import Derived.ChangeMaps5
import Derived.Test.YtgcmbiahakampaaJx
namespace Go.Proofs.Ytgcmbiahakampaa.digitsFronts
open Go.ChangeShapes Go.WideShapes Go.ChangeAt Go.RowKit Go.Joins Go.ChangeMaps
set_option linter.unusedVariables false

theorem own : ownKnob Try.prog.godebug = none := by kernel_rfl
theorem cellsDec : Try.prog.cellsOf 24 = 3 := by kernel_rfl
theorem decReads {H : Type} {enc : TypeId × Value → H} (W' : World) (b : Nat) (sp : Nat → Bool) (hd : Bool) (h l s : Int) (wh : (Lit.int .i64 h).wf = true) (wl : (Lit.int .u64 l).wf = true) (ws : (Lit.int .i64 s).wf = true) :
    DataW.Trod enc Try.prog W' b sp hd 24 (.agg #[.int .i64 h, .int .u64 l, .int .i64 s]) (.agg [.lit (.int .i64 h), .lit (.int .u64 l), .lit (.int .i64 s)]) [] := by
  simpa using shut_agg3 (enc := enc) (w := W') (base := b) (spare := sp) (held := hd) (y0 := (.lit (.int .i64 h), [])) (y1 := (.lit (.int .u64 l), [])) (y2 := (.lit (.int .i64 s), [])) Try.underlying24 (by kernel_rfl) cellsDec ⟨1, by simp [DataW.trod, Try.underlying2, wh]⟩ ⟨1, by simp [DataW.trod, Try.underlying22, wl]⟩ ⟨1, by simp [DataW.trod, Try.underlying3, ws]⟩

set_option maxRecDepth 100000 in
theorem lifted (os : Os) (started : os.Started) (H : Type) (enc : TypeId × Value → H) :
    ReturnsInHanded {} Try.checked os 5 .any (Rows.digitsFrontsSpec.pre6 enc Try.prog Try.f5 Rows.digitsFrontsRow.domain false) (Rows.digitsFrontsSpec.post enc Try.prog Try.f5 false true false false) := by
  refine returnsInHanded_of_change_sized (C := Try.checked) own started (by kernel_rfl) Try.func5
    (ChangeSpec.witness6 (enc := enc) (C := Try.checked) false ⟨#[], #[.agg #[.int .i64 0, .int .u64 0, .int .i64 0], .int .u8 0, .int .u8 0, .string ⟨#[]⟩], []⟩ 8 (by kernel_rfl) (by kernel_rfl) (by kernel_rfl) (by kernel_rfl)) ?_
  intro W base args ds gs before hval0 hW hcnd hz0 _
  have hval : ∀ (j : Nat) t v, Try.f5.params[j]? = some t → args[j]? = some v → Value.okWide Try.prog W .any base t v := hval0
  have hz : (DataW.weightsEach Try.prog (Try.f5.params.toList ++ Rows.digitsFrontsSpec.plain.varTypes Try.prog) (ds ++ gs)).all (· ≤ reachBytes) = true := hz0
  have hW' := hW
  obtain ⟨p, q, hA0, hV, rfl, hfz, hnd⟩ := hW
  have hA : DataW.TrodAll enc Try.prog W 0 (fun _ => true) true Try.f5.params.toList args.toList ds p := hA0
  rw [Try.params5] at hA hval
  obtain ⟨v0, vs0, d0, ds0, p0, q0, hargs, rfl, rfl, hr0, r0⟩ := trodAll_cons hA
  obtain ⟨v1, vs1, d1, ds1, p1, q1, rfl, rfl, rfl, hr1, r1⟩ := trodAll_cons r0
  obtain ⟨v2, vs2, d2, ds2, p2, q2, rfl, rfl, rfl, hr2, r2⟩ := trodAll_cons r1
  obtain ⟨v3, vs3, d3, ds3, p3, q3, rfl, rfl, rfl, hr3, r3⟩ := trodAll_cons r2
  obtain ⟨rfl, rfl, rfl⟩ := trodAll_nil r3
  obtain rfl : args = #[v0, v1, v2, v3] := by cases args; simp_all
  obtain ⟨rfl, rfl⟩ := trodVars_none hV
  obtain ⟨c00, c01, c02, y00, y01, y02, m0, rfl, rfl, rfl, hy00, hy01, hy02⟩ := open_agg3 Try.underlying24 (by kernel_rfl) cellsDec (hval 0 24 v0 rfl rfl) hr0
  obtain ⟨h0, e00, rfl, wh0⟩ := DataW.trod_int Try.underlying2 hy00
  obtain ⟨l0, e01, rfl, wl0⟩ := DataW.trod_int Try.underlying22 hy01
  obtain ⟨s0, e02, rfl, ws0⟩ := DataW.trod_int Try.underlying3 hy02
  simp at e00 e01 e02
  subst e00 e01 e02
  obtain ⟨a1, rfl, rfl, rfl, w1⟩ := open_int Try.underlying5 (hval 1 5 v1 rfl rfl) hr1
  obtain ⟨a2, rfl, rfl, rfl, w2⟩ := open_int Try.underlying5 (hval 2 5 v2 rfl rfl) hr2
  obtain ⟨s3, rfl, rfl, rfl, w3⟩ := open_string Try.underlying9 (hval 3 9 v3 rfl rfl) hr3
  have L3 : s3.size ≤ 140737488351232 := by
    have h1 := sized_string (j := 3) (t := 9) hz (by rw [Try.params5]; rfl) (by rfl)
    rw [show reachBytes = 140737488351232 by decide] at h1
    simpa using h1
  clear hA0 hval0 hz0
  simp only [List.append_nil] at hW'
  have walk : Calls Try.prog 5 #[.agg #[.int .i64 h0, .int .u64 l0, .int .i64 s0], .int .u8 a1, .int .u8 a2, .string s3] W fun e w' => e = .returned (.bool true) ∧ Below W.heap.size W w' := fronts_walk h0 l0 s0 a1 a2 s3 W wh0 wl0 w1 w2 L3
  refine walk.mono fun e W' ⟨he, hg⟩ => ?_
  subst he
  exact ⟨_, rfl, _, _, _, [], [], [], hW', trodAll_cons_mk (shut_bool Try.underlying4 _) trodAll_mk0, (trodAll_cons_mk (decReads _ _ _ _ h0 l0 s0 wh0 wl0 ws0) (trodAll_cons_mk (shut_int Try.underlying5 w1) (trodAll_cons_mk (shut_int Try.underlying5 w2) (trodAll_cons_mk (shut_string Try.underlying9 w3) trodAll_mk0)))), rfl, hg.frame _, fun h => by cases h⟩
theorem over : Rows.digitsFrontsRow.holds Try.pinned (OpenSpec.ofChange Rows.digitsFrontsSpec) :=
  OpenClaim.holds_of_wide 5 Try.f5 rfl rfl rfl rfl rfl rfl rfl ⟨rfl, rfl, rfl, rfl, rfl⟩ rfl rfl rfl rfl rfl (by kernel_rfl) Try.func5 (by kernel_rfl)
    (of_decide_eq_true (by kernel_rfl)) (by unfold Func.isWrapper; first | (rw [if_pos (by decide +kernel)]; kernel_rfl) | (rw [if_neg (by decide +kernel)]; exact ⟨rfl, rfl⟩))
    (fun os started H enc _ => lifted os started H enc)
end Go.Proofs.Ytgcmbiahakampaa.digitsFronts
namespace Go.Proofs.Ytgcmbiahakampaa
theorem digitsFronts_holds : Rows.DigitsFrontsSaid := digitsFronts.over
#print axioms digitsFronts_holds
end Go.Proofs.Ytgcmbiahakampaa
