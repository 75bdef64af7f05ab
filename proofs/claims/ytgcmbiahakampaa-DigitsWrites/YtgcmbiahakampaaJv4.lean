/- DigitsWrites: every decimal has its text, and is read again from it: the law answers true for all inputs. Conditions: those of the row alone. -/
import Derived.Test.YtgcmbiahakampaaRows
import Derived.WalkKit
import Derived.ProofKit
import Derived.OpenShut
import Derived.Lib.SmallJoins
import Derived.Test.YtgcmbiahakampaaZc
namespace Go.Proofs.Ytgcmbiahakampaa.digitsWrites
open Go.ChangeShapes Go.WideShapes Go.ChangeAt Go.RowKit Go.Joins
set_option linter.unusedVariables false

theorem own : ownKnob Try.prog.godebug = none := by kernel_rfl
theorem cellsDec : Try.prog.cellsOf 24 = 3 := by kernel_rfl
theorem decReads {H : Type} {enc : TypeId × Value → H} (W' : World) (b : Nat) (sp : Nat → Bool) (hd : Bool) (h l s : Int) (wh : (Lit.int .i64 h).wf = true) (wl : (Lit.int .u64 l).wf = true) (ws : (Lit.int .i64 s).wf = true) :
    DataW.Trod enc Try.prog W' b sp hd 24 (.agg #[.int .i64 h, .int .u64 l, .int .i64 s]) (.agg [.lit (.int .i64 h), .lit (.int .u64 l), .lit (.int .i64 s)]) [] := by
  simpa using shut_agg3 (enc := enc) (w := W') (base := b) (spare := sp) (held := hd) (y0 := (.lit (.int .i64 h), [])) (y1 := (.lit (.int .u64 l), [])) (y2 := (.lit (.int .i64 s), [])) Try.underlying24 (by kernel_rfl) cellsDec ⟨1, by simp [DataW.trod, Try.underlying2, wh]⟩ ⟨1, by simp [DataW.trod, Try.underlying22, wl]⟩ ⟨1, by simp [DataW.trod, Try.underlying3, ws]⟩

set_option maxRecDepth 100000 in
theorem lifted (os : Os) (started : os.Started) (H : Type) (enc : TypeId × Value → H) :
    ReturnsInHanded {} Try.checked os 3 .any (Rows.digitsWritesSpec.pre6 enc Try.prog Try.f3 Rows.digitsWritesRow.domain false) (Rows.digitsWritesSpec.post enc Try.prog Try.f3 false true false false) := by
  refine returnsInHanded_of_change (C := Try.checked) own started (by kernel_rfl) Try.func3
    (ChangeSpec.witness6 (enc := enc) (C := Try.checked) false ⟨#[], #[.agg #[.int .i64 0, .int .u64 0, .int .i64 0]], []⟩ 8 (by kernel_rfl) (by kernel_rfl) (by kernel_rfl) (by kernel_rfl)) ?_
  intro W base args ds gs before hval0 hW hcnd _
  have hval : ∀ (j : Nat) t v, Try.f3.params[j]? = some t → args[j]? = some v → Value.okWide Try.prog W .any base t v := hval0
  have hW' := hW
  obtain ⟨p, q, hA0, hV, rfl, hfz, hnd⟩ := hW
  have hA : DataW.TrodAll enc Try.prog W 0 (fun _ => true) true Try.f3.params.toList args.toList ds p := hA0
  rw [Try.params3] at hA hval
  obtain ⟨v0, vs0, d0, ds0, p0, q0, hargs, rfl, rfl, hr0, r0⟩ := trodAll_cons hA
  obtain ⟨rfl, rfl, rfl⟩ := trodAll_nil r0
  obtain rfl : args = #[v0] := by cases args; simp_all
  obtain ⟨rfl, rfl⟩ := trodVars_none hV
  obtain ⟨c00, c01, c02, y00, y01, y02, m0, rfl, rfl, rfl, hy00, hy01, hy02⟩ := open_agg3 Try.underlying24 (by kernel_rfl) cellsDec (hval 0 24 v0 rfl rfl) hr0
  obtain ⟨h0, e00, rfl, wh0⟩ := DataW.trod_int Try.underlying2 hy00
  obtain ⟨l0, e01, rfl, wl0⟩ := DataW.trod_int Try.underlying22 hy01
  obtain ⟨s0, e02, rfl, ws0⟩ := DataW.trod_int Try.underlying3 hy02
  simp at e00 e01 e02
  subst e00 e01 e02
  clear hA0 hval0
  simp only [List.append_nil] at hW'
  have walk : Calls Try.prog 3 #[.agg #[.int .i64 h0, .int .u64 l0, .int .i64 s0]] W fun e w' => e = .returned (.bool true) ∧ Below W.heap.size W w' := writes_walk h0 l0 s0 W wh0 wl0
  refine walk.mono fun e W' ⟨he, hg⟩ => ?_
  subst he
  exact ⟨_, rfl, _, _, _, [], [], [], hW', trodAll_cons_mk (shut_bool Try.underlying4 _) trodAll_mk0, (trodAll_cons_mk (decReads _ _ _ _ h0 l0 s0 wh0 wl0 ws0) trodAll_mk0), rfl, hg.frame _, fun h => by cases h⟩
theorem over : Rows.digitsWritesRow.holds Try.pinned (OpenSpec.ofChange Rows.digitsWritesSpec) :=
  OpenClaim.holds_of_wide 3 Try.f3 rfl rfl rfl rfl rfl rfl rfl ⟨rfl, rfl, rfl, rfl, rfl⟩ rfl rfl rfl rfl rfl (by kernel_rfl) Try.func3 (by kernel_rfl)
    (of_decide_eq_true (by kernel_rfl)) (by unfold Func.isWrapper; first | (rw [if_pos (by decide +kernel)]; kernel_rfl) | (rw [if_neg (by decide +kernel)]; exact ⟨rfl, rfl⟩))
    (fun os started H enc _ => lifted os started H enc)
end Go.Proofs.Ytgcmbiahakampaa.digitsWrites
namespace Go.Proofs.Ytgcmbiahakampaa
theorem digitsWrites_holds : Rows.DigitsWritesSaid := digitsWrites.over
#print axioms digitsWrites_holds
end Go.Proofs.Ytgcmbiahakampaa
