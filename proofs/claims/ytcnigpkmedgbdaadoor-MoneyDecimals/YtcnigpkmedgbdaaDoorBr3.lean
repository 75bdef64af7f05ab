/- MoneyDecimals: every decimal is rounded to minor units as it is said, and every amount is a decimal, which is the amount again by every mode: the law answers true for all inputs. Conditions: those of the row alone (the table of currencies is laid as the text lays it). -/
import Derived.Test.YtcnigpkmedgbdaaDoorCards
import Derived.Test.YtcnigpkmedgbdaaDoorTie
import Derived.WalkKit
import Derived.ProofKit
import Derived.OpenShut
import Derived.Deep.DeepHandedRow
import Derived.Lib.SmallJoins
import Derived.Test.YtcnigpkmedgbdaaDoorBk
import Derived.Test.YtcnigpkmedgbdaaDoorBp
namespace Go.Proofs.YtcnigpkmedgbdaaDoor.moneyDecimals
open Go.ChangeShapes Go.WideShapes Go.ChangeAt Go.RowKit Go.Joins
set_option linter.unusedVariables false

theorem cellsMny : Tryd.prog.cellsOf 23 = 2 := by kernel_rfl
theorem mnyReads {H : Type} {enc : TypeId × Value → H} (W' : World) (b : Nat) (sp : Nat → Bool) (hd : Bool) (c n : Int) (wc : (Lit.int .i64 c).wf = true) (wn : (Lit.int .i64 n).wf = true) :
    DataW.Trod enc Tryd.prog W' b sp hd 23 (.agg #[.int .i64 c, .int .i64 n]) (.agg [.lit (.int .i64 c), .lit (.int .i64 n)]) [] := by
  simpa using shut_agg2 (enc := enc) (w := W') (base := b) (spare := sp) (held := hd) (y0 := (.lit (.int .i64 c), [])) (y1 := (.lit (.int .i64 n), [])) Tryd.underlying23 (by kernel_rfl) cellsMny ⟨1, by simp [DataW.trod, Tryd.underlying3, wc]⟩ ⟨1, by simp [DataW.trod, Tryd.underlying2, wn]⟩
theorem cellsDec : Tryd.prog.cellsOf 60 = 3 := by kernel_rfl
theorem decReads {H : Type} {enc : TypeId × Value → H} (W' : World) (b : Nat) (sp : Nat → Bool) (hd : Bool) (h l s : Int) (wh : (Lit.int .i64 h).wf = true) (wl : (Lit.int .u64 l).wf = true) (ws : (Lit.int .i64 s).wf = true) :
    DataW.Trod enc Tryd.prog W' b sp hd 60 (.agg #[.int .i64 h, .int .u64 l, .int .i64 s]) (.agg [.lit (.int .i64 h), .lit (.int .u64 l), .lit (.int .i64 s)]) [] := by
  simpa using shut_agg3 (enc := enc) (w := W') (base := b) (spare := sp) (held := hd) (y0 := (.lit (.int .i64 h), [])) (y1 := (.lit (.int .u64 l), [])) (y2 := (.lit (.int .i64 s), [])) Tryd.underlying60 (by kernel_rfl) cellsDec ⟨1, by simp [DataW.trod, Tryd.underlying2, wh]⟩ ⟨1, by simp [DataW.trod, Tryd.underlying55, wl]⟩ ⟨1, by simp [DataW.trod, Tryd.underlying3, ws]⟩
theorem own : ownKnob Tryd.prog.godebug = none := by kernel_rfl
set_option maxRecDepth 100000 in
theorem contract (H : Type) (enc : TypeId × Value → H) (W : World) (base : Nat) (args : Array Value) (ds gs : List (DataW H)) (before : List MemPlace)
    (hval : ∀ (j : Nat) t v, Tryd.f6.params[j]? = some t → args[j]? = some v → Value.okWide Tryd.prog W .any base t v)
    (hW : DataW.Whole enc Tryd.prog Tryd.f6.params.toList Rows.moneyDecimalsSpec.vars false W args.toList ds gs before) (hL : laidMetH Tryd.prog Rows.moneyDecimalsRow.laid W) :
    Calls Tryd.prog 6 args W fun e W' => ∃ v, e = .returned v ∧ Rows.moneyDecimalsSpec.post enc Tryd.prog Tryd.f6 false true false false W args v W' := by
  have hW' := hW
  obtain ⟨p, q, hA0, hV, rfl, hfz, hnd⟩ := hW
  have hA : DataW.TrodAll enc Tryd.prog W 0 (fun _ => true) true Tryd.f6.params.toList args.toList ds p := hA0
  rw [Tryd.params6] at hA hval
  obtain ⟨v0, vs0, d0, ds0, p0, q0, hargs, rfl, rfl, h0, r0⟩ := trodAll_cons hA
  obtain ⟨v1, vs1, d1, ds1, p1, q1, rfl, rfl, rfl, h1, r1⟩ := trodAll_cons r0
  obtain ⟨v2, vs2, d2, ds2, p2, q2, rfl, rfl, rfl, h2, r2⟩ := trodAll_cons r1
  obtain ⟨v3, vs3, d3, ds3, p3, q3, rfl, rfl, rfl, h3, r3⟩ := trodAll_cons r2
  obtain ⟨rfl, rfl, rfl⟩ := trodAll_nil r3
  obtain rfl : args = #[v0, v1, v2, v3] := by cases args; simp_all
  obtain ⟨rfl, rfl⟩ := trodVars_none hV
  obtain ⟨c00, c01, c02, y00, y01, y02, m0, rfl, rfl, rfl, hy00, hy01, hy02⟩ := open_agg3 Tryd.underlying60 (by kernel_rfl) cellsDec (hval 0 60 v0 rfl rfl) h0
  obtain ⟨dh0, e00, rfl, wh0⟩ := DataW.trod_int Tryd.underlying2 hy00
  obtain ⟨dl0, e01, rfl, wl0⟩ := DataW.trod_int Tryd.underlying55 hy01
  obtain ⟨ds_0, e02, rfl, ws0⟩ := DataW.trod_int Tryd.underlying3 hy02
  simp at e00 e01 e02
  subst e00 e01 e02
  obtain ⟨a1, rfl, rfl, rfl, w1⟩ := open_int Tryd.underlying3 (hval 1 3 v1 rfl rfl) h1
  obtain ⟨a2, rfl, rfl, rfl, w2⟩ := open_int Tryd.underlying3 (hval 2 3 v2 rfl rfl) h2
  obtain ⟨c30, c31, y30, y31, m3, rfl, rfl, rfl, hy30, hy31⟩ := open_agg2 Tryd.underlying23 (by kernel_rfl) cellsMny (hval 3 23 v3 rfl rfl) h3
  obtain ⟨mc3, e30, rfl, wc3⟩ := DataW.trod_int Tryd.underlying3 hy30
  obtain ⟨mn3, e31, rfl, wn3⟩ := DataW.trod_int Tryd.underlying2 hy31
  simp at e30 e31
  subst e30 e31
  clear hA0
  simp only [List.append_nil] at hW'
  rw [MakeChecks.laidMetH_plain _ _ _ (by kernel_rfl)] at hL
  have hL2 : laidMet Tryd.prog (("passbook/money.currencies", pairData curs) :: []) W := hL
  have HCU : Cu W := cu_of hL2
  have HCN : Cn W := cn_of hL2
  clear hL hL2
  have walk : Calls Tryd.prog 6 #[.agg #[.int .i64 dh0, .int .u64 dl0, .int .i64 ds_0], .int .i64 a1, .int .i64 a2, .agg #[.int .i64 mc3, .int .i64 mn3]] W fun e w' => e = .returned (.bool true) ∧ Below W.heap.size W w' := decs_walk dh0 dl0 ds_0 a1 a2 mc3 mn3 W HCU HCN wh0 wl0
  refine walk.mono fun e W' ⟨he, hg⟩ => ?_
  subst he
  exact ⟨_, rfl, _, _, _, [], _, [], hW', trodAll_cons_mk (shut_bool Tryd.underlying4 _) trodAll_mk0, (trodAll_cons_mk (decReads _ _ _ _ dh0 dl0 ds_0 wh0 wl0 ws0) (trodAll_cons_mk (shut_int Tryd.underlying3 w1) (trodAll_cons_mk (shut_int Tryd.underlying3 w2) (trodAll_cons_mk (mnyReads _ _ _ _ mc3 mn3 wc3 wn3) trodAll_mk0)))), rfl, hg.frame _, fun h => by cases h⟩

/-- A world that holds the tables. -/
def put (cs : Array Value) : Obj → Obj
  | .cells _ t frozen => .cells cs t frozen
  | o => o
noncomputable def laidWorld (os : Os) : World :=
  { World.holding Tryd.prog os ⟨#[], #[], []⟩ with heap := ((World.holding Tryd.prog os ⟨#[], #[], []⟩).heap).modify 0 (put #[.string ⟨#[69, 85, 82]⟩, .int .i64 2, .string ⟨#[85, 83, 68]⟩, .int .i64 2, .string ⟨#[74, 80, 89]⟩, .int .i64 0, .string ⟨#[75, 87, 68]⟩, .int .i64 3]) }
theorem laid_met (os : Os) : laidMet Tryd.prog Rows.moneyDecimalsRow.laid ((laidWorld os).forCall (fun _ _ => 0) ⟨#[], #[.agg #[.int .i64 0, .int .u64 0, .int .i64 0], .int .i64 0, .int .i64 0, .agg #[.int .i64 0, .int .i64 0]], []⟩).memory :=
  laidMet_of_run' 8 (by kernel_rfl) (by kernel_rfl)
theorem reads (os : Os) {H : Type} (enc : TypeId × Value → H) : ∃ places, DataW.whole enc Tryd.prog ((laidWorld os).forCall (fun _ _ => 0) ⟨#[], #[.agg #[.int .i64 0, .int .u64 0, .int .i64 0], .int .i64 0, .int .i64 0, .agg #[.int .i64 0, .int .i64 0]], []⟩).memory Tryd.f6.params.toList Rows.moneyDecimalsSpec.vars false (#[Value.agg #[.int .i64 0, .int .u64 0, .int .i64 0], Value.int .i64 0, Value.int .i64 0, Value.agg #[.int .i64 0, .int .i64 0]] : Array Value).toList 8 = some ([.agg [.lit (.int .i64 0), .lit (.int .u64 0), .lit (.int .i64 0)], .lit (.int .i64 0), .lit (.int .i64 0), .agg [.lit (.int .i64 0), .lit (.int .i64 0)]], [], places) :=
  ⟨[], by kernel_rfl⟩

set_option maxRecDepth 100000 in
theorem lifted (os : Os) (started : os.Started) (H : Type) (enc : TypeId × Value → H) (F : Stop.Interp) :
    ReturnsInHanded {} Tryd.checked os 6 .any ((OpenSpec.ofChange Rows.moneyDecimalsSpec).preRow enc Tryd.prog Tryd.f6 Rows.moneyDecimalsRow.domain false Rows.moneyDecimalsRow.laid) (((OpenSpec.ofChange Rows.moneyDecimalsSpec).at F).post enc Tryd.prog Tryd.f6 false true false false) := by
  obtain ⟨places, hx⟩ := reads os enc
  refine returnsInHanded_of_row (C := Tryd.checked) (s := OpenSpec.ofChange Rows.moneyDecimalsSpec) own started (by kernel_rfl) Tryd.func6
    (witness_row_at (enc := enc) (C := Tryd.checked) false (laidWorld os) #[.agg #[.int .i64 0, .int .u64 0, .int .i64 0], .int .i64 0, .int .i64 0, .agg #[.int .i64 0, .int .i64 0]] rfl (by kernel_rfl) (by kernel_rfl) (by kernel_rfl)
      (OpenSpec.preRow_of_cond 8 hx (by kernel_rfl) (fun k hk => by cases hk) (by kernel_rfl) (laid_met os))) ?_
  intro W base args ds gs before hval hW _ _ _ hL _ _
  exact contract H enc W base args ds gs before hval hW hL
theorem said : Rows.MoneyDecimalsSaid :=
  OpenClaim.holds_of_cond 6 Tryd.f6 rfl rfl rfl rfl rfl rfl rfl ⟨rfl, rfl, rfl, rfl, rfl⟩ rfl rfl rfl rfl rfl (by kernel_rfl) Tryd.func6 (by kernel_rfl)
    (of_decide_eq_true (by kernel_rfl)) (by unfold Func.isWrapper; first | (rw [if_pos (by decide +kernel)]; kernel_rfl) | (rw [if_neg (by decide +kernel)]; exact ⟨rfl, rfl⟩))
    (fun os started H enc _ F => by rw [OpenClaim.pre_eq_preRow]; exact lifted os started H enc F)
theorem plain (f : FuncId) (fn : Func) (hf : Tryd.pinned.checked.prog.funcNamed "passbook/passbooklaw05.MoneyDecimals" = some f) (hfn : Tryd.pinned.checked.prog.funcs[f]? = some fn) :
    false = Tryd.pinned.checked.prog.looks [] ∧ ∀ (j : Nat) t, fn.params[j]? = some t → Tryd.pinned.checked.prog.wantsStandIn t = false := by
  obtain rfl : f = 6 := Option.some.inj ((show Tryd.prog.funcNamed "passbook/passbooklaw05.MoneyDecimals" = some 6 by kernel_rfl).symm.trans hf) |>.symm
  obtain rfl : fn = Tryd.f6 := (Option.some.inj (Tryd.func6.symm.trans hfn)).symm
  refine ⟨by kernel_rfl, fun j t ht => ?_⟩
  rw [Tryd.params6] at ht
  have ht2 := Array.mem_of_getElem? ht
  simp at ht2
  rcases ht2 with rfl | rfl | rfl
  · exact (show Tryd.prog.wantsStandIn 60 = false by kernel_rfl)
  · exact (show Tryd.prog.wantsStandIn 3 = false by kernel_rfl)
  · exact (show Tryd.prog.wantsStandIn 23 = false by kernel_rfl)

theorem card : Rows.MoneyDecimalsCardSaid :=
  Claim7.holds_tied_plain_at .later [] _ _ _ _ said (fun _ h => by cases h) (by kernel_rfl) (fun _ h => by cases h) moneyDecimals_row_tie rfl ⟨rfl, rfl⟩ (by kernel_rfl) rfl plain (by kernel_rfl)
end Go.Proofs.YtcnigpkmedgbdaaDoor.moneyDecimals
namespace Go.Proofs.YtcnigpkmedgbdaaDoor
theorem moneyDecimals_holds : Rows.MoneyDecimalsCardSaid := moneyDecimals.card
#print axioms moneyDecimals_holds
end Go.Proofs.YtcnigpkmedgbdaaDoor
