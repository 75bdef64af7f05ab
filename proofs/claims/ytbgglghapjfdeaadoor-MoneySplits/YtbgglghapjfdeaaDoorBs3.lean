/- MoneySplits: every amount is split by weights as it is said; the weights come back untouched, spare room too: the law answers true for all inputs. Conditions: those of the row alone (the table of currencies is laid as the text lays it). -/
import Derived.Test.YtbgglghapjfdeaaDoorCards
import Derived.Test.YtbgglghapjfdeaaDoorTie
import Derived.WalkKit
import Derived.ProofKit
import Derived.OpenShut
import Derived.Deep.DeepHandedRow
import Derived.Lib.SmallJoins
import Derived.Test.YtbgglghapjfdeaaDoorBk
import Derived.Test.YtbgglghapjfdeaaDoorSsr
import Derived.Test.YtbgglghapjfdeaaDoorSte
namespace Go.Proofs.YtbgglghapjfdeaaDoor.moneySplits
open Go.ChangeShapes Go.WideShapes Go.ChangeAt Go.RowKit Go.Joins
set_option linter.unusedVariables false

theorem cellsMny : Tryd.prog.cellsOf 23 = 2 := by kernel_rfl
theorem mnyReads {H : Type} {enc : TypeId × Value → H} (W' : World) (b : Nat) (sp : Nat → Bool) (hd : Bool) (c n : Int) (wc : (Lit.int .i64 c).wf = true) (wn : (Lit.int .i64 n).wf = true) :
    DataW.Trod enc Tryd.prog W' b sp hd 23 (.agg #[.int .i64 c, .int .i64 n]) (.agg [.lit (.int .i64 c), .lit (.int .i64 n)]) [] := by
  simpa using shut_agg2 (enc := enc) (w := W') (base := b) (spare := sp) (held := hd) (y0 := (.lit (.int .i64 c), [])) (y1 := (.lit (.int .i64 n), [])) Tryd.underlying23 (by kernel_rfl) cellsMny ⟨1, by simp [DataW.trod, Tryd.underlying3, wc]⟩ ⟨1, by simp [DataW.trod, Tryd.underlying2, wn]⟩
theorem laidOut : laidOutB Tryd.prog = true := by kernel_rfl
theorem own : ownKnob Tryd.prog.godebug = none := by kernel_rfl
set_option maxRecDepth 100000 in
theorem contract (H : Type) (enc : TypeId × Value → H) (W : World) (base : Nat) (args : Array Value) (ds gs : List (DataW H)) (before : List MemPlace)
    (hval : ∀ (j : Nat) t v, Tryd.f3.params[j]? = some t → args[j]? = some v → Value.okWide Tryd.prog W .any base t v)
    (hW : DataW.Whole enc Tryd.prog Tryd.f3.params.toList Rows.moneySplitsSpec.vars false W args.toList ds gs before) (hL : laidMetH Tryd.prog Rows.moneySplitsRow.laid W) (hz0 : (DataW.weightsEach Tryd.prog (Tryd.f3.params.toList ++ Rows.moneySplitsSpec.plain.varTypes Tryd.prog) (ds ++ gs)).all (· ≤ reachBytes) = true) :
    Calls Tryd.prog 3 args W fun e W' => ∃ v, e = .returned v ∧ Rows.moneySplitsSpec.post enc Tryd.prog Tryd.f3 false true false false W args v W' := by
  have hz : (DataW.weightsEach Tryd.prog (Tryd.f3.params.toList ++ Rows.moneySplitsSpec.plain.varTypes Tryd.prog) (ds ++ gs)).all (· ≤ reachBytes) = true := hz0
  clear hz0
  have hW' := hW
  obtain ⟨p, q, hA0, hV, rfl, hfz, hnd⟩ := hW
  have hA : DataW.TrodAll enc Tryd.prog W 0 (fun _ => true) true Tryd.f3.params.toList args.toList ds p := hA0
  rw [Tryd.params3] at hA hval
  obtain ⟨v0, vs0, d0, ds0, p0, q0, hargs, rfl, rfl, h0, r0⟩ := trodAll_cons hA
  obtain ⟨v1, vs1, d1, ds1, p1, q1, rfl, rfl, rfl, h1, r1⟩ := trodAll_cons r0
  obtain ⟨rfl, rfl, rfl⟩ := trodAll_nil r1
  obtain rfl : args = #[v0, v1] := by cases args; simp_all
  obtain ⟨rfl, rfl⟩ := trodVars_none hV
  obtain ⟨c00, c01, y00, y01, m0, rfl, rfl, rfl, hy00, hy01⟩ := open_agg2 Tryd.underlying23 (by kernel_rfl) cellsMny (hval 0 23 v0 rfl rfl) h0
  obtain ⟨mc0, e00, rfl, wc0⟩ := DataW.trod_int Tryd.underlying3 hy00
  obtain ⟨mn0, e01, rfl, wn0⟩ := DataW.trod_int Tryd.underlying2 hy01
  simp at e00 e01
  subst e00 e01
  obtain ⟨b1, len1, cap1, rfl⟩ := okWide_slice Tryd.underlying24 (hval 1 24 v1 rfl rfl)
  have hk1 := h1
  obtain ⟨fuel1, hf1⟩ := h1
  obtain ⟨zs1, Z1, NC1, hw1⟩ := came_i64w hf1
  have L1 : zs1.length ≤ 17592186043904 := by
    rcases hw1 with ⟨_, e⟩ | ⟨el, sp, e, hel⟩
    · rw [e]; simp
    · have h1 := sized_slice (j := 1) (t := 24) (e := 2) (elems := el) (spare := sp) hz (by rw [Tryd.params3]; rfl) (by subst e; rfl) Tryd.underlying24
      rw [show Tryd.prog.bytesOf 2 = 8 by kernel_rfl, show reachBytes = 140737488351232 by decide] at h1
      omega
  have hlt1 : ∀ x ∈ p1, x.block < W.heap.size := fun x hx => hW'.lt x (by simp [hx])
  clear hA0
  simp only [List.append_nil] at hW'
  rw [MakeChecks.laidMetH_plain _ _ _ (by kernel_rfl)] at hL
  have hL2 : laidMet Tryd.prog (("passbook/money.currencies", pairData curs) :: []) W := hL
  have HCU : Cu W := cu_of hL2
  have HCN : Cn W := cn_of hL2
  clear hL hL2
  have walk : Calls Tryd.prog 3 #[.agg #[.int .i64 mc0, .int .i64 mn0], .slice b1 len1 cap1] W fun e w' => e = .returned (.bool true) ∧ Below W.heap.size W w' := splits_walk mc0 mn0 _ zs1 W HCU HCN Z1 L1 NC1
  refine walk.mono fun e W' ⟨he, hg⟩ => ?_
  subst he
  exact ⟨_, rfl, _, _, _, [], _, [], hW', trodAll_cons_mk (shut_bool Tryd.underlying4 _) trodAll_mk0, (trodAll_cons_mk (mnyReads _ _ _ _ mc0 mn0 wc0 wn0) (trodAll_cons_mk (Below.trod laidOut (by kernel_rfl) (of_decide_eq_true (by kernel_rfl)) hk1 hg hlt1) trodAll_mk0)), rfl, hg.frame _, fun h => by cases h⟩

/-- A world that holds the tables. -/
def put (cs : Array Value) : Obj → Obj
  | .cells _ t frozen => .cells cs t frozen
  | o => o
noncomputable def laidWorld (os : Os) : World :=
  { World.holding Tryd.prog os ⟨#[], #[], []⟩ with heap := ((World.holding Tryd.prog os ⟨#[], #[], []⟩).heap).modify 0 (put #[.string ⟨#[69, 85, 82]⟩, .int .i64 2, .string ⟨#[85, 83, 68]⟩, .int .i64 2, .string ⟨#[74, 80, 89]⟩, .int .i64 0, .string ⟨#[75, 87, 68]⟩, .int .i64 3]) }
theorem laid_met (os : Os) : laidMet Tryd.prog Rows.moneySplitsRow.laid ((laidWorld os).forCall (fun _ _ => 0) ⟨#[], #[.agg #[.int .i64 0, .int .i64 0], .slice none 0 0], []⟩).memory :=
  laidMet_of_run' 8 (by kernel_rfl) (by kernel_rfl)
theorem reads (os : Os) {H : Type} (enc : TypeId × Value → H) : ∃ places, DataW.whole enc Tryd.prog ((laidWorld os).forCall (fun _ _ => 0) ⟨#[], #[.agg #[.int .i64 0, .int .i64 0], .slice none 0 0], []⟩).memory Tryd.f3.params.toList Rows.moneySplitsSpec.vars false (#[Value.agg #[.int .i64 0, .int .i64 0], Value.slice none 0 0] : Array Value).toList 8 = some ([.agg [.lit (.int .i64 0), .lit (.int .i64 0)], .nil], [], places) :=
  ⟨[], by kernel_rfl⟩

set_option maxRecDepth 100000 in
theorem lifted (os : Os) (started : os.Started) (H : Type) (enc : TypeId × Value → H) (F : Stop.Interp) :
    ReturnsInHanded {} Tryd.checked os 3 .any ((OpenSpec.ofChange Rows.moneySplitsSpec).preRow enc Tryd.prog Tryd.f3 Rows.moneySplitsRow.domain false Rows.moneySplitsRow.laid) (((OpenSpec.ofChange Rows.moneySplitsSpec).at F).post enc Tryd.prog Tryd.f3 false true false false) := by
  obtain ⟨places, hx⟩ := reads os enc
  refine returnsInHanded_of_row (C := Tryd.checked) (s := OpenSpec.ofChange Rows.moneySplitsSpec) own started (by kernel_rfl) Tryd.func3
    (witness_row_at (enc := enc) (C := Tryd.checked) false (laidWorld os) #[.agg #[.int .i64 0, .int .i64 0], .slice none 0 0] rfl (by kernel_rfl) (by kernel_rfl) (by kernel_rfl)
      (OpenSpec.preRow_of_cond 8 hx (by kernel_rfl) (fun k hk => by cases hk) (by kernel_rfl) (laid_met os))) ?_
  intro W base args ds gs before hval hW _ _ hz0 hL _ _
  exact contract H enc W base args ds gs before hval hW hL hz0
theorem said : Rows.MoneySplitsSaid :=
  OpenClaim.holds_of_cond 3 Tryd.f3 rfl rfl rfl rfl rfl rfl rfl ⟨rfl, rfl, rfl, rfl, rfl⟩ rfl rfl rfl rfl rfl (by kernel_rfl) Tryd.func3 (by kernel_rfl)
    (of_decide_eq_true (by kernel_rfl)) (by unfold Func.isWrapper; first | (rw [if_pos (by decide +kernel)]; kernel_rfl) | (rw [if_neg (by decide +kernel)]; exact ⟨rfl, rfl⟩))
    (fun os started H enc _ F => by rw [OpenClaim.pre_eq_preRow]; exact lifted os started H enc F)
theorem plain (f : FuncId) (fn : Func) (hf : Tryd.pinned.checked.prog.funcNamed "passbook/passbooklaw05.MoneySplits" = some f) (hfn : Tryd.pinned.checked.prog.funcs[f]? = some fn) :
    false = Tryd.pinned.checked.prog.looks [] ∧ ∀ (j : Nat) t, fn.params[j]? = some t → Tryd.pinned.checked.prog.wantsStandIn t = false := by
  obtain rfl : f = 3 := Option.some.inj ((show Tryd.prog.funcNamed "passbook/passbooklaw05.MoneySplits" = some 3 by kernel_rfl).symm.trans hf) |>.symm
  obtain rfl : fn = Tryd.f3 := (Option.some.inj (Tryd.func3.symm.trans hfn)).symm
  refine ⟨by kernel_rfl, fun j t ht => ?_⟩
  rw [Tryd.params3] at ht
  have ht2 := Array.mem_of_getElem? ht
  simp at ht2
  rcases ht2 with rfl | rfl
  · exact (show Tryd.prog.wantsStandIn 23 = false by kernel_rfl)
  · exact (show Tryd.prog.wantsStandIn 24 = false by kernel_rfl)

theorem card : Rows.MoneySplitsCardSaid :=
  Claim7.holds_tied_plain_at .later [] _ _ _ _ said (fun _ h => by cases h) (by kernel_rfl) (fun _ h => by cases h) moneySplits_row_tie rfl ⟨rfl, rfl⟩ (by kernel_rfl) rfl plain (by kernel_rfl)
end Go.Proofs.YtbgglghapjfdeaaDoor.moneySplits
namespace Go.Proofs.YtbgglghapjfdeaaDoor
theorem moneySplits_holds : Rows.MoneySplitsCardSaid := moneySplits.card
#print axioms moneySplits_holds
end Go.Proofs.YtbgglghapjfdeaaDoor
