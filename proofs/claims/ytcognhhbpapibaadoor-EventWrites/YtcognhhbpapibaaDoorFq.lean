/- EventWrites: for every event the law answers true: an event in form has the bytes of the document and is read again from them, no other one has any, and it comes back untouched, spare room too. No condition beyond the row: the table of counts is laid as the text of the program lays it (the tied card). -/
import Derived.Test.YtcognhhbpapibaaDoorCards
import Derived.Test.YtcognhhbpapibaaDoorTie
import Derived.WalkKit
import Derived.ProofKit
import Derived.OpenShut
import Derived.SizedLaws
import Derived.Lib.LaidTab
import Derived.Stop.LaidErr
import Derived.MakeChecks
import Derived.Deep.DeepHandedRow
import Derived.Test.YtcognhhbpapibaaDoorFo
import Derived.Test.YtcognhhbpapibaaDoorEr
import Derived.Test.YtcognhhbpapibaaDoorFp
namespace Go.Proofs.YtcognhhbpapibaaDoor.eventWrites
open Go.ChangeShapes Go.WideShapes Go.ChangeAt Go.RowKit
set_option linter.unusedVariables false

theorem own : ownKnob Tryd.prog.godebug = none := by kernel_rfl
theorem laidOut : laidOutB Tryd.prog = true := by kernel_rfl
theorem tab_cast (xs : List Nat) (i : Nat) : (xs.map (fun (n : Nat) => (n : Int))).getD i 0 = ((xs.getD i 0 : Nat) : Int) := by
  by_cases h : i < xs.length <;> simp [List.getD, h]
theorem tb_of {W : World} (hL : laidMetH Tryd.prog Rows.eventWritesRow.laid W) : Tc W := by
  rw [MakeChecks.laidMetH_plain _ _ _ (by kernel_rfl)] at hL
  have h0 : laidMet Tryd.prog (("passbook/event.counts", Go.Lib.tabData .i64 [0, 8, 2, 1, 2, 2, 3, 3, 2, 4, 3, 3, 4, 1, 3, 1]) :: []) W := hL
  have h1 := Go.Lib.tabIs_of_head (t := 57) (e := 3) (n := 16) (show Tryd.prog.globalNamed "passbook/event.counts" = some 0 by kernel_rfl) (by kernel_rfl) Tryd.underlying57 Tryd.underlying3 (by kernel_rfl) (by kernel_rfl) h0
  refine ⟨fun i hi => ?_⟩
  rw [h1.cell (by kernel_rfl) i (by simpa using hi)]
  have := tab_cast ct i
  rw [← this]
  rfl
theorem cells8 : Tryd.prog.cellsOf 5 = 1 := by kernel_rfl
theorem came_of {H : Type} {enc : TypeId × Value → H} {W : World} {fuel : Nat} {a : Option Addr} {len cap : Nat} {d : DataW H} {p : List MemPlace} (h : DataW.trod enc Tryd.prog W 0 (fun _ => true) true fuel 29 (Value.slice a len cap).cells.toList = some (d, p)) :
    ∃ bs, Bs W (.slice a len cap) bs ∧ ((d = .nil ∧ bs = []) ∨ ∃ el sp, d = .slice el sp ∧ el.length = bs.length) := by
  rcases open_ints Tryd.underlying29 Tryd.underlying5 cells8 h with ⟨hcs, hx⟩ | ⟨a', len', cap', zs, hcs, _, hl, hm, hz, hx, hcell, hwz⟩
  · simp [Value.cells] at hcs
    obtain ⟨rfl, rfl, rfl⟩ := hcs
    simp at hx
    exact ⟨[], bs_nil W, Or.inl ⟨hx.1, rfl⟩⟩
  · simp [Value.cells] at hcs
    obtain ⟨rfl, rfl, rfl⟩ := hcs
    simp only [if_true] at hz
    simp only [Prod.mk.injEq] at hx
    have hby : ∀ z ∈ zs, 0 ≤ z ∧ z ≤ 255 := fun z hz => by simpa [Lit.wf, IntKind.min, IntKind.max, IntKind.signed, IntKind.bits] using hwz z hz
    have hlen : ((zs.take len).map Int.toNat).length = len := by simp; omega
    refine ⟨(zs.take len).map Int.toNat, ⟨fun x hx => ?_, some a', cap, by rw [hlen], by rw [hlen]; exact hl, by unfold maxLen at hm; omega, fun h => (by cases h), fun h0 => ?_⟩, Or.inr ⟨_, _, hx.1, by simp [lits]⟩⟩
    · obtain ⟨z, hz1, rfl⟩ := List.mem_map.1 hx
      have := hby z (List.mem_of_mem_take hz1)
      omega
    · rw [hlen] at h0 ⊢
      obtain ⟨b, off, spot⟩ := a'
      have hspot : spot = none := by simpa [Addr.add] using World.cell?_spot (hcell 0 (by omega))
      subst hspot
      have hc : ∀ k, k < len → W.cell? ⟨b, off + k, none⟩ = some (.int .u8 (zs.getD k 0)) := fun k hk => by rw [← add_plain]; exact hcell k (by omega)
      have hb : b < W.heap.size := by
        have h0 := hc 0 (by omega)
        unfold World.cell? at h0
        cases hh : W.heap[b]? with
        | none => simp [hh] at h0
        | some o => exact (Array.getElem?_eq_some_iff.1 hh).1
      refine ⟨b, off, rfl, hb, fun k hk => ?_⟩
      rw [hc k hk]
      have hk2 : k < zs.length := by omega
      have hz1 := hby (zs.getD k 0) (by simp [hk2])
      congr 2
      unfold bt
      simp [List.getD, hk, hk2] at hz1 ⊢
      omega
theorem contract (H : Type) (enc : TypeId × Value → H) (W : World) (base : Nat) (args : Array Value) (ds gs : List (DataW H)) (before : List MemPlace)
    (hval0 : ∀ (j : Nat) t v, Tryd.f3.params[j]? = some t → args[j]? = some v → Value.okWide Tryd.prog W .any base t v)
    (hW : DataW.Whole enc Tryd.prog Tryd.f3.params.toList Rows.eventWritesSpec.vars false W args.toList ds gs before)
    (hz0 : (DataW.weightsEach Tryd.prog (Tryd.f3.params.toList ++ Rows.eventWritesSpec.plain.varTypes Tryd.prog) (ds ++ gs)).all (· ≤ reachBytes) = true) (hL : laidMetH Tryd.prog Rows.eventWritesRow.laid W) :
    Calls Tryd.prog 3 args W fun e W' => ∃ v, e = .returned v ∧ Rows.eventWritesSpec.post enc Tryd.prog Tryd.f3 false true false false W args v W' := by
  have hval : ∀ (j : Nat) t v, Tryd.f3.params[j]? = some t → args[j]? = some v → Value.okWide Tryd.prog W .any base t v := hval0
  have hz : (DataW.weightsEach Tryd.prog (Tryd.f3.params.toList ++ Rows.eventWritesSpec.plain.varTypes Tryd.prog) (ds ++ gs)).all (· ≤ reachBytes) = true := hz0
  have hW' := hW
  obtain ⟨p, q, hA0, hV, rfl, hfz, hnd⟩ := hW
  have hA : DataW.TrodAll enc Tryd.prog W 0 (fun _ => true) true Tryd.f3.params.toList args.toList ds p := hA0
  rw [Tryd.params3] at hA hval
  obtain ⟨v0, vs0, d0, ds0, p0, q0, hargs, rfl, rfl, hr0, r0⟩ := trodAll_cons hA
  obtain ⟨rfl, rfl, rfl⟩ := trodAll_nil r0
  obtain rfl : args = #[v0] := by cases args; simp_all
  obtain ⟨rfl, rfl⟩ := trodVars_none hV
  have hk0 := hr0
  obtain ⟨x0, tv0, rfl, xk0, R0, no0, wt0⟩ := came_ev2 (hval 0 26 v0 rfl rfl) hr0
  have L0 : x0.ts.length * 16 ≤ 140737488351232 := wt0 _ (fun n hn => by
    have h1 := List.all_eq_true.1 hz n (DataW.weights_mem_each (j := 0) (t := 26) (by rw [Tryd.params3]; rfl) (by rfl) n hn)
    rw [show reachBytes = 140737488351232 by decide] at h1
    simpa using h1)
  clear hA0 hval0 hz0
  simp only [List.append_nil] at hW'
  have hlt0 : ∀ x ∈ p0, x.block < W.heap.size := fun x hx => hW'.lt x (by simp [hx])
  have walk : Calls Tryd.prog 3 #[.agg (x0.cells tv0).toArray] W fun e w' => e = .returned (.bool true) ∧ Below W.heap.size W w' := writes_walk x0 tv0 W xk0 (tb_of hL) R0 no0 (by omega)
  refine walk.mono fun e W' ⟨he, hg⟩ => ?_
  subst he
  exact ⟨_, rfl, _, _, _, [], _, [], hW', trodAll_cons_mk (shut_bool Tryd.underlying4 _) trodAll_mk0, (trodAll_cons_mk (Below.trod laidOut (by kernel_rfl) (of_decide_eq_true (by kernel_rfl)) hk0 hg hlt0) trodAll_mk0), rfl, hg.frame _, fun h => by cases h⟩

/-- A world that holds the tables. -/
def put (cs : Array Value) : Obj → Obj
  | .cells _ t frozen => .cells cs t frozen
  | o => o
noncomputable def laidWorld (os : Os) : World :=
  { World.holding Tryd.prog os ⟨#[], #[], []⟩ with heap := ((World.holding Tryd.prog os ⟨#[], #[], []⟩).heap).modify 0 (put #[.int .i64 0, .int .i64 8, .int .i64 2, .int .i64 1, .int .i64 2, .int .i64 2, .int .i64 3, .int .i64 3, .int .i64 2, .int .i64 4, .int .i64 3, .int .i64 3, .int .i64 4, .int .i64 1, .int .i64 3, .int .i64 1]) }
theorem laid_met (os : Os) : laidMet Tryd.prog Rows.eventWritesRow.laid ((laidWorld os).forCall (fun _ _ => 0) ⟨#[], #[.agg #[.int .u8 0, .int .u64 0, .int .i64 0, .int .i64 0, .int .i64 0, .int .i64 0, .int .i64 0, .int .i64 0, .int .i64 0, .int .i64 0, .slice none 0 0]], []⟩).memory :=
  laidMet_of_run' 8 (by kernel_rfl) (by kernel_rfl)
theorem reads (os : Os) {H : Type} (enc : TypeId × Value → H) : ∃ places, DataW.whole enc Tryd.prog ((laidWorld os).forCall (fun _ _ => 0) ⟨#[], #[.agg #[.int .u8 0, .int .u64 0, .int .i64 0, .int .i64 0, .int .i64 0, .int .i64 0, .int .i64 0, .int .i64 0, .int .i64 0, .int .i64 0, .slice none 0 0]], []⟩).memory Tryd.f3.params.toList Rows.eventWritesSpec.vars false (#[Value.agg #[.int .u8 0, .int .u64 0, .int .i64 0, .int .i64 0, .int .i64 0, .int .i64 0, .int .i64 0, .int .i64 0, .int .i64 0, .int .i64 0, .slice none 0 0]] : Array Value).toList 8 = some ([.agg [.lit (.int .u8 0), .lit (.int .u64 0), .agg [.lit (.int .i64 0), .lit (.int .i64 0), .lit (.int .i64 0), .lit (.int .i64 0), .lit (.int .i64 0), .lit (.int .i64 0), .lit (.int .i64 0), .lit (.int .i64 0)], .nil]], [], places) :=
  ⟨[], by kernel_rfl⟩

set_option maxRecDepth 100000 in
theorem lifted (os : Os) (started : os.Started) (H : Type) (enc : TypeId × Value → H) (F : Stop.Interp) :
    ReturnsInHanded {} Tryd.checked os 3 .any ((OpenSpec.ofChange Rows.eventWritesSpec).preRow enc Tryd.prog Tryd.f3 Rows.eventWritesRow.domain false Rows.eventWritesRow.laid) (((OpenSpec.ofChange Rows.eventWritesSpec).at F).post enc Tryd.prog Tryd.f3 false true false false) := by
  obtain ⟨places, hx⟩ := reads os enc
  refine returnsInHanded_of_row (C := Tryd.checked) (s := OpenSpec.ofChange Rows.eventWritesSpec) own started (by kernel_rfl) Tryd.func3
    (witness_row_at (enc := enc) (C := Tryd.checked) false (laidWorld os) #[.agg #[.int .u8 0, .int .u64 0, .int .i64 0, .int .i64 0, .int .i64 0, .int .i64 0, .int .i64 0, .int .i64 0, .int .i64 0, .int .i64 0, .slice none 0 0]] rfl (by kernel_rfl) (by kernel_rfl) (by kernel_rfl)
      (OpenSpec.preRow_of_cond 8 hx (by kernel_rfl) (fun k hk => by cases hk) (by kernel_rfl) (laid_met os))) ?_
  intro W base args ds gs before hval0 hW _ _ hz0 hL _ _
  exact contract H enc W base args ds gs before hval0 hW hz0 hL
theorem said : Rows.EventWritesSaid :=
  OpenClaim.holds_of_cond 3 Tryd.f3 rfl rfl rfl rfl rfl rfl rfl ⟨rfl, rfl, rfl, rfl, rfl⟩ rfl rfl rfl rfl rfl (by kernel_rfl) Tryd.func3 (by kernel_rfl)
    (of_decide_eq_true (by kernel_rfl)) (by unfold Func.isWrapper; first | (rw [if_pos (by decide +kernel)]; kernel_rfl) | (rw [if_neg (by decide +kernel)]; exact ⟨rfl, rfl⟩))
    (fun os started H enc _ F => by rw [OpenClaim.pre_eq_preRow]; exact lifted os started H enc F)
theorem plain (f : FuncId) (fn : Func) (hf : Tryd.pinned.checked.prog.funcNamed "passbook/passbooklaw08.EventWrites" = some f) (hfn : Tryd.pinned.checked.prog.funcs[f]? = some fn) :
    false = Tryd.pinned.checked.prog.looks [] ∧ ∀ (j : Nat) t, fn.params[j]? = some t → Tryd.pinned.checked.prog.wantsStandIn t = false := by
  obtain rfl : f = 3 := Option.some.inj ((show Tryd.prog.funcNamed "passbook/passbooklaw08.EventWrites" = some 3 by kernel_rfl).symm.trans hf) |>.symm
  obtain rfl : fn = Tryd.f3 := (Option.some.inj (Tryd.func3.symm.trans hfn)).symm
  refine ⟨by kernel_rfl, fun j t ht => ?_⟩
  rw [Tryd.params3] at ht
  obtain rfl : t = 26 := by simpa using Array.mem_of_getElem? ht
  exact (show Tryd.prog.wantsStandIn 26 = false by kernel_rfl)

theorem card : Rows.EventWritesCardSaid :=
  Claim7.holds_tied_plain_at .later [] _ _ _ _ said (fun _ h => by cases h) (by kernel_rfl) (fun _ h => by cases h) eventWrites_row_tie rfl ⟨rfl, rfl⟩ (by kernel_rfl) rfl plain (by kernel_rfl)
end Go.Proofs.YtcognhhbpapibaaDoor.eventWrites
namespace Go.Proofs.YtcognhhbpapibaaDoor
theorem eventWrites_holds : Rows.EventWritesCardSaid := eventWrites.card
#print axioms eventWrites_holds
end Go.Proofs.YtcognhhbpapibaaDoor
