/- disk XXXV: what comes in: fates, scripts of calls, opened. -/
import Derived.Test.YtgabklihgjjjeaaGreatDoorDlh
import Derived.Test.YtgabklihgjjjeaaGreatDoorCam
namespace Go.Proofs.YtgabklihgjjjeaaGreatDoor
open Go.ChangeShapes Go.WideShapes Go.ChangeAt Go.RowKit pk
set_option linter.unusedVariables false

theorem came_bools {H : Type} {enc : TypeId × Value → H} {W : World} {fuel : Nat} {cs : List Value} {x : DataW H × List MemPlace} (h : DataW.trod enc Tryz.prog W 0 (fun _ => true) true fuel 34 cs = some x) :
    ∃ a ks c, cs = [.slice a ks.length c] ∧ Bl W (.slice a ks.length c) ks ∧ (a = none → c = 0) ∧ ∀ R : Nat, (∀ n ∈ DataW.weights Tryz.prog 34 x.1, n ≤ R) → ks.length ≤ R := by
  obtain ⟨v, ks, hcs, hs, hno, hw⟩ := came_rows KB (by kernel_rfl) (fun _ _ => True) (fun fuel cs x h => by
    obtain ⟨b, e, _⟩ := DataW.trod_bool Tryz.underlying4 h
    exact ⟨b, e, trivial⟩) h
  have hbl := hs.bl
  obtain ⟨a, c, rfl, _⟩ := hs
  refine ⟨a, ks, c, hcs, hbl, fun e => hno _ _ (by rw [e]), fun R hR => ?_⟩
  rcases hw with ⟨_, rfl⟩ | ⟨el, sp, h1, h2, _⟩
  · simp
  · rw [h1] at hR
    have h4 := (w_slice Tryz.underlying34 hR).1
    rw [show Tryz.prog.bytesOf 4 = 1 by kernel_rfl] at h4
    omega

set_option maxRecDepth 100000 in
theorem came_fate {H : Type} {enc : TypeId × Value → H} {W : World} {fuel : Nat} {cs : List Value} {x : DataW H × List MemPlace} (h : DataW.trod enc Tryz.prog W 0 (fun _ => true) true fuel 36 cs = some x) :
    ∃ dn a ks c, cs = [.bool dn, .slice a ks.length c] ∧ Bl W (.slice a ks.length c) ks ∧ (a = none → c = 0) ∧ ∀ R : Nat, (∀ n ∈ DataW.weights Tryz.prog 36 x.1, n ≤ R) → ks.length ≤ R := by
  obtain ⟨xs, n, _, hx, hl, hlen, hf⟩ := DataW.trod_struct Tryz.underlying36 h
  rw [show Tryz.prog.cellsOf 36 = 2 by kernel_rfl] at hl
  match cs, hl with
  | [c0, c1], _ =>
    match xs, hlen with
    | [y0, y1], _ =>
      have h0 : DataW.trod enc Tryz.prog W 0 (fun _ => true) true n 4 (([c0, c1].drop 0).take (Tryz.prog.cellsOf 4)) = some y0 := hf 0 _ rfl
      have h1 : DataW.trod enc Tryz.prog W 0 (fun _ => true) true n 34 (([c0, c1].drop 1).take (Tryz.prog.cellsOf 34)) = some y1 := hf 1 _ rfl
      rw [show Tryz.prog.cellsOf 4 = 1 by kernel_rfl] at h0
      rw [show Tryz.prog.cellsOf 34 = 1 by kernel_rfl] at h1
      obtain ⟨b, e0, _⟩ := DataW.trod_bool Tryz.underlying4 h0
      obtain ⟨a, ks, c, e1, hb, hno, hw⟩ := came_bools h1
      simp at e0 e1
      refine ⟨b, a, ks, c, by rw [e0, e1], hb, hno, fun R hR => hw R (fun m hm => hR m ?_)⟩
      rw [hx]
      simp [DataW.weights, Tryz.underlying36, DataW.weightsEach, hm]
/-- a call of a script -/
structure OpD where
  k : Nat
  a : ByteArray
  b : ByteArray
  pa : Option Addr
  pc : Nat
  bs : List Nat
  n : Int
  dn : Bool
  ka : Option Addr
  kc : Nat
  ks : List Bool
def OpD.cells (o : OpD) : List Value := [.int .u8 (o.k : Int), .string o.a, .string o.b, .slice o.pa o.bs.length o.pc, .int .i64 o.n, .bool o.dn, .slice o.ka o.ks.length o.kc]
structure OpIn (W : World) (o : OpD) : Prop where
  k : o.k < 256
  p : Bs W (.slice o.pa o.bs.length o.pc) o.bs
  f : Bl W (.slice o.ka o.ks.length o.kc) o.ks
  no : o.ka = none → o.kc = 0
  n : -9223372036854775808 ≤ o.n ∧ o.n ≤ 9223372036854775807
def OpSz (R : Nat) (o : OpD) : Prop := o.bs.length ≤ R ∧ o.ks.length ≤ R ∧ o.a.size ≤ R ∧ o.b.size ≤ R
end Go.Proofs.YtgabklihgjjjeaaGreatDoor
