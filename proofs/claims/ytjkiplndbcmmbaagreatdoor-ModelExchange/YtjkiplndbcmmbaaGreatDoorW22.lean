/- texts of the model: Bt -/
import Derived.Test.YtjkiplndbcmmbaaGreatDoorW19
import Derived.Lib.LaidTab
import Derived.Stop.LaidErr
import Derived.MakeChecks
set_option linter.unusedVariables false
set_option linter.unusedSimpArgs false
set_option maxHeartbeats 16000000
set_option maxRecDepth 100000
namespace Go.Proofs.YtjkiplndbcmmbaaGreatDoor
open Tryz
open Go.RowKit
def pairData {H : Type} (ps : List (List UInt8 × Int)) : DataW H := .agg (ps.map fun x => .agg [.lit (.string x.1), .lit (.int .i64 x.2)])
theorem gJ {H : Type} {enc : TypeId × Value → H} {P : Program} {w : World} {base : Nat} {sp : Nat → Bool} {held : Bool} {fuel : Nat} {t e : TypeId} {n : Nat} {fs : Array Field} {f0 f1 : Field} {cs : List Value} {ps : List (List UInt8 × Int)} {p : List MemPlace}
  (ht : P.underlying t = some (.array n e)) (he : P.underlying e = some (.struct fs)) (g0 : fs[0]? = some f0) (g1 : fs[1]? = some f1) (o0 : f0.offset = 0) (o1 : f1.offset = 1) (u0 : P.underlying f0.type = some .string) (u1 : P.underlying f1.type = some (.int .i64)) (s0 : P.cellsOf f0.type = 1) (s1 : P.cellsOf f1.type = 1) (hce : P.cellsOf e = 2)
  (h : DataW.trod enc P w base sp held fuel t cs = some (pairData ps, p)) : ∀ i x, ps[i]? = some x → ∃ s : ByteArray, s.data.toList = x.1 ∧ cs[i * 2]? = some (.string s) ∧ cs[i * 2 + 1]? = some (.int .i64 x.2) := by
 cases fuel with
 | zero => simp [DataW.trod] at h
 | succ fuel =>
  simp only [DataW.trod, ht, hce] at h
  split at h
  ·obtain ⟨xs, hm, hx⟩ := Option.map_eq_some_iff.1 h
   have hxs : xs.map (·.1) = ps.map fun x => (DataW.agg [.lit (.string x.1), .lit (.int .i64 x.2)] : DataW H) := by
    have := congrArg Prod.fst hx
    simpa [pairData] using this
   have hxl : xs.length = n := by simpa using Go.Lib.mapM_length hm
   intro i x hi
   have hin : i < n := by
    have h1 : i < ps.length := by
     rcases Nat.lt_or_ge i ps.length with h | h
     ·exact h
     ·rw [List.getElem?_eq_none h] at hi; cases hi
    have := congrArg List.length hxs
    simp at this
    omega
   obtain ⟨b, hb, hf⟩ := Go.Lib.mapM_at hm i i (by simp [hin])
   obtain ⟨ys, m, _, rfl, hl, _, hy⟩ := DataW.trod_struct he hf
   have e1 : (xs.map (·.1))[i]? = some (.agg (ys.map (·.1))) := by rw [List.getElem?_map, hb]; rfl
   rw [hxs, List.getElem?_map, hi] at e1
   simp at e1
   have y0 := hy 0 f0 g0
   have y1 := hy 1 f1 g1
   have hlen : ys.length = 2 := by
    have := congrArg List.length e1
    simpa using this.symm
   obtain ⟨a, b, rfl⟩ : ∃ a b, ys = [a, b] := by
    match ys, hlen with
    | [a, b], _ => exact ⟨a, b, rfl⟩
   simp at e1 y0 y1
   obtain ⟨s, hs, ha, _⟩ := DataW.trod_string u0 y0
   obtain ⟨z, hz, hb', _⟩ := DataW.trod_int u1 y1
   rw [o0, s0] at hs
   rw [o1, s1] at hz
   rw [ha] at e1
   rw [hb'] at e1
   simp at e1
   refine ⟨s, e1.1.symm, ?_, ?_⟩
   ·have := congrArg (·[0]?) hs
    simpa [List.getElem?_take, List.getElem?_drop] using this
   ·have := congrArg (·[0]?) hz
    simp [List.getElem?_drop] at this
    rw [this, e1.2]
  ·cases h
def curs : List (List UInt8 × Int) := [([69, 85, 82], 2), ([85, 83, 68], 2), ([74, 80, 89], 0), ([75, 87, 68], 3)]
theorem iF {W : World} {name : String} {ps : List (List UInt8 × Int)} {rest : List (String × DataW Unit)} {g : Nat} {t e : TypeId} {n : Nat} {fs : Array Field} {f0 f1 : Field}
  (hg : prog.globalNamed name = some g) (hty : (prog.globals[g]?).map (·.type) = some t) (ht : prog.underlying t = some (.array n e)) (he : prog.underlying e = some (.struct fs)) (g0 : fs[0]? = some f0) (g1 : fs[1]? = some f1) (o0 : f0.offset = 0) (o1 : f1.offset = 1) (u0 : prog.underlying f0.type = some .string) (u1 : prog.underlying f1.type = some (.int .i64)) (s0 : prog.cellsOf f0.type = 1) (s1 : prog.cellsOf f1.type = 1) (hce : prog.cellsOf e = 2)
  (h : laidMet prog ((name, pairData ps) :: rest) W) : ∀ i x, ps[i]? = some x → ∃ s : ByteArray, s.data.toList = x.1 ∧ W.cell? ⟨g, i * 2, none⟩ = some (.string s) ∧ W.cell? ⟨g, i * 2 + 1, none⟩ = some (.int .i64 x.2) := by
 obtain ⟨qs, ⟨g', t', cs, fuel, p, q, hg', ht', hvar, hd, _, _⟩, _⟩ := h
 obtain rfl := Option.some.inj (hg.symm.trans hg')
 obtain rfl := Option.some.inj (hty.symm.trans ht')
 intro i x hi
 obtain ⟨s, hs, h1, h2⟩ := gJ ht he g0 g1 o0 o1 u0 u1 s0 s1 hce hd i x hi
 refine ⟨s, hs, ?_, ?_⟩
 ·rw [World.var?_cell hg hvar (i * 2)]; simpa using h1
 ·rw [World.var?_cell hg hvar (i * 2 + 1)]; simpa using h2
theorem cu_of {W : World} {rest : List (String × DataW Unit)} (h : laidMet prog (("passbook/money.currencies", pairData curs) :: rest) W) : Cu W := by
 refine ⟨fun i hi => ?_⟩
 have hx : curs[i]? = some (curs.getD i ([], 0)) := by simp [curs, List.getD, hi]
 obtain ⟨s, _, _, h2⟩ := iF (show prog.globalNamed "passbook/money.currencies" = some 0 by kernel_rfl) (by kernel_rfl) underlying201 underlying200 (by rfl) (by rfl) (by rfl) (by rfl) (by kernel_rfl) (by kernel_rfl) (by kernel_rfl) (by kernel_rfl) (by kernel_rfl) h i _ hx
 rw [h2]
 have : ∀ j : Fin 4, (curs.getD j.val ([], 0)).2 = ((cdg j.val : Nat) : Int) := by decide
 rw [this ⟨i, hi⟩]
end Go.Proofs.YtjkiplndbcmmbaaGreatDoor