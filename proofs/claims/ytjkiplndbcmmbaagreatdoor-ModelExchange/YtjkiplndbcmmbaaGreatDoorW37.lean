/- texts of the model: Mrz -/
import Derived.Test.YtjkiplndbcmmbaaGreatDoorW22
import Derived.Test.YtjkiplndbcmmbaaGreatDoorW19
import Derived.Test.YtjkiplndbcmmbaaGreatDoorW31
import Derived.Test.YtjkiplndbcmmbaaGreatDoorW32
import Derived.Lib.LaidTab
import Derived.Stop.LaidErr
import Derived.MakeChecks
import Derived.OpenShut
import Derived.WideShapes
set_option linter.unusedVariables false
set_option linter.unusedSimpArgs false
set_option maxHeartbeats 16000000
set_option maxRecDepth 100000
namespace Go.Proofs.YtjkiplndbcmmbaaGreatDoor
open Tryz
open Go.ChangeShapes Go.WideShapes Go.ChangeAt Go.RowKit
theorem xj : prog.cellsOf 2 = 1 := by kernel_rfl
theorem xk : prog.cellsOf 23 = 1 := by kernel_rfl
theorem ccI : prog.cellsOf 3 = 1 := by kernel_rfl
theorem ccD : prog.cellsOf 44 = 3 := by kernel_rfl
theorem ltc {W : World} {b o : Nat} {v : Value} (h : W.cell? ⟨b, o, none⟩ = some v) : b < W.heap.size := World.block_lt_of_cell? W _ h
theorem pK {H : Type} {enc : TypeId × Value → H} {P0 : Nat} {sp : Nat → Bool} {hd : Bool} {W : World} {fuel : Nat} {cs : List Value} {x : DataW H × List MemPlace} (h : DataW.trod enc prog W P0 sp hd fuel 44 cs = some x) :
  ∃ a b c, cs = [.int .i64 a, .int .u64 b, .int .i64 c] ∧ (Lit.int .i64 a).wf = true ∧ (Lit.int .u64 b).wf = true ∧ (Lit.int .i64 c).wf = true ∧ x.1 = .agg [.lit (.int .i64 a), .lit (.int .u64 b), .lit (.int .i64 c)] := by
 obtain ⟨xs, n, _, rfl, hl, hlen, hf⟩ := DataW.trod_struct underlying44 h
 rw [ccD] at hl
 match cs, hl with
 | [c0, c1, c2], _ =>
  match xs, hlen with
  | [y0, y1, y2], _ =>
   have h0 : DataW.trod enc prog W P0 sp hd n 2 (([c0, c1, c2].drop 0).take (prog.cellsOf 2)) = some y0 := hf 0 _ rfl
   have h1 : DataW.trod enc prog W P0 sp hd n 23 (([c0, c1, c2].drop 1).take (prog.cellsOf 23)) = some y1 := hf 1 _ rfl
   have h2 : DataW.trod enc prog W P0 sp hd n 3 (([c0, c1, c2].drop 2).take (prog.cellsOf 3)) = some y2 := hf 2 _ rfl
   rw [xj] at h0
   rw [xk] at h1
   rw [ccI] at h2
   obtain ⟨a, e0, f0, w0⟩ := DataW.trod_int underlying2 h0
   obtain ⟨b, e1, f1, w1⟩ := DataW.trod_int underlying23 h1
   obtain ⟨c, e2, f2, w2⟩ := DataW.trod_int underlying3 h2
   simp at e0 e1 e2
   exact ⟨a, b, c, by rw [e0, e1, e2], w0, w1, w2, by rw [f0, f1, f2]; rfl⟩
theorem gk {W : World} {name : String} {rest : List (String × DataW Unit)} {g : Nat} {a b c : Int} (hg : prog.globalNamed name = some g) (hty : (prog.globals[g]?).map (·.type) = some 44)
  (h : laidMet prog ((name, .agg [.lit (.int .i64 a), .lit (.int .u64 b), .lit (.int .i64 c)]) :: rest) W) : At3 W g (.int .i64 a) (.int .u64 b) (.int .i64 c) := by
 obtain ⟨qs, ⟨g', t', cs, fuel, p, q, hg', ht', hvar, hd, _, _⟩, _⟩ := h
 obtain rfl := Option.some.inj (hg.symm.trans hg')
 obtain rfl := Option.some.inj (hty.symm.trans ht')
 obtain ⟨a', b', c', e, _, _, _, e2⟩ := pK hd
 simp only [DataW.agg.injEq, List.cons.injEq, DataW.lit.injEq, Lit.int.injEq, true_and, and_true] at e2
 obtain ⟨rfl, rfl, rfl⟩ := e2
 have c0 : W.cell? ⟨g, 0, none⟩ = some (.int .i64 a) := by rw [World.var?_cell hg hvar 0, ← Array.getElem?_toList, e]; rfl
 exact ⟨c0, by rw [World.var?_cell hg hvar 1, ← Array.getElem?_toList, e]; rfl, by rw [World.var?_cell hg hvar 2, ← Array.getElem?_toList, e]; rfl, ltc c0⟩
theorem lim_of {W : World} (h : laidMet prog (("passbook/chart.maxAmount", .agg [.lit (.int .i64 5), .lit (.int .u64 7766279631452241920), .lit (.int .i64 0)]) :: ("passbook/chart.maxBalance", .agg [.lit (.int .i64 54210), .lit (.int .u64 2003764205206896640), .lit (.int .i64 0)]) :: []) W) : Lim W :=
 ⟨gk (show prog.globalNamed "passbook/chart.maxBalance" = some 2 by kernel_rfl) (by kernel_rfl) h.tail, gk (show prog.globalNamed "passbook/chart.maxAmount" = some 5 by kernel_rfl) (by kernel_rfl) h⟩
theorem tbl_of {W : World} (hC : Cu W) (hT : Tc W) (hL : Lim W) : TBL W := ⟨hC, hL, hT⟩
end Go.Proofs.YtjkiplndbcmmbaaGreatDoor