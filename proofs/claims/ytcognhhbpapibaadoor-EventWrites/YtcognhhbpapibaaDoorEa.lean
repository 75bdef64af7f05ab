/- event: the table of counts; an event's cells; the contracts of Count, mostTiers and Check. -/
import Derived.Test.YtcognhhbpapibaaDoorAg
import Derived.Test.YtcognhhbpapibaaDoorXa
import Derived.Deep.RegionHeld3
import Derived.Deep.DeepCutAuto
namespace Go.Proofs.YtcognhhbpapibaaDoor
open Go.RowKit
set_option linter.unusedVariables false

def ct : List Nat := [0, 8, 2, 1, 2, 2, 3, 3, 2, 4, 3, 3, 4, 1, 3, 1]
/-- the table -/
structure Tc (w : World) : Prop where
  row : ∀ i, i < 16 → w.cell? ⟨0, i, none⟩ = some (.int .i64 ((ct.getD i 0 : Nat) : Int))
theorem Tc.lt {w : World} (h : Tc w) : 0 < w.heap.size := World.block_lt_of_cell? w _ (h.row 0 (by omega))
theorem Tc.step {w w' : World} (h : Tc w) {B : Nat} (k : Below B w w') (hB : 1 ≤ B) : Tc w' := ⟨fun i hi => (k.cell (p := ⟨0, i, none⟩) (by show 0 < B; omega)).trans (h.row i hi)⟩
theorem ct_le (i : Nat) : ct.getD i 0 ≤ 8 := by
  by_cases h : i < 16
  · have : ∀ j : Fin 16, ct.getD j.val 0 ≤ 8 := by decide
    exact this ⟨i, h⟩
  · simp [ct, List.getD, List.getElem?_eq_none (show ([0, 8, 2, 1, 2, 2, 3, 3, 2, 4, 3, 3, 4, 1, 3, 1] : List Nat).length ≤ i by simp; omega)]
/-- tiers: two numbers each -/
structure Tr (w : World) (v : Value) (ts : List (Int × Int)) : Prop where
  wf : ∀ t ∈ ts, (-9223372036854775808 ≤ t.1 ∧ t.1 ≤ 9223372036854775807) ∧ -9223372036854775808 ≤ t.2 ∧ t.2 ≤ 9223372036854775807
  form : ∃ a c, v = .slice a ts.length c ∧ ts.length ≤ c ∧ c ≤ 9223372036854775807 ∧ (0 < ts.length → ∃ b off, a = some ⟨b, off, none⟩ ∧ b < w.heap.size ∧ ∀ k, k < ts.length → w.cell? ⟨b, off + 2 * k, none⟩ = some (.int .i64 (ts.getD k (0, 0)).1) ∧ w.cell? ⟨b, off + 2 * k + 1, none⟩ = some (.int .i64 (ts.getD k (0, 0)).2))
theorem Tr.step {w w' : World} {v : Value} {ts : List (Int × Int)} (h : Tr w v ts) (k : Below w.heap.size w w') : Tr w' v ts := by
  obtain ⟨hw, a, c, e, h1, h2, h3⟩ := h
  refine ⟨hw, a, c, e, h1, h2, fun h0 => ?_⟩
  obtain ⟨b, off, ea, hb, hx⟩ := h3 h0
  exact ⟨b, off, ea, Nat.lt_of_lt_of_le hb k.size, fun j hj => ⟨(k.cell (p := ⟨b, off + 2 * j, none⟩) hb).trans (hx j hj).1, (k.cell (p := ⟨b, off + 2 * j + 1, none⟩) hb).trans (hx j hj).2⟩⟩
/-- an event's cells -/
def ec (op key : Nat) (n0 n1 n2 n3 n4 n5 n6 n7 : Int) (tv : Value) : Array Value := #[.int .u8 op, .int .u64 key, .int .i64 n0, .int .i64 n1, .int .i64 n2, .int .i64 n3, .int .i64 n4, .int .i64 n5, .int .i64 n6, .int .i64 n7, tv]
theorem count_yes (op : Nat) (w : World) (T : Tc w) (h1 : 1 ≤ op) (h2 : op ≤ 15) :
    Calls Tryd.prog 11 #[.int .u8 op] w fun e w' => e = .returned (.tuple #[.int .i64 ((ct.getD op 0 : Nat) : Int), .int .i64 0]) ∧ w' = w := by
  have c1 := T.row op (by omega)
  clear T
  generalize ct.getD op 0 = n at *
  go_enter Tryd.func11, Tryd.ntmps11
  go_wp2_with fail
  go_ret2
  exact ⟨rfl, rfl⟩
theorem count_no (op : Nat) (w : World) (h : op < 1 ∨ 15 < op) (h2 : op ≤ 255) :
    Calls Tryd.prog 11 #[.int .u8 op] w fun e w' => e = .returned (.tuple #[.int .i64 0, .int .i64 1]) ∧ w' = w := by
  rcases h with h | h
  · obtain rfl : op = 0 := by omega
    rw [show ((0 : Nat) : Int) = 0 from rfl]
    go_enter Tryd.func11, Tryd.ntmps11
    go_wp2_with fail
    go_ret2
    exact ⟨rfl, rfl⟩
  · go_enter Tryd.func11, Tryd.ntmps11
    go_wp2_with fail
    go_ret2
    exact ⟨rfl, rfl⟩
def most (op : Nat) : Nat := if op = 1 then 8 else 0
theorem most_ok (op : Nat) (w : World) (h2 : op ≤ 255) :
    Calls Tryd.prog 27 #[.int .u8 op] w fun e w' => e = .returned (.int .i64 ((most op : Nat) : Int)) ∧ w' = w := by
  unfold most
  by_cases h : op = 1
  · subst h
    rw [show ((1 : Nat) : Int) = 1 from rfl]
    go_enter Tryd.func27, Tryd.ntmps27
    go_wp2_with fail
    go_ret
    exact ⟨rfl, rfl⟩
  · have h3 : ¬ ((op : Int) = 1) := by omega
    rw [if_neg h]
    go_enter Tryd.func27, Tryd.ntmps27
    go_wp2_with fail
    go_ret
    exact ⟨rfl, rfl⟩
/-- an event's numbers -/
structure E8 where
  op : Nat
  key : Nat
  ns : List Int
  ts : List (Int × Int)
/-- in form -/
structure E8.form (x : E8) : Prop where
  lo : 1 ≤ x.op
  hi : x.op ≤ 15
  tiers : x.ts.length ≤ most x.op
  zero : ∀ i, ct.getD x.op 0 ≤ i → i < 8 → x.ns.getD i 0 = 0
/-- a world's number -/
structure E8.ok (x : E8) : Prop where
  op : x.op ≤ 255
  key : x.key ≤ 18446744073709551615
  len : x.ns.length = 8
  ns : ∀ n ∈ x.ns, -9223372036854775808 ≤ n ∧ n ≤ 9223372036854775807
/-- the eleven cells of an event -/
def E8.cells (x : E8) (tv : Value) : List Value := [.int .u8 (x.op : Int), .int .u64 (x.key : Int)] ++ x.ns.map (fun n => Value.int .i64 n) ++ [tv]
end Go.Proofs.YtcognhhbpapibaaDoor
