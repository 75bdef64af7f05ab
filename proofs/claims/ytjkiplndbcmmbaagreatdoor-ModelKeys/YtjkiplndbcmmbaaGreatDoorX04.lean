/- texts of the model: Ub Uc Ud Ue -/
import Derived.Test.YtjkiplndbcmmbaaGreatDoorProg
import Derived.Test.YtjkiplndbcmmbaaGreatDoorX00
import Derived.WalkKit
import Derived.BigQuiet
import Derived.Deep.QuietTactic
set_option linter.unusedVariables false
set_option linter.unusedSimpArgs false
set_option maxHeartbeats 16000000
namespace Go.Proofs.YtjkiplndbcmmbaaGreatDoor
open Go.RowKit
def dg (ds : List Nat) (k : Nat) : Int := ((ds.getD k 0 : Nat) : Int)
structure Row (w : World) (v : Value) (ds : List Nat) : Prop where
 short : ds.length ≤ 200
 form : ∃ a c, v = .slice a ds.length c ∧ ds.length ≤ c ∧ (0 < ds.length → ∃ b off, a = some ⟨b, off, none⟩ ∧ (b < w.heap.size ∧ ∃ cur fr, w.heap[b]? = some (.cells cur 23 fr)) ∧ ∀ k, k < ds.length → w.cell? ⟨b, off + k, none⟩ = some (.int .u64 (dg ds k)))
theorem Row.step {w w' : World} {v : Value} {ds : List Nat} (h : Row w v ds) (k : Below w.heap.size w w') : Row w' v ds := by
 obtain ⟨s, a, c, e, hc, f⟩ := h
 refine ⟨s, a, c, e, hc, fun h0 => ?_⟩
 obtain ⟨b, off, ea, ⟨hb, cur, fr, hk⟩, hx⟩ := f h0
 exact ⟨b, off, ea, ⟨Nat.lt_of_lt_of_le hb k.size, cur, fr, by rw [k.block b hb]; exact hk⟩, fun j hj => (k.cell (p := ⟨b, off + j, none⟩) hb).trans (hx j hj)⟩
structure Nm (w : World) (v : Value) (x : Nat) : Prop where
 ex : ∃ ds, Row w v ds ∧ Nd ds ∧ val ds = x
theorem Nm.step {w w' : World} {v : Value} {x : Nat} (h : Nm w v x) (k : Below w.heap.size w w') : Nm w' v x := by
 obtain ⟨ds, r, n, e⟩ := h
 exact ⟨ds, r.step k, n, e⟩
theorem bR {B : Nat} {a w : World} (h : Below B a w) (n : Nat) : Below B a (w.drewN n) := ⟨h.os, h.tape, h.output, h.size, h.block⟩
def cl (cs : List Nat) : List Value := cs.map fun (d : Nat) => Value.int .u64 (d : Int)
theorem tT (cs : List Nat) (k : Nat) (h : k < cs.length) : (cl cs)[k]? = some (.int .u64 (dg cs k)) := by simp [cl, dg, h]
structure Owns (w : World) (B : Nat) (v : Value) (cs : List Nat) : Prop where
 own : w.ownsRow B 23 1 v cs.length (cl cs)
theorem Owns.block {w : World} {B : Nat} {v : Value} {cs : List Nat} (h : Owns w B v cs) : ∀ k, v.ownBlock = some k → B ≤ k := by
 obtain ⟨hl, h2⟩ := h.own
 rcases h2 with ⟨rfl, h0⟩ | ⟨g, cap, cur, rfl, hb, _⟩
 ·intro k hk; simp [Value.ownBlock] at hk
 ·intro k hk; simp [Value.ownBlock] at hk; omega
theorem Owns.cell {w : World} {B g n : Nat} {cs : List Nat} (h : Owns w B (.slice (some ⟨g, 0, none⟩) n n) cs) (hl : cs.length = n) (j : Nat) (hj : j < n) : w.cell? ⟨g, j, none⟩ = some (.int .u64 (dg cs j)) := by
 subst hl
 rw [World.ownsRow.cellAt h.own j (by omega), tT cs j hj]
theorem Owns.free {w : World} {B g n : Nat} {cs : List Nat} (h : Owns w B (.slice (some ⟨g, 0, none⟩) n n) cs) (hl : cs.length = n) (j : Nat) : w.frozen? ⟨g, j, none⟩ = false := by
 subst hl
 exact World.ownsRow.frozenAt h.own j
theorem Owns.len {w : World} {B g n c : Nat} {cs : List Nat} (h : Owns w B (.slice (some ⟨g, 0, none⟩) n c) cs) : cs.length = n := by
 obtain ⟨_, h2⟩ := h.own
 rcases h2 with ⟨h, _⟩ | ⟨g', cap, cur, h, _⟩
 ·cases h
 ·injection h with _ h _; exact h.symm
end Go.Proofs.YtjkiplndbcmmbaaGreatDoor