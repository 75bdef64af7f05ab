/- money: a list of int64 that comes in, with its length. -/
import Derived.Test.YtbgglghapjfdeaaDoorStd
import Derived.Test.YtbgglghapjfdeaaDoorSsr
import Derived.SizedLaws
namespace Go.Proofs.YtbgglghapjfdeaaDoor
open Go.ChangeShapes Go.WideShapes Go.ChangeAt Go.RowKit
set_option linter.unusedVariables false

theorem came_i64w {H : Type} {enc : TypeId × Value → H} {W : World} {fuel : Nat} {a : Option Addr} {len cap : Nat} {d : DataW H} {p : List MemPlace} (h : DataW.trod enc Tryd.prog W 0 (fun _ => true) true fuel 24 (Value.slice a len cap).cells.toList = some (d, p)) :
    ∃ bs, Is W (.slice a len cap) bs ∧ (∀ k c, Value.slice a len cap = .slice none k c → c = 0) ∧ ((d = .nil ∧ bs = []) ∨ ∃ el sp, d = .slice el sp ∧ el.length = bs.length) := by
  rcases open_ints Tryd.underlying24 Tryd.underlying2 cells64 h with ⟨hcs, hx⟩ | ⟨a', len', cap', zs, hcs, _, hl, hm, hz, hx, hcell, hwz⟩
  · simp [Value.cells] at hcs
    obtain ⟨rfl, rfl, rfl⟩ := hcs
    simp at hx
    refine ⟨[], is_nil _, fun k c e => ?_, Or.inl ⟨hx.1, rfl⟩⟩
    injection e with _ _ e3
    exact e3.symm
  · simp [Value.cells] at hcs
    obtain ⟨rfl, rfl, rfl⟩ := hcs
    simp only [if_true] at hz
    simp only [Prod.mk.injEq] at hx
    have hlen : (zs.take len).length = len := by simp; omega
    refine ⟨zs.take len, ⟨some a', cap, by rw [hlen], by rw [hlen]; exact hl, by unfold maxLen at hm; omega, fun h0 => ?_⟩, fun k c e => (by cases e), Or.inr ⟨_, _, hx.1, by simp [lits]⟩⟩
    rw [hlen] at h0 ⊢
    obtain ⟨b, off, spot⟩ := a'
    have hspot : spot = none := by simpa [Addr.add] using World.cell?_spot (hcell 0 (by omega))
    subst hspot
    have hc : ∀ k, k < len → W.cell? ⟨b, off + k, none⟩ = some (.int .i64 (zs.getD k 0)) := fun k hk => by rw [← add_plain]; exact hcell k (by omega)
    have hb : b < W.heap.size := by
      have h0 := hc 0 (by omega)
      unfold World.cell? at h0
      cases hh : W.heap[b]? with
      | none => simp [hh] at h0
      | some o => exact (Array.getElem?_eq_some_iff.1 hh).1
    refine ⟨b, off, rfl, hb, fun k hk => ?_⟩
    rw [hc k hk]
    have hk2 : k < zs.length := by omega
    simp [List.getD, hk, hk2]
end Go.Proofs.YtbgglghapjfdeaaDoor
