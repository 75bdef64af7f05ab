/- money: lists of numbers that come in, opened. -/
import Derived.Test.YtbgglghapjfdeaaDoorSsn
import Derived.OpenShut
import Derived.ProofKit
import Derived.Deep.DeepHandedRow
namespace Go.Proofs.YtbgglghapjfdeaaDoor
open Go.ChangeShapes Go.WideShapes Go.ChangeAt Go.RowKit
set_option linter.unusedVariables false

theorem cells16 : Tryd.prog.cellsOf 36 = 1 := by kernel_rfl
theorem came_u16 {H : Type} {enc : TypeId × Value → H} {W : World} {fuel : Nat} {a : Option Addr} {len cap : Nat} {d : DataW H} {p : List MemPlace} (h : DataW.trod enc Tryd.prog W 0 (fun _ => true) true fuel 34 (Value.slice a len cap).cells.toList = some (d, p)) :
    ∃ bs, U16s W (.slice a len cap) bs := by
  rcases open_ints Tryd.underlying34 Tryd.underlying36 cells16 h with ⟨hcs, hx⟩ | ⟨a', len', cap', zs, hcs, _, hl, hm, hz, hx, hcell, hwz⟩
  · simp [Value.cells] at hcs
    obtain ⟨rfl, rfl, rfl⟩ := hcs
    simp at hx
    exact ⟨[], ⟨fun z hz => (by cases hz), none, 0, rfl, by simp, by omega, fun h => by simp at h⟩⟩
  · simp [Value.cells] at hcs
    obtain ⟨rfl, rfl, rfl⟩ := hcs
    simp only [if_true] at hz
    simp only [Prod.mk.injEq] at hx
    have hby : ∀ z ∈ zs, 0 ≤ z ∧ z ≤ 65535 := fun z hz => by simpa [Lit.wf, IntKind.min, IntKind.max, IntKind.signed, IntKind.bits] using hwz z hz
    have hlen : ((zs.take len).map Int.toNat).length = len := by simp; omega
    refine ⟨(zs.take len).map Int.toNat, ⟨fun x hx => ?_, some a', cap, by rw [hlen], by rw [hlen]; exact hl, by unfold maxLen at hm; omega, fun h0 => ?_⟩⟩
    · obtain ⟨z, hz1, rfl⟩ := List.mem_map.1 hx
      have := hby z (List.mem_of_mem_take hz1)
      omega
    · rw [hlen] at h0 ⊢
      obtain ⟨b, off, spot⟩ := a'
      have hspot : spot = none := by simpa [Addr.add] using World.cell?_spot (hcell 0 (by omega))
      subst hspot
      have hc : ∀ k, k < len → W.cell? ⟨b, off + k, none⟩ = some (.int .u16 (zs.getD k 0)) := fun k hk => by rw [← add_plain]; exact hcell k (by omega)
      have hb : b < W.heap.size := by
        have h0 := hc 0 (by omega)
        unfold World.cell? at h0
        cases hh : W.heap[b]? with
        | none => simp [hh] at h0
        | some o => exact (Array.getElem?_eq_some_iff.1 hh).1
      refine ⟨b, off, rfl, hb, fun k hk => ?_⟩
      rw [hc k hk]
      have hk2 : k < zs.length := by omega
      have hz1 := hby (zs.getD k 0) (by simp [hk2])
      congr 2
      simp [List.getD, hk, hk2] at hz1 ⊢
      omega
theorem cells64 : Tryd.prog.cellsOf 2 = 1 := by kernel_rfl
theorem came_i64 {H : Type} {enc : TypeId × Value → H} {W : World} {fuel : Nat} {a : Option Addr} {len cap : Nat} {d : DataW H} {p : List MemPlace} (h : DataW.trod enc Tryd.prog W 0 (fun _ => true) true fuel 24 (Value.slice a len cap).cells.toList = some (d, p)) :
    ∃ bs, Is W (.slice a len cap) bs := by
  rcases open_ints Tryd.underlying24 Tryd.underlying2 cells64 h with ⟨hcs, hx⟩ | ⟨a', len', cap', zs, hcs, _, hl, hm, hz, hx, hcell, hwz⟩
  · simp [Value.cells] at hcs
    obtain ⟨rfl, rfl, rfl⟩ := hcs
    exact ⟨[], is_nil _⟩
  · simp [Value.cells] at hcs
    obtain ⟨rfl, rfl, rfl⟩ := hcs
    simp only [if_true] at hz
    have hlen : (zs.take len).length = len := by simp; omega
    refine ⟨zs.take len, ⟨some a', cap, by rw [hlen], by rw [hlen]; exact hl, by unfold maxLen at hm; omega, fun h0 => ?_⟩⟩
    rw [hlen] at h0 ⊢
    obtain ⟨b, off, spot⟩ := a'
    have hspot : spot = none := by simpa [Addr.add] using World.cell?_spot (hcell 0 (by omega))
    subst hspot
    have hc : ∀ k, k < len → W.cell? ⟨b, off + k, none⟩ = some (.int .i64 (zs.getD k 0)) := fun k hk => by rw [← add_plain]; exact hcell k (by omega)
    have hb : b < W.heap.size := by
      have h0 := hc 0 (by omega)
      unfold World.cell? at h0
      cases hh : W.heap[b]? with
      | none => simp [hh] at h0
      | some o => exact (Array.getElem?_eq_some_iff.1 hh).1
    refine ⟨b, off, rfl, hb, fun k hk => ?_⟩
    rw [hc k hk]
    have hk2 : k < zs.length := by omega
    simp [List.getD, hk, hk2]
theorem scaled_walk' (minor cur kk : Int) (v : Value) (us : List Nat) (w : World) (T : Cu w) (N : Cn w) (HU : U16s w v us) (wm : (Lit.int .i64 minor).wf = true) (wc : (Lit.int .u8 cur).wf = true) (wk : (Lit.int .u8 kk).wf = true) :
    Calls Tryd.prog 5 #[.int .i64 minor, .int .u8 cur, v, .int .u8 kk] w fun e w' => e = .returned (.bool true) ∧ Below w.heap.size w w' := by
  simp [Lit.wf, IntKind.min, IntKind.max, IntKind.signed, IntKind.bits] at wm wc wk
  obtain ⟨c, rfl⟩ : ∃ c : Nat, cur = (c : Int) := ⟨cur.toNat, by omega⟩
  obtain ⟨k, rfl⟩ : ∃ k : Nat, kk = (k : Int) := ⟨kk.toNat, by omega⟩
  exact scaled_walk minor c k v us w T N HU (by omega) (by omega) (by omega) (by omega)
end Go.Proofs.YtbgglghapjfdeaaDoor
