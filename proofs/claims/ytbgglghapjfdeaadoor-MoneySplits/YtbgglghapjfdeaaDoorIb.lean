/- Two lists of int64 compared (SameInts), for any seat. -/
import Derived.Test.YtbgglghapjfdeaaDoorIa
import Derived.Deep.QuietTactic
namespace Go.Proofs.YtbgglghapjfdeaaDoor
open Go.RowKit
set_option linter.unusedVariables false

theorem bel_drewN' {B : Nat} {w0 w : World} (h : Below B w0 w) (n : Nat) : Below B w0 (w.drewN n) := ⟨h.os, h.tape, h.output, h.size, h.block⟩
/-- int64(uint64(x) % m) -/
theorem um (x m : Int) (h0 : 0 < m) (h1 : m ≤ 9000000000000000000) : 0 ≤ wrap64 ((IntKind.u64.wrap x).tmod m) ∧ wrap64 ((IntKind.u64.wrap x).tmod m) < m := by
  have hw : 0 ≤ IntKind.u64.wrap x := by
    show 0 ≤ x % 2 ^ 64
    exact Int.emod_nonneg _ (by decide)
  rw [Int.tmod_eq_emod_of_nonneg hw]
  have a := Int.emod_nonneg (IntKind.u64.wrap x) (show m ≠ 0 by omega)
  have b := Int.emod_lt_of_pos (IntKind.u64.wrap x) h0
  generalize IntKind.u64.wrap x % m = z at *
  have : wrap64 z = z := by unfold wrap64; omega
  omega
set_option maxHeartbeats 1000000 in
theorem sameInts_ok (v u : Value) (xs : List Int) (w : World) (h : Is w v xs) (h2 : Is w u xs) :
    Calls Tryd.prog 9 #[v, u] w fun e w' => e = .returned (.bool true) ∧ Below w.heap.size w w' := by
  obtain ⟨a, c, rfl, hlc, hc9, hx⟩ := h
  obtain ⟨a2, c2, rfl, hlc2, hc92, hx2⟩ := h2
  have HX := (show Hid _ from hx)
  have HX2 := (show Hid _ from hx2)
  clear hx hx2
  obtain ⟨n, hn⟩ : ∃ n, n = xs.length := ⟨_, rfl⟩
  have HN : Hid (n = xs.length) := hn
  rw [← hn] at hlc hlc2 ⊢
  clear hn
  go_enter Tryd.func9, Tryd.ntmps9
  go_wp2_with fail
  go_loopw [13] (fun i wr => ∃ k : Nat, k ≤ n ∧ i = .int .i64 k ∧ Below w.heap.size w wr) (fun i _ => n - (intOf i).toNat)
  case atStart => exact ⟨0, by omega, rfl, Below.refl _ _⟩
  case round =>
    obtain ⟨k, hk, rfl, hbel⟩ := hrel
    by_cases h0 : k = n
    · subst h0
      go_wp2_with fail
      go_ret
      exact ⟨rfl, hbel⟩
    · have hkn : k < n := by omega
      have k1 : k < xs.length := by have := HN.out; omega
      obtain ⟨b, off, rfl, hb, hc⟩ := HX.out (by omega)
      obtain ⟨b2, off2, rfl, hb2, hc2⟩ := HX2.out (by omega)
      have hcell := (hbel.cell (p := ⟨b, off + k, none⟩) hb).trans (hc k k1)
      have hcell2 := (hbel.cell (p := ⟨b2, off2 + k, none⟩) hb2).trans (hc2 k k1)
      obtain ⟨x, hx⟩ : ∃ x, x = xs.getD k 0 := ⟨_, rfl⟩
      rw [← hx] at hcell hcell2
      clear hc HX hc2 HX2 k1 hx
      go_wp2_with fail
      go_quiet (fail)
      have hbel := bel_drewN' hbel nq
      generalize wr.drewN nq = wq at *
      clear hcell hcell2
      go_wp2_with fail
      exact ⟨⟨k + 1, by omega, by go_num, hbel⟩, by simp [intOf]; omega⟩
end Go.Proofs.YtbgglghapjfdeaaDoor
