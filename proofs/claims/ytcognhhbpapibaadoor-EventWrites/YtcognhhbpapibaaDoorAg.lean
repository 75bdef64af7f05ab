/- pack's statements: awake; the walk of PackOne. -/
import Derived.Test.YtcognhhbpapibaaDoorAf
import Derived.Deep.RegionHeld3
namespace Go.Proofs.YtcognhhbpapibaaDoor
open Go.RowKit
set_option linter.unusedVariables false

theorem Bs.drew {w : World} {v : Value} {bs : List Nat} (h : Bs w v bs) : Bs w.drew v bs := h.step ((Below.refl _ _).drew)
theorem bel_of_drew {B : Nat} {w w' : World} (h : Below B w.drew w') : Below B w w' := ⟨h.os, h.tape, h.output, h.size, h.block⟩
/-- bytes that are written out -/
theorem bs_new (w : World) (bs : List Nat) (hby : By bs) (n : Nat) (hl : bs.length = n) (hn : n ≤ 1000) (T : TypeId) :
    Bs (w.alloc (.cells (cl bs).toArray T)) (.slice (some ⟨w.heap.size, 0, none⟩) n n) bs := by
  subst hl
  refine ⟨hby, _, _, rfl, Nat.le_refl _, by omega, fun h => (by cases h), fun h0 => ⟨w.heap.size, 0, rfl, by simp, fun k hk => ?_⟩⟩
  rw [Nat.zero_add]
  have h1 := cl_get bs k hk
  simp [go_sem, h1]
theorem enc300 : enc 300 = [172, 2] := by rw [enc_hi (by omega), enc_lo (by omega)]
theorem enczz : enc (zz (-1)) = [1] := by rw [show zz (-1) = 1 by decide, enc_lo (by omega)]
theorem front_cut {n k : Nat} {bs : List Nat} (hf : enc n <+: bs) (hk : k = (enc n).length) : bs.take k = enc n := by
  obtain ⟨t, rfl⟩ := hf
  subst hk
  simp
end Go.Proofs.YtcognhhbpapibaaDoor
