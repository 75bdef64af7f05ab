/- The document's long numbers: slices of digits; the contracts of Norm, Word, Fits, Compare, Size. -/
import Derived.Test.YtegooagmlapngaaProg
import Derived.WalkKit
import Derived.BigQuiet
import Derived.Deep.QuietTactic
import Derived.Test.YtegooagmlapngaaUa
namespace Go.Proofs.Ytegooagmlapngaa
open Go.RowKit
set_option linter.unusedVariables false

/-- The digit number k, as the program has it. -/
def dg (ds : List Nat) (k : Nat) : Int := ((ds.getD k 0 : Nat) : Int)
theorem dg_bd {ds : List Nat} (h : Sm ds) (k : Nat) : 0 ≤ dg ds k ∧ dg ds k ≤ 4294967295 := by
  have := sm_getD k h
  unfold dg; omega
/-- The slice v holds the digits ds. -/
structure Row (w : World) (v : Value) (ds : List Nat) : Prop where
  short : ds.length ≤ 200
  form : ∃ a c, v = .slice a ds.length c ∧ ds.length ≤ c ∧ (0 < ds.length → ∃ b off, a = some ⟨b, off, none⟩ ∧ (b < w.heap.size ∧ ∃ cur fr, w.heap[b]? = some (.cells cur 22 fr)) ∧ ∀ k, k < ds.length → w.cell? ⟨b, off + k, none⟩ = some (.int .u64 (dg ds k)))
theorem Row.step {w w' : World} {v : Value} {ds : List Nat} (h : Row w v ds) (k : Below w.heap.size w w') : Row w' v ds := by
  obtain ⟨s, a, c, e, hc, f⟩ := h
  refine ⟨s, a, c, e, hc, fun h0 => ?_⟩
  obtain ⟨b, off, ea, ⟨hb, cur, fr, hk⟩, hx⟩ := f h0
  exact ⟨b, off, ea, ⟨Nat.lt_of_lt_of_le hb k.size, cur, fr, by rw [k.block b hb]; exact hk⟩, fun j hj => (k.cell (p := ⟨b, off + j, none⟩) hb).trans (hx j hj)⟩
/-- a store into a block of another kind -/
theorem Row.store {w : World} {v : Value} {ds : List Nat} (h : Row w v ds) {p : Nat} {cur : Array Value} {T : TypeId} {fr : Nat × Nat} (hp : w.heap[p]? = some (.cells cur T fr)) (hT : T ≠ 22) (o : Nat) (u : Value) : Row (w.setCell ⟨p, o, none⟩ u) v ds := by
  obtain ⟨s, a, c, e, hc, f⟩ := h
  refine ⟨s, a, c, e, hc, fun h0 => ?_⟩
  obtain ⟨b, off, ea, ⟨hb, cur', fr', hk⟩, hx⟩ := f h0
  have hne : b ≠ p := by
    intro e
    subst e
    rw [hp] at hk
    simp at hk
    exact hT hk.2.1
  have hh : (w.setCell ⟨p, o, none⟩ u).heap[b]? = w.heap[b]? := Below.heap_setCell _ _ _ _ hne
  exact ⟨b, off, ea, ⟨by simpa [World.setCell] using hb, cur', fr', by rw [hh]; exact hk⟩, fun j hj => (World.cell?_of_block (w := w) (a := ⟨b, off + j, none⟩) hh).trans (hx j hj)⟩
theorem dg_take (ds : List Nat) (n k : Nat) (h : k < n) : dg (ds.take n) k = dg ds k := by
  unfold dg; simp [h]
/-- The slice v holds the number x. -/
structure Nm (w : World) (v : Value) (x : Nat) : Prop where
  ex : ∃ ds, Row w v ds ∧ Nd ds ∧ val ds = x
theorem Nm.step {w w' : World} {v : Value} {x : Nat} (h : Nm w v x) (k : Below w.heap.size w w') : Nm w' v x := by
  obtain ⟨ds, r, n, e⟩ := h
  exact ⟨ds, r.step k, n, e⟩
theorem Nm.store {w : World} {v : Value} {x : Nat} (h : Nm w v x) {p : Nat} {cur : Array Value} {T : TypeId} {fr : Nat × Nat} (hp : w.heap[p]? = some (.cells cur T fr)) (hT : T ≠ 22) (o : Nat) (u : Value) : Nm (w.setCell ⟨p, o, none⟩ u) v x := by
  obtain ⟨ds, r, n, e⟩ := h
  exact ⟨ds, r.store hp hT o u, n, e⟩
theorem nm_nil (w : World) : Nm w (.slice none 0 0) 0 := ⟨[], ⟨by simp, none, 0, rfl, by simp, fun h => by simp at h⟩, nd_nil, rfl⟩
theorem row_cut {w : World} {a : Option Addr} {c : Nat} {ds : List Nat} (hm : ds.length ≤ 200) (hc : ds.length ≤ c) (k : Nat) (hk : k ≤ ds.length)
    (f : 0 < ds.length → ∃ b off, a = some ⟨b, off, none⟩ ∧ (b < w.heap.size ∧ ∃ cur fr, w.heap[b]? = some (.cells cur 22 fr)) ∧ ∀ k, k < ds.length → w.cell? ⟨b, off + k, none⟩ = some (.int .u64 (dg ds k))) : Row w (.slice a k c) (ds.take k) := by
  have hl : (ds.take k).length = k := by rw [List.length_take]; omega
  refine ⟨by omega, a, c, by rw [hl], by omega, fun h => ?_⟩
  obtain ⟨b, off, e, hb, hx⟩ := f (by omega)
  exact ⟨b, off, e, hb, fun j hj => by rw [dg_take ds k j (by omega)]; exact hx j (by omega)⟩
theorem nd_take {ds : List Nat} (hs : Sm ds) (k : Nat) (hk : k ≤ ds.length) (h : 0 < k → dg ds (k - 1) ≠ 0) : Nd (ds.take k) := by
  have hl : (ds.take k).length = k := by rw [List.length_take]; omega
  refine ⟨sm_take k hs, fun h0 => ?_⟩
  rw [hl] at h0 ⊢
  have hz := h h0
  have := val_take_succ ds (k - 1) (by omega)
  rw [show k - 1 + 1 = k by omega] at this
  have hp : pw (k - 1) * 1 ≤ pw (k - 1) * ds.getD (k - 1) 0 := Nat.mul_le_mul_left _ (by unfold dg at hz; omega)
  omega
theorem val_take_drop0 {ds : List Nat} (k : Nat) (hk : 0 < k) (hk2 : k ≤ ds.length) (h : dg ds (k - 1) = 0) : val (ds.take k) = val (ds.take (k - 1)) := by
  have := val_take_succ ds (k - 1) (by omega)
  rw [show k - 1 + 1 = k by omega] at this
  have hz : ds.getD (k - 1) 0 = 0 := by unfold dg at h; omega
  rw [this, hz]; simp
theorem norm_ok (v : Value) (ds : List Nat) (w : World) (h : Row w v ds) (hs : Sm ds) :
    Calls Try.prog 40 #[v] w fun e w' => (∃ u, e = .returned u ∧ Nm w u (val ds)) ∧ w' = w := by
  obtain ⟨hm, a, c, rfl, hlc, hx⟩ := h
  have HX := (show Hid _ from hx)
  have HS := (show Hid _ from hs)
  clear hx hs
  obtain ⟨n, hn⟩ : ∃ n, n = ds.length := ⟨_, rfl⟩
  have HN : Hid (n = ds.length) := hn
  rw [← hn] at hm hlc
  rw [← hn]
  clear hn
  go_enter Try.func40, Try.ntmps40
  go_wp2_with fail
  go_loop [3] (fun i => ∃ k : Nat, k ≤ n ∧ i = .int .i64 k ∧ Hid (val (ds.take k) = val ds)) (fun i => (intOf i).toNat)
  case atStart => exact ⟨n, Nat.le_refl _, rfl, by rw [HN.out]; exact congrArg val (List.take_length)⟩
  case round =>
    obtain ⟨k, hk, rfl, hv⟩ := hrel
    have fin : ∀ (h : 0 < k → dg ds (k - 1) ≠ 0), Hid (Nm w (.slice a k c) (val ds)) := fun h => ⟨ds.take k, row_cut (by have := HN.out; omega) (by have := HN.out; omega) k (by have := HN.out; omega) HX.out, nd_take HS.out k (by have := HN.out; omega) h, hv.out⟩
    by_cases h0 : k = 0
    · subst h0
      have F := fin (fun h => by omega)
      clear fin
      go_wp2_with fail
      go_ret
      exact ⟨⟨_, rfl, F.out⟩, rfl⟩
    · obtain ⟨b, off, rfl, ⟨hb, _⟩, hc⟩ := HX.out (by have := HN.out; omega)
      have hcell := hc (k - 1) (by have := HN.out; omega)
      clear hc HX
      have hk1 : 1 ≤ k := by omega
      by_cases hz : dg ds (k - 1) = 0
      · rw [hz] at hcell
        have hv' : Hid (val (ds.take (k - 1)) = val ds) := by rw [← val_take_drop0 k hk1 (by have := HN.out; omega) hz]; exact hv.out
        clear hz fin
        go_wp2_with fail
        go_round
        case rel => exact ⟨k - 1, by omega, by go_num, hv'⟩
        case measure => simp [intOf]; omega
      · have F := fin (fun _ => hz)
        have hz' : (dg ds (k - 1) == 0) = false := by simp [hz]
        clear fin
        go_wp2_with fail
        go_ret
        exact ⟨⟨_, rfl, F.out⟩, rfl⟩
end Go.Proofs.Ytegooagmlapngaa
