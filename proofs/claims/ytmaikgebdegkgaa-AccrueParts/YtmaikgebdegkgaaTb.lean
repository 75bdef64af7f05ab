/- Slices of tiers that come in, opened (taken from Gu). -/
import Derived.Test.YtmaikgebdegkgaaTa
import Derived.OpenShut
import Derived.WideShapes
namespace Go.Proofs.Ytmaikgebdegkgaa
open Go.ChangeShapes Go.WideShapes Go.ChangeAt Go.RowKit
set_option linter.unusedVariables false
set_option maxRecDepth 100000

theorem ecellsI : Try.prog.cellsOf 2 = 1 := by kernel_rfl
theorem ecellsT : Try.prog.cellsOf 22 = 1 := by kernel_rfl
theorem ecellsR : Try.prog.cellsOf 25 = 2 := by kernel_rfl
theorem lt_cell {W : World} {b o : Nat} {v : Value} (h : W.cell? ⟨b, o, none⟩ = some v) : b < W.heap.size := World.block_lt_of_cell? W _ h
theorem bd_i64 {n : Int} (h : (Lit.int .i64 n).wf = true) : -9223372036854775808 ≤ n ∧ n ≤ 9223372036854775807 := by simpa [Lit.wf, IntKind.min, IntKind.max, IntKind.signed, IntKind.bits] using h
/-- a tier of two cells -/
theorem came_tier {H : Type} {enc : TypeId × Value → H} {W : World} {fuel : Nat} {cs : List Value} {x : DataW H × List MemPlace} (h : DataW.trod enc Try.prog W 0 (fun _ => true) true fuel 25 cs = some x) :
    ∃ f r, cs = [.int .i64 f, .int .i64 r] ∧ (-9223372036854775808 ≤ f ∧ f ≤ 9223372036854775807) ∧ -9223372036854775808 ≤ r ∧ r ≤ 9223372036854775807 := by
  obtain ⟨xs, n, _, rfl, hl, hlen, hf⟩ := DataW.trod_struct Try.underlying25 h
  rw [ecellsR] at hl
  match cs, hl with
  | [c0, c1], _ =>
    match xs, hlen with
    | [y0, y1], _ =>
      have h0 : DataW.trod enc Try.prog W 0 (fun _ => true) true n 2 (([c0, c1].drop 0).take (Try.prog.cellsOf 2)) = some y0 := hf 0 _ rfl
      have h1 : DataW.trod enc Try.prog W 0 (fun _ => true) true n 2 (([c0, c1].drop 1).take (Try.prog.cellsOf 2)) = some y1 := hf 1 _ rfl
      rw [ecellsI] at h0 h1
      obtain ⟨f, e0, _, w0⟩ := DataW.trod_int Try.underlying2 h0
      obtain ⟨r, e1, _, w1⟩ := DataW.trod_int Try.underlying2 h1
      simp at e0 e1
      exact ⟨f, r, by rw [e0, e1], bd_i64 w0, bd_i64 w1⟩
/-- a list of tiers -/
theorem came_tiers2 {H : Type} {enc : TypeId × Value → H} {W : World} {fuel : Nat} {cs : List Value} {x : DataW H × List MemPlace} (h : DataW.trod enc Try.prog W 0 (fun _ => true) true fuel 22 cs = some x) :
    ∃ v ts, cs = [v] ∧ Tr W v ts ∧ (∀ n c, v = .slice none n c → c = 0) ∧ ((x.1 = .nil ∧ ts = []) ∨ ∃ el sp, x.1 = .slice el sp ∧ el.length = ts.length) := by
  rcases DataW.trod_slice Try.underlying22 h with ⟨hcs, hx⟩ | ⟨a', len, cap, elems, rest, n, _, hcs, hxx, _, hl, hm, hlen, hel, _, _⟩
  · exact ⟨_, [], hcs, ⟨fun t ht => by simp at ht, none, 0, rfl, by simp, by omega, fun h => by simp at h⟩, (fun n c e => by cases e; rfl), Or.inl ⟨by rw [hx], rfl⟩⟩
  · have each : ∀ i, ∃ p : Int × Int, i < len → W.cell? (a'.add (i * 2)) = some (.int .i64 p.1) ∧ W.cell? ((a'.add (i * 2)).add 1) = some (.int .i64 p.2) ∧ ((-9223372036854775808 ≤ p.1 ∧ p.1 ≤ 9223372036854775807) ∧ -9223372036854775808 ≤ p.2 ∧ p.2 ≤ 9223372036854775807) := by
      intro i
      by_cases hi : i < len
      · have h1 := hel i hi
        rw [List.getElem?_eq_getElem (by omega), ecellsR, Option.bind_eq_some_iff] at h1
        obtain ⟨cs', hcs', ht⟩ := h1
        obtain ⟨f, r, rfl, w⟩ := came_tier ht
        obtain ⟨_, _, hc⟩ := World.cells?_some hcs'
        have z0 := hc 0 (by omega)
        have z1 := hc 1 (by omega)
        refine ⟨(f, r), fun _ => ⟨?_, ?_, w⟩⟩
        · simpa [Addr.add] using z0
        · simpa using z1
      · exact ⟨(0, 0), fun h => absurd h hi⟩
    obtain ⟨f, hf⟩ := Classical.skolem.1 each
    have hl2 : ((List.range len).map f).length = len := by simp
    refine ⟨_, (List.range len).map f, hcs, ⟨fun t ht => ?_, some a', cap, by rw [hl2], by omega, by unfold maxLen at hm; omega, fun h0 => ?_⟩, (fun n c e => by cases e), Or.inr ⟨_, _, by rw [hxx], by rw [hl2, List.length_map]; exact hlen⟩⟩
    · obtain ⟨i, hi, rfl⟩ := List.mem_map.1 ht
      exact (hf i (List.mem_range.1 hi)).2.2
    rw [hl2] at h0 ⊢
    obtain ⟨b, off, spot⟩ := a'
    have hspot : spot = none := by simpa [Addr.add] using World.cell?_spot (hf 0 (by omega)).1
    subst hspot
    have hc : ∀ k, k < len → W.cell? ⟨b, off + 2 * k, none⟩ = some (.int .i64 (f k).1) ∧ W.cell? ⟨b, off + 2 * k + 1, none⟩ = some (.int .i64 (f k).2) := fun k hk => by
      have h1 := hf k hk
      rw [add_plain, add_plain, Nat.mul_comm k 2] at h1
      exact ⟨h1.1, h1.2.1⟩
    refine ⟨b, off, rfl, lt_cell (hc 0 (by omega)).1, fun k hk => ?_⟩
    have e : ((List.range len).map f).getD k (0, 0) = f k := by simp [List.getD, hk]
    rw [e]
    exact hc k hk
theorem came_tiersR {H : Type} {enc : TypeId × Value → H} {W : World} {fuel : Nat} {a : Option Addr} {len cap R : Nat} {d : DataW H} {p : List MemPlace} (h : DataW.trod enc Try.prog W 0 (fun _ => true) true fuel 22 (Value.slice a len cap).cells.toList = some (d, p))
    (hR : ∀ n ∈ DataW.weights Try.prog 22 d, n ≤ R) : ∃ ts, Tr W (.slice a len cap) ts ∧ (∀ n c, Value.slice a len cap = .slice none n c → c = 0) ∧ ts.length * 16 ≤ R := by
  obtain ⟨v, ts, e, hT, hno, hwt⟩ := came_tiers2 h
  obtain rfl : v = .slice a len cap := by simpa [Value.cells] using e.symm
  refine ⟨ts, hT, hno, ?_⟩
  rcases hwt with ⟨_, rfl⟩ | ⟨el, sp, e5, e6⟩
  · simp
  · have h9 := hR ((el.length + sp.length) * Try.prog.bytesOf 25) (by
      have e7 : d = .slice el sp := e5
      rw [e7]
      simp [DataW.weights, Try.underlying22])
    rw [show Try.prog.bytesOf 25 = 16 by kernel_rfl] at h9
    rw [← e6]
    omega
end Go.Proofs.Ytmaikgebdegkgaa
