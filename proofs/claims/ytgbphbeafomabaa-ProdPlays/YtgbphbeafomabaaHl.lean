/- prod: lists of questions that come in, opened. -/
import Derived.Test.YtgbphbeafomabaaHk
import Derived.Test.YtgbphbeafomabaaHc
namespace Go.Proofs.Ytgbphbeafomabaa
open Go.ChangeShapes Go.WideShapes Go.ChangeAt Go.RowKit
set_option linter.unusedVariables false

theorem ecellsA : Try.prog.cellsOf 47 = 2 := by kernel_rfl
/-- a question: two cells -/
theorem came_ask {H : Type} {enc : TypeId × Value → H} {W : World} {fuel : Nat} {cs : List Value} {x : DataW H × List MemPlace} (h : DataW.trod enc Try.prog W 0 (fun _ => true) true fuel 47 cs = some x) :
    ∃ f r, cs = [.int .i64 f, .int .i64 r] ∧ (-9223372036854775808 ≤ f ∧ f ≤ 9223372036854775807) ∧ -9223372036854775808 ≤ r ∧ r ≤ 9223372036854775807 := by
  obtain ⟨xs, n, _, rfl, hl, hlen, hf⟩ := DataW.trod_struct Try.underlying47 h
  rw [ecellsA] at hl
  match cs, hl with
  | [c0, c1], _ =>
    match xs, hlen with
    | [y0, y1], _ =>
      have h0 : DataW.trod enc Try.prog W 0 (fun _ => true) true n 2 (([c0, c1].drop 0).take (Try.prog.cellsOf 2)) = some y0 := hf 0 _ rfl
      have h1 : DataW.trod enc Try.prog W 0 (fun _ => true) true n 3 (([c0, c1].drop 1).take (Try.prog.cellsOf 3)) = some y1 := hf 1 _ rfl
      rw [ecellsI] at h0
      rw [ecellsJ] at h1
      obtain ⟨f, e0, _, w0⟩ := DataW.trod_int Try.underlying2 h0
      obtain ⟨r, e1, _, w1⟩ := DataW.trod_int Try.underlying3 h1
      simp at e0 e1
      exact ⟨f, r, by rw [e0, e1], bd_i64 w0, bd_i64 w1⟩
/-- a list of questions -/
theorem came_asks {H : Type} {enc : TypeId × Value → H} {W : World} {fuel : Nat} {cs : List Value} {x : DataW H × List MemPlace} (h : DataW.trod enc Try.prog W 0 (fun _ => true) true fuel 39 cs = some x) :
    ∃ v ts, cs = [v] ∧ Tr W v ts ∧ (∀ n c, v = .slice none n c → c = 0) ∧ ((x.1 = .nil ∧ ts = []) ∨ ∃ el sp, x.1 = .slice el sp ∧ el.length = ts.length) := by
  rcases DataW.trod_slice Try.underlying39 h with ⟨hcs, hx⟩ | ⟨a', len, cap, elems, rest, n, _, hcs, hxx, _, hl, hm, hlen, hel, _, _⟩
  · exact ⟨_, [], hcs, ⟨fun t ht => by simp at ht, none, 0, rfl, by simp, by omega, fun h => by simp at h⟩, (fun n c e => by cases e; rfl), Or.inl ⟨by rw [hx], rfl⟩⟩
  · have each : ∀ i, ∃ p : Int × Int, i < len → W.cell? (a'.add (i * 2)) = some (.int .i64 p.1) ∧ W.cell? ((a'.add (i * 2)).add 1) = some (.int .i64 p.2) ∧ ((-9223372036854775808 ≤ p.1 ∧ p.1 ≤ 9223372036854775807) ∧ -9223372036854775808 ≤ p.2 ∧ p.2 ≤ 9223372036854775807) := by
      intro i
      by_cases hi : i < len
      · have h1 := hel i hi
        rw [List.getElem?_eq_getElem (by omega), ecellsA, Option.bind_eq_some_iff] at h1
        obtain ⟨cs', hcs', ht⟩ := h1
        obtain ⟨f, r, rfl, w⟩ := came_ask ht
        obtain ⟨_, _, hc⟩ := World.cells?_some hcs'
        have z0 := hc 0 (by omega)
        have z1 := hc 1 (by omega)
        refine ⟨(f, r), fun _ => ⟨?_, ?_, w⟩⟩
        · simpa [Addr.add] using z0
        · simpa using z1
      · exact ⟨(0, 0), fun h => absurd h hi⟩
    obtain ⟨f, hf⟩ := Classical.skolem.1 each
    have hl2 : ((List.range len).map f).length = len := by simp
    refine ⟨_, (List.range len).map f, hcs, ⟨fun t ht => ?_, some a', cap, by rw [hl2], by omega, by unfold maxLen at hm; omega, fun h0 => ?_⟩, (fun n c e => by cases e), Or.inr ⟨_, _, by rw [hxx], by rw [hl2, List.length_map]; exact hlen⟩⟩
    · obtain ⟨i, hi, rfl⟩ := List.mem_map.1 ht
      exact (hf i (List.mem_range.1 hi)).2.2
    rw [hl2] at h0 ⊢
    obtain ⟨b, off, spot⟩ := a'
    have hspot : spot = none := by simpa [Addr.add] using World.cell?_spot (hf 0 (by omega)).1
    subst hspot
    have hc : ∀ k, k < len → W.cell? ⟨b, off + 2 * k, none⟩ = some (.int .i64 (f k).1) ∧ W.cell? ⟨b, off + 2 * k + 1, none⟩ = some (.int .i64 (f k).2) := fun k hk => by
      have h1 := hf k hk
      rw [add_plain, add_plain, Nat.mul_comm k 2] at h1
      exact ⟨h1.1, h1.2.1⟩
    refine ⟨b, off, rfl, lt_cell (hc 0 (by omega)).1, fun k hk => ?_⟩
    have e : ((List.range len).map f).getD k (0, 0) = f k := by simp [List.getD, hk]
    rw [e]
    exact hc k hk
end Go.Proofs.Ytgbphbeafomabaa
