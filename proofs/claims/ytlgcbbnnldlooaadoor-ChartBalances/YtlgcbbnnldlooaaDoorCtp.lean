/- chart: lists of lines and of entries that come in, opened; the limits out of a row's laid variables. -/
import Derived.Test.YtlgcbbnnldlooaaDoorCtn
import Derived.OpenShut
import Derived.WideShapes
import Derived.Lib.LaidTab
import Derived.Stop.LaidErr
import Derived.MakeChecks
import Derived.SizedLaws
namespace Go.Proofs.YtlgcbbnnldlooaaDoor
open Go.ChangeShapes Go.WideShapes Go.ChangeAt Go.RowKit
set_option linter.unusedVariables false
set_option maxRecDepth 100000

theorem ccI : Tryd.prog.cellsOf 3 = 1 := by kernel_rfl
theorem ccI64 : Tryd.prog.cellsOf 2 = 1 := by kernel_rfl
theorem ccU64 : Tryd.prog.cellsOf 35 = 1 := by kernel_rfl
theorem ccD : Tryd.prog.cellsOf 37 = 3 := by kernel_rfl
theorem ccL : Tryd.prog.cellsOf 39 = 5 := by kernel_rfl
theorem ccLs : Tryd.prog.cellsOf 34 = 1 := by kernel_rfl
theorem ltc {W : World} {b o : Nat} {v : Value} (h : W.cell? ⟨b, o, none⟩ = some v) : b < W.heap.size := World.block_lt_of_cell? W _ h
theorem bdi {n : Int} (h : (Lit.int .i64 n).wf = true) : -9223372036854775808 ≤ n ∧ n ≤ 9223372036854775807 := by simpa [Lit.wf, IntKind.min, IntKind.max, IntKind.signed, IntKind.bits] using h
/-- a decimal of three cells -/
theorem came_dec {H : Type} {enc : TypeId × Value → H} {P0 : Nat} {sp : Nat → Bool} {hd : Bool} {W : World} {fuel : Nat} {cs : List Value} {x : DataW H × List MemPlace} (h : DataW.trod enc Tryd.prog W P0 sp hd fuel 37 cs = some x) :
    ∃ a b c, cs = [.int .i64 a, .int .u64 b, .int .i64 c] ∧ (Lit.int .i64 a).wf = true ∧ (Lit.int .u64 b).wf = true ∧ (Lit.int .i64 c).wf = true ∧ x.1 = .agg [.lit (.int .i64 a), .lit (.int .u64 b), .lit (.int .i64 c)] := by
  obtain ⟨xs, n, _, rfl, hl, hlen, hf⟩ := DataW.trod_struct Tryd.underlying37 h
  rw [ccD] at hl
  match cs, hl with
  | [c0, c1, c2], _ =>
    match xs, hlen with
    | [y0, y1, y2], _ =>
      have h0 : DataW.trod enc Tryd.prog W P0 sp hd n 2 (([c0, c1, c2].drop 0).take (Tryd.prog.cellsOf 2)) = some y0 := hf 0 _ rfl
      have h1 : DataW.trod enc Tryd.prog W P0 sp hd n 35 (([c0, c1, c2].drop 1).take (Tryd.prog.cellsOf 35)) = some y1 := hf 1 _ rfl
      have h2 : DataW.trod enc Tryd.prog W P0 sp hd n 3 (([c0, c1, c2].drop 2).take (Tryd.prog.cellsOf 3)) = some y2 := hf 2 _ rfl
      rw [ccI64] at h0
      rw [ccU64] at h1
      rw [ccI] at h2
      obtain ⟨a, e0, f0, w0⟩ := DataW.trod_int Tryd.underlying2 h0
      obtain ⟨b, e1, f1, w1⟩ := DataW.trod_int Tryd.underlying35 h1
      obtain ⟨c, e2, f2, w2⟩ := DataW.trod_int Tryd.underlying3 h2
      simp at e0 e1 e2
      exact ⟨a, b, c, by rw [e0, e1, e2], w0, w1, w2, by rw [f0, f1, f2]; rfl⟩
/-- a line of five cells -/
theorem came_line {H : Type} {enc : TypeId × Value → H} {W : World} {fuel : Nat} {cs : List Value} {x : DataW H × List MemPlace} (h : DataW.trod enc Tryd.prog W 0 (fun _ => true) true fuel 39 cs = some x) : ∃ y : Ln, cs = y.enc ∧ y.wf := by
  obtain ⟨xs, n, _, rfl, hl, hlen, hf⟩ := DataW.trod_struct Tryd.underlying39 h
  rw [ccL] at hl
  match cs, hl with
  | [c0, c1, c2, c3, c4], _ =>
    match xs, hlen with
    | [y0, y1, y2], _ =>
      have h0 : DataW.trod enc Tryd.prog W 0 (fun _ => true) true n 3 (([c0, c1, c2, c3, c4].drop 0).take (Tryd.prog.cellsOf 3)) = some y0 := hf 0 _ rfl
      have h1 : DataW.trod enc Tryd.prog W 0 (fun _ => true) true n 3 (([c0, c1, c2, c3, c4].drop 1).take (Tryd.prog.cellsOf 3)) = some y1 := hf 1 _ rfl
      have h2 : DataW.trod enc Tryd.prog W 0 (fun _ => true) true n 37 (([c0, c1, c2, c3, c4].drop 2).take (Tryd.prog.cellsOf 37)) = some y2 := hf 2 _ rfl
      rw [ccI] at h0 h1
      rw [ccD] at h2
      obtain ⟨a, e0, _, w0⟩ := DataW.trod_int Tryd.underlying3 h0
      obtain ⟨b, e1, _, w1⟩ := DataW.trod_int Tryd.underlying3 h1
      obtain ⟨p, q, r, e2, w2, w3, w4, _⟩ := came_dec h2
      simp at e0 e1 e2
      exact ⟨⟨a, b, p, q, r⟩, by rw [e0, e1, e2.1, e2.2.1, e2.2.2]; rfl, ⟨bdi w0, bdi w1, w2, w3, bdi w4⟩⟩
/-- a list of lines -/
theorem came_lines {H : Type} {enc : TypeId × Value → H} {W : World} {fuel R : Nat} {cs : List Value} {x : DataW H × List MemPlace} (h : DataW.trod enc Tryd.prog W 0 (fun _ => true) true fuel 34 cs = some x)
    (hR : ∀ n ∈ DataW.weights Tryd.prog 34 x.1, n ≤ R) (hR2 : R ≤ 140737488351232) : ∃ v ls, cs = [v] ∧ LIn W v ls := by
  rcases DataW.trod_slice Tryd.underlying34 h with ⟨hcs, hx⟩ | ⟨a', len, cap, elems, rest, n, _, hcs, hxx, _, hl, hm, hlen, hel, _, _⟩
  · exact ⟨_, [], hcs, ⟨⟨none, 0, rfl, by simp, by omega, fun h => by simp at h⟩, fun x hx => by simp at hx, (fun n c e => by cases e; rfl), by simp⟩⟩
  · have each : ∀ i, ∃ p : Ln, i < len → (∀ j u, p.enc[j]? = some u → W.cell? ((a'.add (i * 5)).add j) = some u) ∧ p.wf := by
      intro i
      by_cases hi : i < len
      · have h1 := hel i hi
        rw [List.getElem?_eq_getElem (by omega), ccL, Option.bind_eq_some_iff] at h1
        obtain ⟨cs', hcs', ht⟩ := h1
        obtain ⟨y, rfl, hy⟩ := came_line ht
        obtain ⟨_, _, hc⟩ := World.cells?_some hcs'
        refine ⟨y, fun _ => ⟨fun j u hj => ?_, hy⟩⟩
        have hj5 : j < 5 := (List.getElem?_eq_some_iff.1 hj).1
        rw [hc j (by omega)]
        exact hj
      · exact ⟨⟨0, 0, 0, 0, 0⟩, fun h => absurd h hi⟩
    obtain ⟨f, hf⟩ := Classical.skolem.1 each
    have hl2 : ((List.range len).map f).length = len := by simp
    have hsz : len * 40 ≤ 140737488351232 := by
      have h9 := hR ((elems.length + rest.length) * Tryd.prog.bytesOf 39) (by
        rw [hxx]
        simp [DataW.weights, Tryd.underlying34])
      rw [show Tryd.prog.bytesOf 39 = 40 by kernel_rfl, hlen, Nat.add_mul] at h9
      omega
    refine ⟨_, (List.range len).map f, hcs, ⟨⟨some a', cap, by rw [hl2], by omega, by unfold maxLen at hm; omega, fun h0 => ?_⟩, fun t ht => ?_, (fun n c e => by cases e), by rw [hl2]; exact hsz⟩⟩
    · rw [hl2] at h0
      obtain ⟨b, off, spot⟩ := a'
      have hc0 := (hf 0 h0).1 0 (.int .i64 (f 0).code) rfl
      have hspot : spot = none := by simpa [Addr.add] using World.cell?_spot hc0
      subst hspot
      have hc : ∀ k, k < len → ∀ j u, (f k).enc[j]? = some u → W.cell? ⟨b, off + k * 5 + j, none⟩ = some u := fun k hk j u hj => by
        have h1 := (hf k hk).1 j u hj
        rw [add_plain, add_plain] at h1
        exact h1
      refine ⟨b, off, rfl, ltc (hc 0 h0 0 _ rfl), fun k y hk => ?_⟩
      have hk' : k < len := by have := (List.getElem?_eq_some_iff.1 hk).1; rw [hl2] at this; exact this
      have e : f k = y := by simpa [hk'] using hk
      subst e
      exact hc k hk'
    · obtain ⟨i, hi, rfl⟩ := List.mem_map.1 ht
      exact (hf i (List.mem_range.1 hi)).2
theorem came_lns {H : Type} {enc : TypeId × Value → H} {W : World} {fuel : Nat} {a : Option Addr} {len cap R : Nat} {d : DataW H} {p : List MemPlace} (h : DataW.trod enc Tryd.prog W 0 (fun _ => true) true fuel 34 (Value.slice a len cap).cells.toList = some (d, p))
    (hR : ∀ n ∈ DataW.weights Tryd.prog 34 d, n ≤ R) (hR2 : R ≤ 140737488351232 := by omega) : ∃ ls, LIn W (.slice a len cap) ls := by
  obtain ⟨v, ls, e, hL⟩ := came_lines h hR hR2
  obtain rfl : v = .slice a len cap := by simpa [Value.cells] using e.symm
  exact ⟨ls, hL⟩
theorem wAll_mem {H : Type} (e : TypeId) : ∀ (l : List (DataW H)) (d : DataW H), d ∈ l → ∀ n ∈ d.weights Tryd.prog e, n ∈ DataW.weightsAll Tryd.prog e l
  | [], d, h, _, _ => by cases h
  | x :: r, d, h, n, hn => by
    unfold DataW.weightsAll
    rcases List.mem_cons.1 h with rfl | h
    · exact List.mem_append_left _ hn
    · exact List.mem_append_right _ (wAll_mem e r d h n hn)
theorem came_ens {H : Type} {enc : TypeId × Value → H} {W : World} {fuel : Nat} {a : Option Addr} {len cap R : Nat} {d : DataW H} {p : List MemPlace} (h : DataW.trod enc Tryd.prog W 0 (fun _ => true) true fuel 22 (Value.slice a len cap).cells.toList = some (d, p))
    (hR : ∀ n ∈ DataW.weights Tryd.prog 22 d, n ≤ R) (hR2 : R ≤ 140737488351232 := by omega) : ∃ es, EIn W (.slice a len cap) es := by
  rcases DataW.trod_slice Tryd.underlying22 h with ⟨hcs, hx⟩ | ⟨a', len', cap', elems, rest, n, _, hcs, hxx, _, hl, hm, hlen, hel, _, _⟩
  · simp [Value.cells] at hcs
    obtain ⟨rfl, rfl, rfl⟩ := hcs
    exact ⟨[], ⟨none, 0, rfl, by simp, by omega, fun h => by simp at h⟩⟩
  · simp [Value.cells] at hcs
    obtain ⟨rfl, rfl, rfl⟩ := hcs
    simp only [Prod.mk.injEq] at hxx
    have each : ∀ i, ∃ q : List Ln × Value, i < len → W.cell? (a'.add (i * 1)) = some q.2 ∧ LIn W q.2 q.1 := by
      intro i
      by_cases hi : i < len
      · have h1 := hel i hi
        rw [List.getElem?_eq_getElem (by omega), ccLs, Option.bind_eq_some_iff] at h1
        obtain ⟨cs', hcs', ht⟩ := h1
        obtain ⟨v, ls, rfl, hL⟩ := came_lines (R := R) ht (fun m hm' => hR m (by
          rw [hxx.1]
          unfold DataW.weights
          rw [Tryd.underlying22]
          refine List.mem_cons_of_mem _ (List.mem_append_left _ (wAll_mem _ _ _ ?_ m hm'))
          exact List.mem_map.2 ⟨_, List.getElem_mem (by omega), rfl⟩)) hR2
        obtain ⟨_, _, hc⟩ := World.cells?_some hcs'
        refine ⟨(ls, v), fun _ => ⟨?_, hL⟩⟩
        have z0 := hc 0 (by omega)
        simpa [Addr.add] using z0
      · exact ⟨([], .slice none 0 0), fun h => absurd h hi⟩
    obtain ⟨f, hf⟩ := Classical.skolem.1 each
    have hl2 : ((List.range len).map fun i => (f i).1).length = len := by simp
    refine ⟨(List.range len).map fun i => (f i).1, ⟨some a', cap, by rw [hl2], by omega, by unfold maxLen at hm; omega, fun h0 => ?_⟩⟩
    rw [hl2] at h0
    obtain ⟨b, off, spot⟩ := a'
    have hspot : spot = none := by simpa [Addr.add] using World.cell?_spot (hf 0 h0).1
    subst hspot
    have hc : ∀ k, k < len → W.cell? ⟨b, off + k, none⟩ = some (f k).2 := fun k hk => by
      have h1 := (hf k hk).1
      rw [add_plain, Nat.mul_one] at h1
      exact h1
    refine ⟨b, off, rfl, ltc (hc 0 h0), fun k y hk => ?_⟩
    have hk' : k < len := by have := (List.getElem?_eq_some_iff.1 hk).1; rw [hl2] at this; exact this
    have e : (f k).1 = y := by simpa [hk'] using hk
    subst e
    exact ⟨(f k).2, hc k hk', (hf k hk').2⟩
/-- a decimal among the laid variables -/
theorem dec_of_head {W : World} {name : String} {rest : List (String × DataW Unit)} {g : Nat} {a b c : Int} (hg : Tryd.prog.globalNamed name = some g) (hty : (Tryd.prog.globals[g]?).map (·.type) = some 37)
    (h : laidMet Tryd.prog ((name, .agg [.lit (.int .i64 a), .lit (.int .u64 b), .lit (.int .i64 c)]) :: rest) W) : At3 W g (.int .i64 a) (.int .u64 b) (.int .i64 c) := by
  obtain ⟨qs, ⟨g', t', cs, fuel, p, q, hg', ht', hvar, hd, _, _⟩, _⟩ := h
  obtain rfl := Option.some.inj (hg.symm.trans hg')
  obtain rfl := Option.some.inj (hty.symm.trans ht')
  obtain ⟨a', b', c', e, _, _, _, e2⟩ := came_dec hd
  simp only [DataW.agg.injEq, List.cons.injEq, DataW.lit.injEq, Lit.int.injEq, true_and, and_true] at e2
  obtain ⟨rfl, rfl, rfl⟩ := e2
  have c0 : W.cell? ⟨g, 0, none⟩ = some (.int .i64 a) := by rw [World.var?_cell hg hvar 0, ← Array.getElem?_toList, e]; rfl
  exact ⟨c0, by rw [World.var?_cell hg hvar 1, ← Array.getElem?_toList, e]; rfl, by rw [World.var?_cell hg hvar 2, ← Array.getElem?_toList, e]; rfl, ltc c0⟩
theorem lim_of {W : World} (h : laidMet Tryd.prog (("passbook/chart.maxAmount", .agg [.lit (.int .i64 5), .lit (.int .u64 7766279631452241920), .lit (.int .i64 0)]) :: ("passbook/chart.maxBalance", .agg [.lit (.int .i64 54210), .lit (.int .u64 2003764205206896640), .lit (.int .i64 0)]) :: []) W) : Lim W :=
  ⟨dec_of_head (show Tryd.prog.globalNamed "passbook/chart.maxBalance" = some 0 by kernel_rfl) (by kernel_rfl) h.tail, dec_of_head (show Tryd.prog.globalNamed "passbook/chart.maxAmount" = some 1 by kernel_rfl) (by kernel_rfl) h⟩
end Go.Proofs.YtlgcbbnnldlooaaDoor
