/- event: an event that comes in by value, opened: as Er, and how many tiers it may have. -/
import Derived.Test.YtcognhhbpapibaaDoorEr
namespace Go.Proofs.YtcognhhbpapibaaDoor
open Go.ChangeShapes Go.WideShapes Go.ChangeAt Go.RowKit
set_option linter.unusedVariables false

/-- a list of tiers -/
theorem came_tiers2 {H : Type} {enc : TypeId × Value → H} {W : World} {fuel : Nat} {cs : List Value} {x : DataW H × List MemPlace} (h : DataW.trod enc Tryd.prog W 0 (fun _ => true) true fuel 24 cs = some x) :
    ∃ v ts, cs = [v] ∧ Tr W v ts ∧ (∀ n c, v = .slice none n c → c = 0) ∧ ((x.1 = .nil ∧ ts = []) ∨ ∃ el sp, x.1 = .slice el sp ∧ el.length = ts.length) := by
  rcases DataW.trod_slice Tryd.underlying24 h with ⟨hcs, hx⟩ | ⟨a', len, cap, elems, rest, n, _, hcs, hxx, _, hl, hm, hlen, hel, _, _⟩
  · exact ⟨_, [], hcs, ⟨fun t ht => by simp at ht, none, 0, rfl, by simp, by omega, fun h => by simp at h⟩, (fun n c e => by cases e; rfl), Or.inl ⟨by rw [hx], rfl⟩⟩
  · have each : ∀ i, ∃ p : Int × Int, i < len → W.cell? (a'.add (i * 2)) = some (.int .i64 p.1) ∧ W.cell? ((a'.add (i * 2)).add 1) = some (.int .i64 p.2) ∧ ((-9223372036854775808 ≤ p.1 ∧ p.1 ≤ 9223372036854775807) ∧ -9223372036854775808 ≤ p.2 ∧ p.2 ≤ 9223372036854775807) := by
      intro i
      by_cases hi : i < len
      · have h1 := hel i hi
        rw [List.getElem?_eq_getElem (by omega), ecellsR, Option.bind_eq_some_iff] at h1
        obtain ⟨cs', hcs', ht⟩ := h1
        obtain ⟨f, r, rfl, w⟩ := came_tier ht
        obtain ⟨_, _, hc⟩ := World.cells?_some hcs'
        have z0 := hc 0 (by omega)
        have z1 := hc 1 (by omega)
        refine ⟨(f, r), fun _ => ⟨?_, ?_, w⟩⟩
        · simpa [Addr.add] using z0
        · simpa using z1
      · exact ⟨(0, 0), fun h => absurd h hi⟩
    obtain ⟨f, hf⟩ := Classical.skolem.1 each
    have hl2 : ((List.range len).map f).length = len := by simp
    refine ⟨_, (List.range len).map f, hcs, ⟨fun t ht => ?_, some a', cap, by rw [hl2], by omega, by unfold maxLen at hm; omega, fun h0 => ?_⟩, (fun n c e => by cases e), Or.inr ⟨_, _, by rw [hxx], by rw [hl2, List.length_map]; exact hlen⟩⟩
    · obtain ⟨i, hi, rfl⟩ := List.mem_map.1 ht
      exact (hf i (List.mem_range.1 hi)).2.2
    rw [hl2] at h0 ⊢
    obtain ⟨b, off, spot⟩ := a'
    have hspot : spot = none := by simpa [Addr.add] using World.cell?_spot (hf 0 (by omega)).1
    subst hspot
    have hc : ∀ k, k < len → W.cell? ⟨b, off + 2 * k, none⟩ = some (.int .i64 (f k).1) ∧ W.cell? ⟨b, off + 2 * k + 1, none⟩ = some (.int .i64 (f k).2) := fun k hk => by
      have h1 := hf k hk
      rw [add_plain, add_plain, Nat.mul_comm k 2] at h1
      exact ⟨h1.1, h1.2.1⟩
    refine ⟨b, off, rfl, lt_cell (hc 0 (by omega)).1, fun k hk => ?_⟩
    have e : ((List.range len).map f).getD k (0, 0) = f k := by simp [List.getD, hk]
    rw [e]
    exact hc k hk
theorem came_ev2 {H : Type} {enc : TypeId × Value → H} {W : World} {r : Reach} {b0 : Nat} {v : Value} {d : DataW H} {p : List MemPlace} (hv : Value.okWide Tryd.prog W r b0 26 v) (h : DataW.Trod enc Tryd.prog W 0 (fun _ => true) true 26 v d p) :
    ∃ (x : E8) (tv : Value), v = .agg (x.cells tv).toArray ∧ x.ok ∧ Tr W tv x.ts ∧ (∀ n c, tv = .slice none n c → c = 0) ∧ ∀ R : Nat, (∀ n ∈ DataW.weights Tryd.prog 26 d, n ≤ R) → x.ts.length * 16 ≤ R := by
  obtain ⟨cs, rfl, hsz⟩ := okWide_struct Tryd.underlying26 hv
  rw [ecells] at hsz
  obtain ⟨l⟩ := cs
  replace hsz : l.length = 11 := by simpa using hsz
  obtain ⟨fuel, hf0⟩ := h
  obtain ⟨xs, n, _, hdd, hl, hlen, hf⟩ := DataW.trod_struct Tryd.underlying26 hf0
  clear hf0
  match l, hsz with
  | [c0, c1, n0, n1, n2, n3, n4, n5, n6, n7, c10], _ =>
    match xs, hlen with
    | [y0, y1, y2, y3], _ =>
      have h0 : DataW.trod enc Tryd.prog W 0 (fun _ => true) true n 5 (([c0, c1, n0, n1, n2, n3, n4, n5, n6, n7, c10].drop 0).take (Tryd.prog.cellsOf 5)) = some y0 := hf 0 _ rfl
      have h1 : DataW.trod enc Tryd.prog W 0 (fun _ => true) true n 22 (([c0, c1, n0, n1, n2, n3, n4, n5, n6, n7, c10].drop 1).take (Tryd.prog.cellsOf 22)) = some y1 := hf 1 _ rfl
      have h2 : DataW.trod enc Tryd.prog W 0 (fun _ => true) true n 23 (([c0, c1, n0, n1, n2, n3, n4, n5, n6, n7, c10].drop 2).take (Tryd.prog.cellsOf 23)) = some y2 := hf 2 _ rfl
      have h3 : DataW.trod enc Tryd.prog W 0 (fun _ => true) true n 24 (([c0, c1, n0, n1, n2, n3, n4, n5, n6, n7, c10].drop 10).take (Tryd.prog.cellsOf 24)) = some y3 := hf 3 _ rfl
      rw [ecells8] at h0
      rw [ecellsU] at h1
      rw [ecellsN] at h2
      rw [ecellsT] at h3
      obtain ⟨op, e0, _, w0⟩ := DataW.trod_int Tryd.underlying5 h0
      obtain ⟨key, e1, _, w1⟩ := DataW.trod_int Tryd.underlying22 h1
      obtain ⟨zs, m, _, _, _, hzl, hz⟩ := DataW.trod_array Tryd.underlying23 h2
      obtain ⟨tv, ts, e3, hT, hno, hwt⟩ := came_tiers2 h3
      simp at e0 e1 e3
      subst e0 e1 e3
      match zs, hzl with
      | [z0, z1, z2, z3, z4, z5, z6, z7], _ =>
        have g0 := hz 0 (by omega)
        have g1 := hz 1 (by omega)
        have g2 := hz 2 (by omega)
        have g3 := hz 3 (by omega)
        have g4 := hz 4 (by omega)
        have g5 := hz 5 (by omega)
        have g6 := hz 6 (by omega)
        have g7 := hz 7 (by omega)
        rw [ecellsI] at g0 g1 g2 g3 g4 g5 g6 g7
        obtain ⟨m0, i0, _, u0⟩ := DataW.trod_int Tryd.underlying2 g0
        obtain ⟨m1, i1, _, u1⟩ := DataW.trod_int Tryd.underlying2 g1
        obtain ⟨m2, i2, _, u2⟩ := DataW.trod_int Tryd.underlying2 g2
        obtain ⟨m3, i3, _, u3⟩ := DataW.trod_int Tryd.underlying2 g3
        obtain ⟨m4, i4, _, u4⟩ := DataW.trod_int Tryd.underlying2 g4
        obtain ⟨m5, i5, _, u5⟩ := DataW.trod_int Tryd.underlying2 g5
        obtain ⟨m6, i6, _, u6⟩ := DataW.trod_int Tryd.underlying2 g6
        obtain ⟨m7, i7, _, u7⟩ := DataW.trod_int Tryd.underlying2 g7
        simp at i0 i1 i2 i3 i4 i5 i6 i7
        subst i0 i1 i2 i3 i4 i5 i6 i7
        have o0 : 0 ≤ op ∧ op ≤ 255 := by simpa [Lit.wf, IntKind.min, IntKind.max, IntKind.signed, IntKind.bits] using w0
        have k0 : 0 ≤ key ∧ key ≤ 18446744073709551615 := by simpa [Lit.wf, IntKind.min, IntKind.max, IntKind.signed, IntKind.bits] using w1
        refine ⟨⟨op.toNat, key.toNat, [m0, m1, m2, m3, m4, m5, m6, m7], ts⟩, c10, ?_, ⟨by show op.toNat ≤ 255; omega, by show key.toNat ≤ 18446744073709551615; omega, rfl, fun n hn => ?_⟩, hT, hno, fun R hR => ?_⟩
        · have a0 : ((op.toNat : Nat) : Int) = op := by omega
          have a1 : ((key.toNat : Nat) : Int) = key := by omega
          simp [E8.cells, a0, a1]
        · have hn' : n = m0 ∨ n = m1 ∨ n = m2 ∨ n = m3 ∨ n = m4 ∨ n = m5 ∨ n = m6 ∨ n = m7 := by simpa using hn
          rcases hn' with rfl | rfl | rfl | rfl | rfl | rfl | rfl | rfl
          · exact bd_i64 u0
          · exact bd_i64 u1
          · exact bd_i64 u2
          · exact bd_i64 u3
          · exact bd_i64 u4
          · exact bd_i64 u5
          · exact bd_i64 u6
          · exact bd_i64 u7
        · rcases hwt with ⟨_, rfl⟩ | ⟨el, sp, e5, e6⟩
          · simp
          · simp only [Prod.mk.injEq] at hdd
            have h9 := hR ((el.length + sp.length) * Tryd.prog.bytesOf 44) (by
              rw [hdd.1]
              simp [DataW.weights, Tryd.underlying26, DataW.weightsEach, e5, Tryd.underlying24])
            rw [show Tryd.prog.bytesOf 44 = 16 by kernel_rfl] at h9
            rw [← e6]
            omega
end Go.Proofs.YtcognhhbpapibaaDoor
