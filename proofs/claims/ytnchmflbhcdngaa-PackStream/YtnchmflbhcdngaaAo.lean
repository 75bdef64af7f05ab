/- For PackStream: lists of numbers and of texts that came in; the stream that they make. -/
import Derived.Test.YtnchmflbhcdngaaAm
import Derived.Deep.DeepCutAuto
namespace Go.Proofs.Ytnchmflbhcdngaa
open Go.RowKit
set_option linter.unusedVariables false

/-- The slice v holds the numbers zs. -/
structure Is (w : World) (v : Value) (zs : List Int) : Prop where
  num : ∀ z ∈ zs, -9223372036854775808 ≤ z ∧ z ≤ 9223372036854775807
  form : ∃ a c, v = .slice a zs.length c ∧ zs.length ≤ c ∧ c ≤ 9223372036854775807 ∧ (0 < zs.length → ∃ b off, a = some ⟨b, off, none⟩ ∧ b < w.heap.size ∧ ∀ k, k < zs.length → w.cell? ⟨b, off + k, none⟩ = some (.int .i64 (zs.getD k 0)))
/-- The slice v holds the texts ts. -/
structure Ts (w : World) (v : Value) (ts : List (List Nat)) : Prop where
  form : ∃ a c, v = .slice a ts.length c ∧ ts.length ≤ c ∧ c ≤ 9223372036854775807 ∧ (0 < ts.length → ∃ b off, a = some ⟨b, off, none⟩ ∧ b < w.heap.size ∧ ∀ k, k < ts.length → ∃ u, w.cell? ⟨b, off + k, none⟩ = some u ∧ Bs w u (ts.getD k []))
/-- a number without its sign's bit read as such -/
def us (z : Int) : Nat := (z % 18446744073709551616).toNat
theorem us_lt (z : Int) : us z < 18446744073709551616 := by unfold us; omega
theorem us_eq (z : Int) : IntKind.u64.wrap z = (us z : Int) := by rw [IntKind.wrap_u64]; unfold us; omega
/-- what stands for place i: the number twice -/
def nitem (zs : List Int) (i : Nat) : List Nat := if i < zs.length then enc (us (zs.getD i 0)) ++ enc (zz (zs.getD i 0)) else []
/-- .. and the text -/
def titem (ts : List (List Nat)) (i : Nat) : List Nat := if i < ts.length then enc ((ts.getD i []).take 300).length ++ (ts.getD i []).take 300 else []
def build (zs : List Int) (ts : List (List Nat)) : Nat → List Nat
  | 0 => []
  | i + 1 => build zs ts i ++ nitem zs i ++ titem ts i
def rest (zs : List Int) (ts : List (List Nat)) : Nat → List Nat
  | 0 => []
  | k + 1 => nitem zs (49 - k) ++ titem ts (49 - k) ++ rest zs ts k
theorem build_rest (zs : List Int) (ts : List (List Nat)) : ∀ k, k ≤ 50 → build zs ts (50 - k) ++ rest zs ts k = build zs ts 50
  | 0, _ => by simp [rest]
  | k + 1, h => by
    rw [← build_rest zs ts k (by omega), show 50 - k = (49 - k) + 1 by omega, show 50 - (k + 1) = 49 - k by omega]
    simp only [rest, build, List.append_assoc]
theorem rest_all (zs : List Int) (ts : List (List Nat)) : rest zs ts 50 = build zs ts 50 := by
  have := build_rest zs ts 50 (by omega)
  simpa [build] using this
theorem rest_at (zs : List Int) (ts : List (List Nat)) (i : Nat) (h : i < 50) : rest zs ts (50 - i) = nitem zs i ++ (titem ts i ++ rest zs ts (50 - (i + 1))) := by
  rw [show 50 - i = (49 - i) + 1 by omega]
  simp only [rest, List.append_assoc]
  rw [show 49 - (49 - i) = i by omega, show 50 - (i + 1) = 49 - i by omega]
theorem nlen {zs : List Int} (h : ∀ z ∈ zs, -9223372036854775808 ≤ z ∧ z ≤ 9223372036854775807) (i : Nat) : (nitem zs i).length ≤ 20 := by
  unfold nitem
  split
  · rename_i hi
    have hz := h (zs.getD i 0) (by simp [hi])
    have h1 := enc_len (us_lt (zs.getD i 0))
    have h2 := enc_len (zz_lt hz.1 hz.2)
    rw [List.length_append]
    omega
  · simp
theorem tlen (ts : List (List Nat)) (i : Nat) : (titem ts i).length ≤ 310 := by
  unfold titem
  split
  · have h0 : ((ts.getD i []).take 300).length ≤ 300 := by rw [List.length_take]; omega
    have h1 := enc_len (n := ((ts.getD i []).take 300).length) (by omega)
    rw [List.length_append]
    omega
  · simp
theorem build_len {zs : List Int} (h : ∀ z ∈ zs, -9223372036854775808 ≤ z ∧ z ≤ 9223372036854775807) (ts : List (List Nat)) : ∀ i, (build zs ts i).length ≤ 330 * i
  | 0 => by simp [build]
  | i + 1 => by
    have h1 := nlen h i
    have h2 := tlen ts i
    have h3 := build_len h ts i
    simp only [build, List.length_append]
    omega
theorem Is.step {w w' : World} {v : Value} {zs : List Int} (h : Is w v zs) (k : Below w.heap.size w w') : Is w' v zs := by
  obtain ⟨hn, a, c, e, h1, h2, h3⟩ := h
  refine ⟨hn, a, c, e, h1, h2, fun h0 => ?_⟩
  obtain ⟨b, off, ea, hb, hx⟩ := h3 h0
  exact ⟨b, off, ea, Nat.lt_of_lt_of_le hb k.size, fun j hj => (k.cell (p := ⟨b, off + j, none⟩) hb).trans (hx j hj)⟩
theorem Ts.step {w w' : World} {v : Value} {ts : List (List Nat)} (h : Ts w v ts) (k : Below w.heap.size w w') : Ts w' v ts := by
  obtain ⟨a, c, e, h1, h2, h3⟩ := h
  refine ⟨a, c, e, h1, h2, fun h0 => ?_⟩
  obtain ⟨b, off, ea, hb, hx⟩ := h3 h0
  refine ⟨b, off, ea, Nat.lt_of_lt_of_le hb k.size, fun j hj => ?_⟩
  obtain ⟨u, hu, hB⟩ := hx j hj
  exact ⟨u, (k.cell (p := ⟨b, off + j, none⟩) hb).trans hu, hB.step k⟩
theorem Is.cut {w : World} {a : Option Addr} {n c : Nat} {zs : List Int} (h : Is w (.slice a n c) zs) (k : Nat) (hk : k ≤ n) : Is w (.slice a k c) (zs.take k) := by
  obtain ⟨hn, a', c', e, h1, h2, h3⟩ := h
  cases e
  have hl : (zs.take k).length = k := by rw [List.length_take]; omega
  refine ⟨fun z hz => hn z (List.mem_of_mem_take hz), a, c, by rw [hl], by omega, h2, fun h0 => ?_⟩
  obtain ⟨b, off, ea, hb, hx⟩ := h3 (by omega)
  refine ⟨b, off, ea, hb, fun j hj => ?_⟩
  rw [hx j (by omega)]
  have : j < k := by omega
  simp [List.getD, List.getElem?_take_of_lt this]
theorem Ts.cut {w : World} {a : Option Addr} {n c : Nat} {ts : List (List Nat)} (h : Ts w (.slice a n c) ts) (k : Nat) (hk : k ≤ n) : Ts w (.slice a k c) (ts.take k) := by
  obtain ⟨a', c', e, h1, h2, h3⟩ := h
  cases e
  have hl : (ts.take k).length = k := by rw [List.length_take]; omega
  refine ⟨a, c, by rw [hl], by omega, h2, fun h0 => ?_⟩
  obtain ⟨b, off, ea, hb, hx⟩ := h3 (by omega)
  refine ⟨b, off, ea, hb, fun j hj => ?_⟩
  have hj2 : j < k := by omega
  have : (ts.take k).getD j [] = ts.getD j [] := by simp [List.getD, List.getElem?_take_of_lt hj2]
  rw [this]
  exact hx j (by omega)
theorem Is.here {w : World} {a : Option Addr} {n c : Nat} {zs : List Int} (h : Is w (.slice a n c) zs) (i : Nat) (hi : i < n) : ∃ b off, a = some ⟨b, off, none⟩ ∧ b < w.heap.size ∧ w.cell? ⟨b, off + i, none⟩ = some (.int .i64 (zs.getD i 0)) ∧ -9223372036854775808 ≤ zs.getD i 0 ∧ zs.getD i 0 ≤ 9223372036854775807 := by
  obtain ⟨hn, a', c', e, h1, h2, h3⟩ := h
  cases e
  obtain ⟨b, off, ea, hb, hx⟩ := h3 (by omega)
  exact ⟨b, off, ea, hb, hx i hi, hn _ (by simp [hi])⟩
theorem Ts.here {w : World} {a : Option Addr} {n c : Nat} {ts : List (List Nat)} (h : Ts w (.slice a n c) ts) (i : Nat) (hi : i < n) : ∃ b off u, a = some ⟨b, off, none⟩ ∧ b < w.heap.size ∧ w.cell? ⟨b, off + i, none⟩ = some u ∧ Bs w u (ts.getD i []) := by
  obtain ⟨a', c', e, h1, h2, h3⟩ := h
  cases e
  obtain ⟨b, off, ea, hb, hx⟩ := h3 (by omega)
  obtain ⟨u, hu, hB⟩ := hx i hi
  exact ⟨b, off, u, ea, hb, hu, hB⟩
/-- p[k:], wherever it ends -/
theorem Bs.past {w : World} {a : Option Addr} {L c : Nat} {xs ys : List Nat} {k : Nat} (h : Bs w (.slice a L c) (xs ++ ys)) (hk : xs.length = k) :
    (c = k → Bs w (.slice a (L - k) 0) ys) ∧ (¬ c = k → Bs w (.slice (a.map (fun x => x.add k)) (L - k) (c - k)) ys) := by
  have hL := h.len
  have e : ((xs ++ ys).drop k).take (L - k) = ys := by
    subst hk
    rw [List.drop_left, hL.1, List.length_append, List.take_of_length_le (by omega)]
  constructor
  · intro hc
    have := h.end k (L - k) (by rw [hL.1, List.length_append] at *; omega) hc
    rwa [e] at this
  · intro hc
    have := h.mid k (L - k) (by rw [hL.1, List.length_append] at *; omega) hc
    rwa [e] at this
end Go.Proofs.Ytnchmflbhcdngaa
