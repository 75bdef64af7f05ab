/- digits: texts in plain numbers; Write of every decimal in form. -/
import Derived.Test.YtgcmbiahakampaaJq
import Derived.Test.YtgcmbiahakampaaJc
namespace Go.Proofs.Ytgcmbiahakampaa
open Go.RowKit
set_option linter.unusedVariables false
set_option linter.unusedSimpArgs false

def tx (L : List Nat) : ByteArray := strOfNums (L.map Int.ofNat)
theorem tx_size (L : List Nat) : (tx L).size = L.length := by unfold tx; rw [strOfNums_size]; simp
theorem bt_tx {L : List Nat} (hL : ∀ x ∈ L, x < 256) (i : Nat) : bt (tx L) i = L.getD i 256 := by
  by_cases h : i < L.length
  · have h2 : i < (tx L).size := by rw [tx_size]; exact h
    rw [bt_in h2]
    have hx := hL L[i] (List.getElem_mem h)
    have : (tx L)[i] = UInt8.ofNat L[i] := by
      show ((L.map Int.ofNat).map fun n => UInt8.ofNat n.toNat).toArray[i]'_ = _
      simp
    rw [this, UInt8.toNat_ofNat']
    simp [List.getD, h]
    omega
  · have h2 : ¬ i < (tx L).size := by rw [tx_size]; exact h
    unfold bt
    rw [dif_neg h2]
    simp [List.getD, h]
theorem places_up (s N : Nat) : ∀ m, N / 10 ^ (s + 1 + m) = 0 → ∃ K, s < K ∧ K ≤ s + 1 + m ∧ N / 10 ^ K = 0 ∧ ∀ j, j < K → j ≤ s ∨ N / 10 ^ j ≠ 0
  | 0, h => ⟨s + 1, by omega, by omega, h, fun j hj => Or.inl (by omega)⟩
  | m + 1, h => by
    by_cases h2 : N / 10 ^ (s + 1 + m) = 0
    · obtain ⟨K, a, b, c, d⟩ := places_up s N m h2
      exact ⟨K, a, by omega, c, d⟩
    · refine ⟨s + 1 + (m + 1), by omega, by omega, h, fun j hj => Or.inr fun e => h2 ?_⟩
      have : 10 ^ (s + 1 + m) = 10 ^ j * 10 ^ (s + 1 + m - j) := by rw [← Nat.pow_add]; congr 1; omega
      rw [this, ← Nat.div_div_eq_div_mul, e]
      simp
theorem places_any (s N : Nat) (hs : s ≤ 18) (hN : N < B127) : ∃ K, Places s N K := by
  obtain ⟨K, a, b, c, d⟩ := places_up s N (38 - s) (by
    rw [show s + 1 + (38 - s) = 39 by omega]
    exact Nat.div_eq_of_lt (Nat.lt_trans hN (by decide)))
  exact ⟨K, a, by omega, c, d⟩
/-- the letters of a decimal -/
def wtx (c : Int) (s K : Nat) : List Nat := if c < 0 then 45 :: wrt s c.natAbs K else wrt s c.natAbs K
theorem dwrite_any (c : Int) (s : Nat) (hc : InR c) (hs : s ≤ 18) : ∃ K, Places s c.natAbs K ∧ ∀ w, Calls Try.prog 9 #[.agg (dcs c s).toArray] w fun e w' => e = .returned (.tuple #[.string (tx (wtx c s K)), .int .i64 0]) ∧ Below w.heap.size w w' := by
  have h1 := hc.lo
  have h2 := hc.hi
  rw [M127_eq] at h1 h2
  obtain ⟨K, hK⟩ := places_any s c.natAbs hs (by unfold B127; omega)
  refine ⟨K, hK, fun w => ?_⟩
  have e : c.natAbs / 18446744073709551616 * 18446744073709551616 + c.natAbs % 18446744073709551616 = c.natAbs := by omega
  by_cases h0 : c < 0
  · have := dwrite_neg c _ _ (c.natAbs % 18446744073709551616) (c.natAbs / 18446744073709551616) s K w (IsD.self c) hc (by omega) h0 (by unfold dhi; omega) (by unfold dlo; omega) (by omega) (by omega) (by rw [e]; exact hK)
    rw [e] at this
    unfold wtx tx
    rw [if_pos h0]
    exact this
  · have := dwrite_pos c (dhi c) (dlo c) (c.natAbs % 18446744073709551616) (c.natAbs / 18446744073709551616) s K w (IsD.self c) hc (by omega) (by omega) (by unfold dhi; omega) (by unfold dlo; omega) (by omega) (by omega) (by rw [e]; exact hK)
    rw [e] at this
    unfold wtx tx
    rw [if_neg h0]
    exact this
theorem wlo (s N : Nat) : ∀ k, k ≤ s → ∀ m, m < k → (wrt s N k).getD m 256 = 48 + N / 10 ^ (k - 1 - m) % 10
  | 0, _, m, h => absurd h (by omega)
  | k + 1, hk, m, h => by
    have hn : ¬ (k = s ∧ 0 < k) := by omega
    rw [wrt, if_neg hn]
    match m, h with
    | 0, _ => simp
    | m + 1, h =>
      rw [List.getD_cons_succ, wlo s N k (by omega) m (by omega)]
      congr 4
      omega
theorem whi (s N : Nat) : ∀ n, 1 ≤ n → ∀ m, m < n → (wrt s N (s + n)).getD m 256 = 48 + N / 10 ^ (s + n - 1 - m) % 10
  | 0, h, _, _ => absurd h (by omega)
  | n + 1, _, m, h => by
    rw [show s + (n + 1) = (s + n) + 1 by omega, wrt]
    match m, h with
    | 0, _ => simp
    | m + 1, h =>
      have hn : ¬ (s + n = s ∧ 0 < s + n) := by omega
      rw [if_neg hn, List.getD_cons_succ, whi s N n (by omega) m (by omega)]
      congr 4
      omega
theorem wpt (s N : Nat) (hs : 0 < s) : ∀ n, 1 ≤ n → (wrt s N (s + n)).getD n 256 = 46
  | 0, h => absurd h (by omega)
  | 1, _ => by rw [wrt, if_pos ⟨rfl, hs⟩]; simp
  | n + 2, _ => by
    rw [show s + (n + 2) = (s + (n + 1)) + 1 by omega, wrt, if_neg (by omega), List.getD_cons_succ]
    exact wpt s N hs (n + 1) (by omega)
theorem wbk (s N : Nat) (hs : 0 < s) (k : Nat) (hk : k < s) : ∀ n, 1 ≤ n → (wrt s N (s + n)).getD (n + 1 + k) 256 = 48 + N / 10 ^ (s - 1 - k) % 10
  | 0, h => absurd h (by omega)
  | 1, _ => by
    rw [wrt, if_pos ⟨rfl, hs⟩, show 1 + 1 + k = (k + 1) + 1 by omega, List.getD_cons_succ, List.getD_cons_succ]
    exact wlo s N s (Nat.le_refl _) k hk
  | n + 2, _ => by
    rw [show s + (n + 2) = (s + (n + 1)) + 1 by omega, wrt, if_neg (by omega), show n + 2 + 1 + k = (n + 1 + 1 + k) + 1 by omega, List.getD_cons_succ]
    exact wbk s N hs k hk (n + 1) (by omega)
theorem wln (s N : Nat) : ∀ n, 1 ≤ n → (wrt s N (s + n)).length = n + (if s = 0 then 0 else 1 + s)
  | 0, h => absurd h (by omega)
  | 1, _ => by
    rw [wrt]
    by_cases hs : s = 0
    · subst hs; simp [wrt]
    · rw [if_pos ⟨rfl, by omega⟩]
      simp [hs, wrt_lo s N s (Nat.le_refl _)]
      omega
  | n + 2, _ => by
    rw [show s + (n + 2) = (s + (n + 1)) + 1 by omega, wrt, if_neg (by omega), List.length_cons, wln s N (n + 1) (by omega)]
    omega
theorem wsm (s N : Nat) : ∀ k, ∀ x ∈ wrt s N k, x < 256
  | 0, x, h => by simp [wrt] at h
  | k + 1, x, h => by
    rw [wrt] at h
    have hd : 48 + N / 10 ^ k % 10 < 256 := by have := Nat.mod_lt (N / 10 ^ k) (show 10 > 0 by decide); omega
    split at h
    · simp at h
      rcases h with rfl | rfl | h
      · exact hd
      · decide
      · exact wsm s N k x h
    · simp at h
      rcases h with rfl | h
      · exact hd
      · exact wsm s N k x h
/-- the text of a decimal: h digits in front, sc behind -/
structure Txt (t : ByteArray) (neg : Bool) (i h sc N : Nat) : Prop where
  mi : (neg = true ∧ i = 1 ∧ bt t 0 = 45) ∨ (neg = false ∧ i = 0)
  sz : t.size = i + h + (if sc = 0 then 0 else 1 + sc)
  hp : 1 ≤ h
  fr : ∀ k, k < h → bt t (i + k) = 48 + N / 10 ^ (sc + h - 1 - k) % 10
  pt : 0 < sc → bt t (i + h) = 46
  bk : ∀ k, k < sc → bt t (i + h + 1 + k) = 48 + N / 10 ^ (sc - 1 - k) % 10
  top : N / 10 ^ (sc + h) = 0
  ld : h = 1 ∨ N / 10 ^ (sc + h - 1) ≠ 0
  big : N < B127
  s18 : sc ≤ 18
  s41 : t.size ≤ 41
  nz : neg = true → N ≠ 0
theorem txt_any (c : Int) (s K : Nat) (hc : InR c) (hs : s ≤ 18) (hK : Places s c.natAbs K) : Txt (tx (wtx c s K)) (decide (c < 0)) (if c < 0 then 1 else 0) (K - s) s c.natAbs := by
  have h1 := hc.lo
  have h2 := hc.hi
  rw [M127_eq] at h1 h2
  obtain ⟨n, rfl⟩ : ∃ n, K = s + n := ⟨K - s, by have := hK.lo; omega⟩
  have hn : 1 ≤ n := by have := hK.lo; omega
  have e1 : s + n - s = n := by omega
  rw [e1]
  have hln := wln s c.natAbs n hn
  have hK39 := hK.hi
  have hbig : c.natAbs < B127 := by unfold B127; omega
  have htop := hK.done
  have hld : n = 1 ∨ c.natAbs / 10 ^ (s + n - 1) ≠ 0 := by
    rcases hK.more (s + n - 1) (by omega) with h | h
    · left; omega
    · right; exact h
  have hsm := wsm s c.natAbs (s + n)
  by_cases h0 : c < 0
  · have hw : wtx c s (s + n) = 45 :: wrt s c.natAbs (s + n) := by unfold wtx; rw [if_pos h0]
    have hall : ∀ x ∈ wtx c s (s + n), x < 256 := by rw [hw]; intro x hx; simp at hx; rcases hx with rfl | hx; decide; exact hsm x hx
    have hb : ∀ k, bt (tx (wtx c s (s + n))) (1 + k) = (wrt s c.natAbs (s + n)).getD k 256 := fun k => by rw [bt_tx hall, hw, Nat.add_comm 1 k, List.getD_cons_succ]
    rw [if_pos h0]
    refine ⟨Or.inl ⟨by simp [h0], rfl, by rw [bt_tx hall, hw]; rfl⟩, ?_, hn, fun k hk => ?_, fun hp => ?_, fun k hk => ?_, htop, hld, hbig, hs, ?_, fun _ => by omega⟩
    · rw [tx_size, hw, List.length_cons, hln]; omega
    · rw [hb]; exact whi s _ n hn k hk
    · rw [hb]; exact wpt s _ hp n hn
    · rw [show 1 + n + 1 + k = 1 + (n + 1 + k) by omega, hb]; exact wbk s _ (by omega) k hk n hn
    · rw [tx_size, hw, List.length_cons, hln]; split <;> omega
  · have hw : wtx c s (s + n) = wrt s c.natAbs (s + n) := by unfold wtx; rw [if_neg h0]
    have hall : ∀ x ∈ wtx c s (s + n), x < 256 := by rw [hw]; exact hsm
    have hb : ∀ k, bt (tx (wtx c s (s + n))) (0 + k) = (wrt s c.natAbs (s + n)).getD k 256 := fun k => by rw [bt_tx hall, hw, Nat.zero_add]
    rw [if_neg h0]
    refine ⟨Or.inr ⟨by simp [h0], rfl⟩, ?_, hn, fun k hk => ?_, fun hp => ?_, fun k hk => ?_, htop, hld, hbig, hs, ?_, fun h => by simp at h; omega⟩
    · rw [tx_size, hw, hln]; omega
    · rw [hb]; exact whi s _ n hn k hk
    · rw [hb]; exact wpt s _ hp n hn
    · rw [show 0 + n + 1 + k = 0 + (n + 1 + k) by omega, hb]; exact wbk s _ (by omega) k hk n hn
    · rw [tx_size, hw, hln]; split <;> omega
end Go.Proofs.Ytgcmbiahakampaa
