/- money: the walk of MoneyNothingLost. -/
import Derived.Test.YtbgglghapjfdeaaDoorSsn
import Derived.Test.YtbgglghapjfdeaaDoorM1
namespace Go.Proofs.YtbgglghapjfdeaaDoor
open Go.RowKit
set_option linter.unusedVariables false

theorem gots_neg {m : Int} (h : m < 0) (t : Nat) (W g : Nat → Nat) (n i : Nat) : gots m t W g n i = -(got m.natAbs t W g n i : Int) := by
  unfold gots ord; rw [if_pos h]; omega
theorem gots_pos {m : Int} (h : ¬ m < 0) {W g : Nat → Nat} {n i : Nat} (ht : 0 < sm W n) (p : Pm (fun x => x) g 0 n) (S : Srt (pr m.natAbs (sm W n) W) g 0 n) (hi : i < n) : gots m (sm W n) W g n i = (got m.natAbs (sm W n) W g n i : Int) := by
  unfold gots ord; rw [if_neg h]
  by_cases h2 : 0 < m
  · rw [if_pos h2]; omega
  · rw [if_neg h2]
    have := got_le ht p S i hi
    omega
theorem U16s.cut {w : World} {a : Option Addr} {n c : Nat} {us : List Nat} (h : U16s w (.slice a n c) us) (k : Nat) (hk : k ≤ n) : U16s w (.slice a k c) (us.take k) := by
  obtain ⟨hw, a', c', e, h1, h2, h3⟩ := h
  injection e with e1 e2 e3
  subst e1 e2 e3
  have hl : (us.take k).length = k := by rw [List.length_take]; omega
  refine ⟨fun z hz => hw z (List.mem_of_mem_take hz), a, c, by rw [hl], by omega, h2, fun h0 => ?_⟩
  obtain ⟨b, off, ea, hb, hx⟩ := h3 (by omega)
  refine ⟨b, off, ea, hb, fun j hj => ?_⟩
  rw [hx j (by omega)]
  rw [hl] at hj
  simp [List.getD, hj]
theorem md_small {x : Nat} (h : x < 18446744073709551616) : Md x := lt_pw (k := 64) h 32 (by decide)
theorem md_mul (a b : Nat) (h1 : a ≤ 10000000000000) (h2 : b ≤ 65535) : a * b < 18446744073709551616 := Nat.lt_of_le_of_lt (Nat.mul_le_mul h1 h2) (by decide)
theorem take_getD (us : List Nat) (k i : Nat) (h : i < k) : (us.take k).getD i 0 = us.getD i 0 := by simp [List.getD, h]
end Go.Proofs.YtbgglghapjfdeaaDoor
