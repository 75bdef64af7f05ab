/- prod: slices.Backward over the order's keys. -/
import Derived.Test.YtgbphbeafomabaaGi
import Derived.RangeFuncNested
import Derived.RangeFuncBound
import Derived.RangeFuncCalls
import Derived.RangeFuncLeaves
import Derived.Shelf.Abstract
import Derived.Shelf.RegionOpen
import Derived.OwnWalkIn
import Derived.TacticsInMore
import Derived.LoopNIn
import Derived.LoopIn
namespace Go.Proofs.Ytgbphbeafomabaa
open Go.RowKit Go.Shelf
set_option linter.unusedVariables false
attribute [local go_sem] Oper.semAt_some

/-- what has come when k rounds are over -/
def upto {α : Type} (f : Nat → α) (k : Nat) : List α := (List.range k).map f
theorem upto_succ {α : Type} (f : Nat → α) (k : Nat) : upto f (k + 1) = upto f k ++ [f k] := by simp [upto, List.range_succ]
theorem upto_length {α : Type} (f : Nat → α) (k : Nat) : (upto f k).length = k := by simp [upto]
/-- the j-th from the back -/
def bk (ks : List (Int × Int)) (j : Nat) : Int × (Int × Int) := ((ks.length : Int) - 1 - j, ks.getD (ks.length - 1 - j) (0, 0))
/-- what comes: a place, and a key that is one -/
abbrev KE := { x : Int × (Int × Int) // I64 x.2.1 ∧ I64 x.2.2 }
def encK (x : KE) : Array Value := #[.int .i64 x.1.1, .agg #[.int .i64 x.1.2.1, .int .i64 x.1.2.2]]
/-- the keys of a list are such -/
def KW (ks : List (Int × Int)) : Prop := ∀ k ∈ ks, I64 k.1 ∧ I64 k.2
theorem KW.at {ks : List (Int × Int)} (h : KW ks) (j : Nat) : I64 (ks.getD j (0, 0)).1 ∧ I64 (ks.getD j (0, 0)).2 := by
  by_cases hj : j < ks.length
  · exact h _ (by simp [hj])
  · rw [List.getD, List.getElem?_eq_none (Nat.le_of_not_lt hj)]
    unfold I64
    simp
def bkS (ks : List (Int × Int)) (h : KW ks) (j : Nat) : KE := ⟨bk ks j, h.at _⟩
set_option maxRecDepth 100000 in
set_option maxHeartbeats 2000000 in
theorem back1_in (F : Fence) (n : Nat) (h8 : F.fn 37) (hro : F.round = none) (hn : 1 ≤ n) (l Bs n₀ cap len : Nat) (sa : Option Addr) (ks : List (Int × Int)) (hwf : KW ks) (hlen : len = ks.length) (hl : len ≤ 64) (J Jx : List KE → World → Prop)
    (hY : ∀ pre x W, J pre W → pre.length < len → YieldAt F (n - 1) Try.prog l (encK x) W fun e W' =>
      (e = .returned (.bool true) ∧ J (pre ++ [x]) W' ∧ Below n₀ W W') ∨ (e = .returned (.bool false) ∧ Jx (pre ++ [x]) W'))
    (W : World) (hBs : W.cell? ⟨Bs, 0, none⟩ = some (.slice sa len cap)) (hBl : Bs < n₀) (hcap : len ≤ cap ∧ cap ≤ 9223372036854775807) (hc : 0 < len → ∃ b off, sa = some ⟨b, off, none⟩ ∧ b < n₀ ∧ ∀ j, j < len → W.cell? ⟨b, off + j * 2, none⟩ = some (.int .i64 (ks.getD j (0, 0)).1) ∧ W.cell? ⟨b, off + j * 2 + 1, none⟩ = some (.int .i64 (ks.getD j (0, 0)).2)) (h0 : J [] W) :
    CallsIn F n Try.prog 37 #[.func (.yield l) #[] #[], .pointer (some ⟨Bs, 0, none⟩)] W fun e W' => (∃ v, e = .returned v) ∧
      ((∃ ys, ys = upto (bkS ks hwf) len ∧ J ys W') ∨ (∃ pre, (∃ k, k ≤ len ∧ pre = upto (bkS ks hwf) k) ∧ Jx pre W')) := by
  have HC := (show Hid _ from hc)
  have HLEN := (show Hid _ from hlen)
  clear hc hlen
  refine callsIn_of_wp Try.func37 rfl h8 ?_ hro
  simp only [Try.ntmps37, List.size_toArray, List.length_cons, List.length_nil, Nat.reduceAdd, Nat.reduceSub, Array.replicate_succ, Array.replicate_zero, List.push_toArray, List.append_toArray, List.nil_append, List.cons_append]
  gi_wp2
  gi_loopw [3] (fun i wr => ∃ k : Nat, k ≤ len ∧ i = .int .i64 ((len : Int) - 1 - k) ∧ Hid (J (upto (bkS ks hwf) k) wr) ∧ Hid (Below n₀ W wr))
    (fun i _ => (intOf i + 1).toNat)
  case atStart => exact ⟨0, Nat.zero_le _, by simp, h0, Below.refl _ _⟩
  case round =>
    obtain ⟨k, hk, rfl, hJs, hnx⟩ := hrel
    by_cases hlt : k < len
    · obtain ⟨m, hm⟩ : ∃ m, len = m + 1 + k := ⟨len - 1 - k, by omega⟩
      have em : (len : Int) - 1 - k = (m : Int) := by omega
      rw [em]
      have eb : (bkS ks hwf k).1 = ((m : Int), ks.getD m (0, 0)) := by
        show bk ks k = _
        unfold bk
        rw [← HLEN.out, em, show len - 1 - k = m by omega]
      obtain ⟨fn, tmps, assign, body, hy, hR⟩ := hY _ (bkS ks hwf k) wr hJs.out (by rw [upto_length]; exact hlt)
      have HR := (show Hid _ from hR)
      have HE := (show Hid _ from eb)
      have HEM := (show Hid _ from em)
      have HM := (show Hid _ from hm)
      unfold encK at hy
      rw [eb] at hy
      obtain ⟨b, off, rfl, hb, hcs⟩ := HC.out (by omega)
      have z1 := (hnx.out.cell (p := ⟨b, off + m * 2, none⟩) hb).trans (hcs m (by omega)).1
      have z2 := (hnx.out.cell (p := ⟨b, off + m * 2 + 1, none⟩) hb).trans (hcs m (by omega)).2
      have y1 := (hnx.out.cell (p := ⟨Bs, 0, none⟩) hBl).trans hBs
      have d1 : (0 : Int) ≤ (m : Int) := by omega
      have d2 : (m : Int) < (len : Int) := by omega
      clear hR eb em hm hcs
      generalize ks.getD m (0, 0) = key at *
      obtain ⟨kid, kday⟩ := key
      dsimp only at hy
      gi_wp2
      refine RoundIn.mono HR.out ?_
      rintro e W3 (⟨rfl, hJ3, hk3⟩ | ⟨rfl, hJx3⟩)
      · have HJ3 := (show Hid _ from hJ3)
        have HK3 := (show Hid _ from hk3)
        clear hJ3 hk3
        gi_wp2
        go_roundw
        case rel => exact ⟨k + 1, by omega, by have := HEM.out; have e : (m : Int) - 1 = (len : Int) - 1 - ((k + 1 : Nat) : Int) := by omega
                                               rw [← e], by show J _ _; rw [upto_succ]; exact HJ3.out, hnx.out.trans HK3.out⟩
        case measure => simp [intOf]
      · have HJ3 := (show Hid _ from hJx3)
        clear hJx3
        gi_wp2
        refine bodyPost_ret (results_none rfl _ _ _) rfl ?_
        exact ⟨⟨_, rfl⟩, .inr ⟨_, ⟨k + 1, by omega, (upto_succ _ _).symm⟩, HJ3.out⟩⟩
    · obtain rfl : k = len := by omega
      rw [show (k : Int) - 1 - k = -1 by omega]
      gi_wp2
      go_end0
      exact ⟨⟨_, rfl⟩, .inl ⟨_, rfl, hJs.out⟩⟩
theorem back_in (F : Fence) (n : Nat) (h5 : F.fn 34) (hro : F.round = none) (a : Option Addr) (len cap : Nat) (w : World) :
    CallsIn F n Try.prog 34 #[.slice a len cap] w fun e w' => e = .returned (.func (.func 37) #[] #[.pointer (some ⟨w.heap.size, 0, none⟩)]) ∧ w' = w.alloc (.cells #[.slice a len cap] 63) := by
  refine callsIn_of_wp Try.func34 rfl h5 ?_ hro
  simp only [Try.ntmps34, List.size_toArray, List.length_cons, List.length_nil, Nat.reduceAdd, Nat.reduceSub, Array.replicate_succ, Array.replicate_zero, List.push_toArray, List.append_toArray, List.nil_append, List.cons_append]
  gi_wp2
  go_ret
  exact ⟨rfl, rfl⟩
theorem back_stops (F : Fence) (n : Nat) (h7 : F.fn 37) (hro : F.round = none) (hn : 1 ≤ n) (Bs n₀ cap len : Nat) (sa : Option Addr) (ks : List (Int × Int)) (hwf : KW ks) (hlen : len = ks.length) (hl : len ≤ 64) (w : World) (hBs : Bs < n₀) (hn₀ : n₀ ≤ w.heap.size)
    (hc : w.cell? ⟨Bs, 0, none⟩ = some (.slice sa len cap)) (hcap : len ≤ cap ∧ cap ≤ 9223372036854775807) (hI : 0 < len → ∃ b off, sa = some ⟨b, off, none⟩ ∧ b < n₀ ∧ ∀ j, j < len → w.cell? ⟨b, off + j * 2, none⟩ = some (.int .i64 (ks.getD j (0, 0)).1) ∧ w.cell? ⟨b, off + j * 2 + 1, none⟩ = some (.int .i64 (ks.getD j (0, 0)).2)) :
    SeqStopsK F n Try.prog 37 #[.pointer (some ⟨Bs, 0, none⟩)] encK (Below n₀) (fun ys => ys = upto (bkS ks hwf) len) (fun pre => ∃ k, k ≤ len ∧ pre = upto (bkS ks hwf) k) len w := fun l J Jx W hW _ _ hY h0 => by
  have hc' := (hW.cell (p := ⟨Bs, 0, none⟩) (by show Bs < _; omega)).trans hc
  refine back1_in F n h7 hro hn l Bs n₀ cap len sa ks hwf hlen hl J Jx hY W hc' hBs hcap (fun h => ?_) h0
  obtain ⟨b, off, e, hb, hx⟩ := hI h
  exact ⟨b, off, e, hb, fun j hj => ⟨(hW.cell (p := ⟨b, off + j * 2, none⟩) (by show b < _; omega)).trans (hx j hj).1, (hW.cell (p := ⟨b, off + j * 2 + 1, none⟩) (by show b < _; omega)).trans (hx j hj).2⟩⟩
end Go.Proofs.Ytgbphbeafomabaa
