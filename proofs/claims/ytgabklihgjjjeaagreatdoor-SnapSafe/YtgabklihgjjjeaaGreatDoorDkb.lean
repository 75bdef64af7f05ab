/- disk II: slices.Chunk over bytes, by 32 at a time. -/
import Derived.Test.YtgabklihgjjjeaaGreatDoorDka
import Derived.Test.YtgabklihgjjjeaaGreatDoorAb
namespace Go.Proofs.YtgabklihgjjjeaaGreatDoor
open Go.RowKit Go.Shelf pk
set_option linter.unusedVariables false
attribute [local go_sem] Oper.semAt_some

/-- how many parts there are -/
def cnt (len : Nat) : Nat := (len + 31) / 32
/-- the x-th part, as it is handed out -/
def encC (b off len : Nat) (x : Nat) : Array Value := #[.slice (some ⟨b, off + 32 * x, none⟩) (min 32 (len - 32 * x)) (min 32 (len - 32 * x))]
/-- what a round must keep -/
def KpC (B1 B2 : Nat) (A A' : World) : Prop := A'.cell? ⟨B1, 0, none⟩ = A.cell? ⟨B1, 0, none⟩ ∧ A'.cell? ⟨B2, 0, none⟩ = A.cell? ⟨B2, 0, none⟩
theorem KpC.trans {B1 B2 : Nat} {A B C : World} (h : KpC B1 B2 A B) (k : KpC B1 B2 B C) : KpC B1 B2 A C := ⟨k.1.trans h.1, k.2.trans h.2⟩
set_option maxRecDepth 100000 in
set_option maxHeartbeats 2000000 in
theorem chunk1_in (n : Nat) (hn : 1 ≤ n) (l B1 B2 b off len cap : Nat) (sa : Option Addr) (hsa : 0 < len → sa = some ⟨b, off, none⟩) (hcap : len ≤ cap ∧ cap ≤ 9223372036854775807 ∧ len ≤ 140737488355328) (J Jx : List Nat → World → Prop)
    (hY : ∀ pre x W, J pre W → pre.length < cnt len → YieldAt Fence.wide (n - 1) Tryz.prog l (encC b off len x) W fun e W' =>
      (e = .returned (.bool true) ∧ J (pre ++ [x]) W' ∧ KpC B1 B2 W W') ∨ (e = .returned (.bool false) ∧ Jx (pre ++ [x]) W'))
    (W : World) (hb1 : W.cell? ⟨B1, 0, none⟩ = some (.slice sa len cap)) (hb2 : W.cell? ⟨B2, 0, none⟩ = some (.int .i64 32)) (h0 : J [] W) (hJ : AbidesFrom W.heap.size J) :
    CallsIn Fence.wide n Tryz.prog 87 #[.func (.yield l) #[] #[], .pointer (some ⟨B1, 0, none⟩), .pointer (some ⟨B2, 0, none⟩)] W fun e W' => (∃ v, e = .returned v) ∧
      ((∃ ys, ys = List.range (cnt len) ∧ J ys W') ∨ (∃ pre, True ∧ Jx pre W')) := by
  refine callsIn_of_wp Tryz.func87 rfl trivial ?_ rfl
  simp only [Tryz.ntmps87, List.size_toArray, List.length_cons, List.length_nil, Nat.reduceAdd, Nat.reduceSub, Array.replicate_succ, Array.replicate_zero, List.push_toArray, List.append_toArray, List.nil_append, List.cons_append]
  gi_wp2
  gi_loopw [4] (fun i wr => ∃ k : Nat, k ≤ cnt len ∧ i = .int .i64 ((32 * k : Nat) : Int) ∧ Hid (J (List.range k) wr) ∧ wr.cell? ⟨B1, 0, none⟩ = some (.slice sa len cap) ∧ wr.cell? ⟨B2, 0, none⟩ = some (.int .i64 32))
    (fun i _ => (len + 32 - intOf i).toNat)
  case atStart => exact ⟨0, Nat.zero_le _, by simp, h0, hb1, hb2⟩
  case round =>
    obtain ⟨k, hk, rfl, hJs, y1, y2⟩ := hrel
    by_cases hlt : 32 * k < len
    · have hkc : k < cnt len := by unfold cnt; omega
      obtain rfl := hsa (by omega)
      obtain ⟨i, hi⟩ : ∃ i, i = 32 * k := ⟨_, rfl⟩
      have HI : Hid (i = 32 * k) := hi
      rw [← hi] at hlt ⊢
      clear hi
      have d1 : (i : Int) < (len : Int) := by omega
      have d2 : (0 : Int) ≤ (i : Int) := by omega
      gi_wp2
      refine wpIn_wide.2 ?_
      go_region
      obtain ⟨m, hm⟩ : ∃ m, m = min 32 (len - i) := ⟨_, rfl⟩
      rw [show (if ((len - i : Nat) : Int) < 32 then ((len - i : Nat) : Int) else 32) = (m : Int) by split <;> omega]
      have hJd : J (List.range k) wr.drew := hJ _ _ _ none hJs.out ⟨rfl, rfl, rfl, Nat.le_refl _, fun _ _ _ => rfl⟩ (fun r e => by cases e)
      obtain ⟨fn, tmps, assign, body, hy, hR⟩ := hY _ k wr.drew hJd (by rw [List.length_range]; exact hkc)
      have HR := (show Hid _ from hR)
      unfold encC at hy
      rw [← HI.out, ← hm] at hy
      have z1 : wr.drew.cell? ⟨B1, 0, none⟩ = some (.slice (some ⟨b, off, none⟩) len cap) := y1
      have z2 : wr.drew.cell? ⟨B2, 0, none⟩ = some (.int .i64 32) := y2
      have d3 : (i : Int) + (m : Int) ≤ (len : Int) := by omega
      have d4 : (i : Int) + (m : Int) ≤ (cap : Int) := by omega
      have d5 : (0 : Int) < (m : Int) := by omega
      have d6 : 0 < m := by omega
      have HM : Hid (m = min 32 (len - i)) := hm
      clear hR hm hJd
      gi_wp2
      refine RoundIn.mono HR.out ?_
      rintro e W3 (⟨rfl, hJ3, hk3⟩ | ⟨rfl, hJx3⟩)
      · have HJ3 := (show Hid _ from hJ3)
        have x1 := hk3.1.trans z1
        have x2 := hk3.2.trans z2
        clear hJ3 hk3
        have d7 : (i : Int) + 32 ≤ 140737488355328 + 64 := by omega
        gi_wp2
        go_roundw
        case rel => exact ⟨k + 1, by omega, by have := HI.out; rw [this]; congr 1, by show J _ _; rw [List.range_succ]; exact HJ3.out, x1, x2⟩
        case measure => simp [intOf]; omega
      · have HJ3 := (show Hid _ from hJx3)
        clear hJx3
        gi_wp2
        refine bodyPost_ret (results_none rfl _ _ _) rfl ?_
        exact ⟨⟨_, rfl⟩, .inr ⟨_, trivial, HJ3.out⟩⟩
    · have hke : k = cnt len := by unfold cnt at hk ⊢; omega
      subst hke
      gi_wp2
      go_end0
      exact ⟨⟨_, rfl⟩, .inl ⟨_, rfl, hJs.out⟩⟩
theorem chunk_in (n : Nat) (a : Option Addr) (len cap : Nat) (w : World) :
    CallsIn Fence.wide n Tryz.prog 65 #[.slice a len cap, .int .i64 32] w fun e w' => e = .returned (.func (.func 87) #[] #[.pointer (some ⟨w.heap.size, 0, none⟩), .pointer (some ⟨w.heap.size + 1, 0, none⟩)]) ∧ w' = (w.alloc (.cells #[.slice a len cap] 22)).alloc (.cells #[.int .i64 32] 3) := by
  refine callsIn_wide.2 ?_
  go_enter Tryz.func65, Tryz.ntmps65
  go_wp2
  go_ret
  exact ⟨rfl, rfl⟩
theorem chunk_stops (n : Nat) (hn : 1 ≤ n) (B1 B2 b off len cap : Nat) (sa : Option Addr) (hsa : 0 < len → sa = some ⟨b, off, none⟩) (hcap : len ≤ cap ∧ cap ≤ 9223372036854775807 ∧ len ≤ 140737488355328) (w : World) (hb1 : w.cell? ⟨B1, 0, none⟩ = some (.slice sa len cap)) (hb2 : w.cell? ⟨B2, 0, none⟩ = some (.int .i64 32)) :
    SeqStopsK Fence.wide n Tryz.prog 87 #[.pointer (some ⟨B1, 0, none⟩), .pointer (some ⟨B2, 0, none⟩)] (encC b off len) (KpC B1 B2) (fun ys => ys = List.range (cnt len)) (fun _ => True) (cnt len) w := fun l J Jx W hW hJ _ hY h0 =>
  chunk1_in n hn l B1 B2 b off len cap sa hsa hcap J Jx hY W ((hW.cell (p := ⟨B1, 0, none⟩) (World.block_lt_of_cell? w _ hb1)).trans hb1) ((hW.cell (p := ⟨B2, 0, none⟩) (World.block_lt_of_cell? w _ hb2)).trans hb2) h0 hJ
end Go.Proofs.YtgabklihgjjjeaaGreatDoor
