/- parts I: slices.Chunk over bytes, by 24 at a time. -/
import Derived.Test.YtgabklihgjjjeaaGreatDoorDkd
namespace Go.Proofs.YtgabklihgjjjeaaGreatDoor
open Go.RowKit Go.Shelf pk
set_option linter.unusedVariables false
attribute [local go_sem] Oper.semAt_some

/-- how many parts there are -/
def cn4 (len : Nat) : Nat := (len + 23) / 24
/-- the x-th part, as it is handed out -/
def enc4 (b off len : Nat) (x : Nat) : Array Value := #[.slice (some ⟨b, off + 24 * x, none⟩) (min 24 (len - 24 * x)) (min 24 (len - 24 * x))]
set_option maxRecDepth 100000 in
set_option maxHeartbeats 2000000 in
theorem chunk1_4 (n : Nat) (hn : 1 ≤ n) (l B1 B2 b off len cap : Nat) (sa : Option Addr) (hsa : 0 < len → sa = some ⟨b, off, none⟩) (hcap : len ≤ cap ∧ cap ≤ 9223372036854775807 ∧ len ≤ 140737488355328) (J Jx : List Nat → World → Prop)
    (hY : ∀ pre x W, J pre W → pre.length < cn4 len → YieldAt Fence.wide (n - 1) Tryz.prog l (enc4 b off len x) W fun e W' =>
      (e = .returned (.bool true) ∧ J (pre ++ [x]) W' ∧ KpC B1 B2 W W') ∨ (e = .returned (.bool false) ∧ Jx (pre ++ [x]) W'))
    (W : World) (hb1 : W.cell? ⟨B1, 0, none⟩ = some (.slice sa len cap)) (hb2 : W.cell? ⟨B2, 0, none⟩ = some (.int .i64 24)) (h0 : J [] W) (hJ : AbidesFrom W.heap.size J) :
    CallsIn Fence.wide n Tryz.prog 87 #[.func (.yield l) #[] #[], .pointer (some ⟨B1, 0, none⟩), .pointer (some ⟨B2, 0, none⟩)] W fun e W' => (∃ v, e = .returned v) ∧
      ((∃ ys, ys = List.range (cn4 len) ∧ J ys W') ∨ (∃ pre, True ∧ Jx pre W')) := by
  refine callsIn_of_wp Tryz.func87 rfl trivial ?_ rfl
  simp only [Tryz.ntmps87, List.size_toArray, List.length_cons, List.length_nil, Nat.reduceAdd, Nat.reduceSub, Array.replicate_succ, Array.replicate_zero, List.push_toArray, List.append_toArray, List.nil_append, List.cons_append]
  gi_wp2
  gi_loopw [4] (fun i wr => ∃ k : Nat, k ≤ cn4 len ∧ i = .int .i64 ((24 * k : Nat) : Int) ∧ Hid (J (List.range k) wr) ∧ wr.cell? ⟨B1, 0, none⟩ = some (.slice sa len cap) ∧ wr.cell? ⟨B2, 0, none⟩ = some (.int .i64 24))
    (fun i _ => (len + 24 - intOf i).toNat)
  case atStart => exact ⟨0, Nat.zero_le _, by simp, h0, hb1, hb2⟩
  case round =>
    obtain ⟨k, hk, rfl, hJs, y1, y2⟩ := hrel
    by_cases hlt : 24 * k < len
    · have hkc : k < cn4 len := by unfold cn4; omega
      obtain rfl := hsa (by omega)
      obtain ⟨i, hi⟩ : ∃ i, i = 24 * k := ⟨_, rfl⟩
      have HI : Hid (i = 24 * k) := hi
      rw [← hi] at hlt ⊢
      clear hi
      have d1 : (i : Int) < (len : Int) := by omega
      have d2 : (0 : Int) ≤ (i : Int) := by omega
      gi_wp2
      refine wpIn_wide.2 ?_
      go_region
      obtain ⟨m, hm⟩ : ∃ m, m = min 24 (len - i) := ⟨_, rfl⟩
      rw [show (if ((len - i : Nat) : Int) < 24 then ((len - i : Nat) : Int) else 24) = (m : Int) by split <;> omega]
      have hJd : J (List.range k) wr.drew := hJ _ _ _ none hJs.out ⟨rfl, rfl, rfl, Nat.le_refl _, fun _ _ _ => rfl⟩ (fun r e => by cases e)
      obtain ⟨fn, tmps, assign, body, hy, hR⟩ := hY _ k wr.drew hJd (by rw [List.length_range]; exact hkc)
      have HR := (show Hid _ from hR)
      unfold enc4 at hy
      rw [← HI.out, ← hm] at hy
      have z1 : wr.drew.cell? ⟨B1, 0, none⟩ = some (.slice (some ⟨b, off, none⟩) len cap) := y1
      have z2 : wr.drew.cell? ⟨B2, 0, none⟩ = some (.int .i64 24) := y2
      have d3 : (i : Int) + (m : Int) ≤ (len : Int) := by omega
      have d4 : (i : Int) + (m : Int) ≤ (cap : Int) := by omega
      have d5 : (0 : Int) < (m : Int) := by omega
      have d6 : 0 < m := by omega
      have HM : Hid (m = min 24 (len - i)) := hm
      clear hR hm hJd
      gi_wp2
      refine RoundIn.mono HR.out ?_
      rintro e W3 (⟨rfl, hJ3, hk3⟩ | ⟨rfl, hJx3⟩)
      · have HJ3 := (show Hid _ from hJ3)
        have x1 := hk3.1.trans z1
        have x2 := hk3.2.trans z2
        clear hJ3 hk3
        have d7 : (i : Int) + 24 ≤ 140737488355328 + 64 := by omega
        gi_wp2
        go_roundw
        case rel => exact ⟨k + 1, by omega, by have := HI.out; rw [this]; congr 1, by show J _ _; rw [List.range_succ]; exact HJ3.out, x1, x2⟩
        case measure => simp [intOf]; omega
      · have HJ3 := (show Hid _ from hJx3)
        clear hJx3
        gi_wp2
        refine bodyPost_ret (results_none rfl _ _ _) rfl ?_
        exact ⟨⟨_, rfl⟩, .inr ⟨_, trivial, HJ3.out⟩⟩
    · have hke : k = cn4 len := by unfold cn4 at hk ⊢; omega
      subst hke
      gi_wp2
      go_end0
      exact ⟨⟨_, rfl⟩, .inl ⟨_, rfl, hJs.out⟩⟩
theorem chunk_4 (n : Nat) (a : Option Addr) (len cap : Nat) (w : World) :
    CallsIn Fence.wide n Tryz.prog 65 #[.slice a len cap, .int .i64 24] w fun e w' => e = .returned (.func (.func 87) #[] #[.pointer (some ⟨w.heap.size, 0, none⟩), .pointer (some ⟨w.heap.size + 1, 0, none⟩)]) ∧ w' = (w.alloc (.cells #[.slice a len cap] 22)).alloc (.cells #[.int .i64 24] 3) := by
  refine callsIn_wide.2 ?_
  go_enter Tryz.func65, Tryz.ntmps65
  go_wp2
  go_ret
  exact ⟨rfl, rfl⟩
theorem stops_4 (n : Nat) (hn : 1 ≤ n) (B1 B2 b off len cap : Nat) (sa : Option Addr) (hsa : 0 < len → sa = some ⟨b, off, none⟩) (hcap : len ≤ cap ∧ cap ≤ 9223372036854775807 ∧ len ≤ 140737488355328) (w : World) (hb1 : w.cell? ⟨B1, 0, none⟩ = some (.slice sa len cap)) (hb2 : w.cell? ⟨B2, 0, none⟩ = some (.int .i64 24)) :
    SeqStopsK Fence.wide n Tryz.prog 87 #[.pointer (some ⟨B1, 0, none⟩), .pointer (some ⟨B2, 0, none⟩)] (enc4 b off len) (KpC B1 B2) (fun ys => ys = List.range (cn4 len)) (fun _ => True) (cn4 len) w := fun l J Jx W hW hJ _ hY h0 =>
  chunk1_4 n hn l B1 B2 b off len cap sa hsa hcap J Jx hY W ((hW.cell (p := ⟨B1, 0, none⟩) (World.block_lt_of_cell? w _ hb1)).trans hb1) ((hW.cell (p := ⟨B2, 0, none⟩) (World.block_lt_of_cell? w _ hb2)).trans hb2) h0 hJ
/-- the x-th part -/
def prt4 (bs : List Nat) (x : Nat) : List Nat := (bs.drop (24 * x)).take 24
theorem bs_prt4 {w : World} {b off len cap : Nat} {sa : Option Addr} {bs : List Nat} (h : Bs w (.slice sa len cap) bs) (hsa : 0 < len → sa = some ⟨b, off, none⟩) (x : Nat) : Bs w (.slice (some ⟨b, off + 24 * x, none⟩) (min 24 (len - 24 * x)) (min 24 (len - 24 * x))) (prt4 bs x) := by
  obtain ⟨hby, a, c, e, h1, h2, h3, h4⟩ := h
  cases e
  have hl : (prt4 bs x).length = min 24 (bs.length - 24 * x) := by unfold prt4; simp
  refine ⟨(hby.drop _).take _, some ⟨b, off + 24 * x, none⟩, min 24 (bs.length - 24 * x), by rw [hl], by omega, by omega, fun e => (by cases e), fun h0 => ?_⟩
  obtain ⟨b', off', e', hb, hx⟩ := h4 (by omega)
  rw [hsa (by omega)] at e'
  cases e'
  refine ⟨b, off + 24 * x, rfl, hb, fun k hk => ?_⟩
  rw [Nat.add_assoc, hx (24 * x + k) (by omega), prt4, bt_take _ _ _ (by omega), bt_drop]
end Go.Proofs.YtgabklihgjjjeaaGreatDoor
