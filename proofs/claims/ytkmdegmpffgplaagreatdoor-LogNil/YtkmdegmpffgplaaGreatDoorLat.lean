/- Slices of bytes: the contracts of Twin and SameBytes, of Clone and mayEnd. -/
import Derived.Test.YtkmdegmpffgplaaGreatDoorLae
import Derived.BigQuiet
import Derived.Deep.QuietTactic
import Derived.Test.YtkmdegmpffgplaaGreatDoorLas
namespace Go.Proofs.YtkmdegmpffgplaaGreatDoor.pk
open Go.RowKit
set_option linter.unusedVariables false

theorem bel_drewN {B : Nat} {a w : World} (h : Below B a w) (n : Nat) : Below B a (w.drewN n) := ⟨h.os, h.tape, h.output, h.size, h.block⟩
theorem twin_ok (v : Value) (bs : List Nat) (w : World) (h : Bs w v bs) (hl : bs.length ≤ 140737488355328) :
    Calls Tryz.prog 10 #[v] w fun e w' => (∃ u, e = .returned u ∧ OwnB w' w.heap.size u bs) ∧ Below w.heap.size w w' := by
  have hb := (Below.refl w.heap.size w).alloc (Nat.le_refl _) (.cells #[] 5)
  have H := (show Hid _ from h.step hb)
  have HO := (show Hid _ from own_made w)
  have HB := (show Hid _ from hb)
  clear h hb
  go_enter Tryz.func10, Tryz.ntmps10
  go_wp2_with (at_builtin; refine appB rfl _ _ rfl w.heap.size [] bs _ _ (by rfl) (by rfl) HO.out H.out (by simp) (by simpa using hl) ?_; intro v' w1 ho hb1)
  have HO1 := (show Hid _ from ho)
  have HB1 := (show Hid _ from hb1)
  clear ho hb1
  go_wp2_with fail
  go_ret
  exact ⟨⟨_, rfl, by simpa using HO1.out⟩, HB.out.trans HB1.out⟩
theorem take_same {xs ys : List Nat} {k : Nat} (h1 : k < xs.length) (h2 : k < ys.length) (h : xs.take k = ys.take k) (e : xs.getD k 0 = ys.getD k 0) : xs.take (k + 1) = ys.take (k + 1) := by
  rw [List.take_add_one, List.take_add_one, h, List.getElem?_eq_getElem h1, List.getElem?_eq_getElem h2]
  simp [List.getD, h1, h2] at e
  rw [e]
set_option maxHeartbeats 1000000 in
theorem same_ok (v u : Value) (xs ys : List Nat) (w : World) (h : Bs w v xs) (h2 : Bs w u ys) :
    Calls Tryz.prog 23 #[v, u] w fun e w' => e = .returned (.bool (decide (xs = ys))) ∧ Below w.heap.size w w' := by
  obtain ⟨hby, a, c, rfl, hlc, hc9, hno, hx⟩ := h
  obtain ⟨hby2, a2, c2, rfl, hlc2, hc92, hno2, hx2⟩ := h2
  have HX := (show Hid _ from hx)
  have HX2 := (show Hid _ from hx2)
  have HY := (show Hid _ from hby)
  have HY2 := (show Hid _ from hby2)
  clear hx hx2 hby hby2 hno hno2
  by_cases hl : xs.length = ys.length
  · have HL : Hid (xs.length = ys.length) := hl
    rw [← hl] at hlc2 ⊢
    obtain ⟨n, hn⟩ : ∃ n, n = xs.length := ⟨_, rfl⟩
    have HN : Hid (n = xs.length) := hn
    rw [← hn] at hlc hlc2 ⊢
    clear hn hl
    go_enter Tryz.func23, Tryz.ntmps23
    go_wp2_with fail
    go_loopw [13] (fun i wr => ∃ k : Nat, k ≤ n ∧ i = .int .i64 k ∧ Below w.heap.size w wr ∧ Hid (xs.take k = ys.take k)) (fun i _ => n - (intOf i).toNat)
    case atStart => exact ⟨0, by omega, rfl, Below.refl _ _, by show xs.take 0 = ys.take 0; simp⟩
    case round =>
      obtain ⟨k, hk, rfl, hbel, hsame⟩ := hrel
      by_cases h0 : k = n
      · subst h0
        go_wp2_with fail
        go_ret
        have : xs = ys := by
          have h1 := hsame.out
          rw [List.take_of_length_le (by have := HN.out; omega), List.take_of_length_le (by have := HN.out; have := HL.out; omega)] at h1
          exact h1
        exact ⟨by simp [this], hbel⟩
      · have hkn : k < n := by omega
        have k1 : k < xs.length := by have := HN.out; omega
        have k2 : k < ys.length := by have := HN.out; have := HL.out; omega
        obtain ⟨b, off, rfl, hb, hc⟩ := HX.out (by omega)
        obtain ⟨b2, off2, rfl, hb2, hc2⟩ := HX2.out (by omega)
        have hcell := (hbel.cell (p := ⟨b, off + k, none⟩) hb).trans (hc k k1)
        have hcell2 := (hbel.cell (p := ⟨b2, off2 + k, none⟩) hb2).trans (hc2 k k2)
        have K1 := (show Hid _ from k1)
        have K2 := (show Hid _ from k2)
        clear hc HX hc2 HX2 k1 k2
        have b1' := bt_bd HY.out k
        have b2' := bt_bd HY2.out k
        by_cases heq : bt xs k = bt ys k
        · have hs' : Hid (xs.take (k + 1) = ys.take (k + 1)) := take_same K1.out K2.out hsame.out (by unfold bt at heq; omega)
          have t1 : (bt xs k == bt ys k) = true := by simp [heq]
          have HQ : Hid (bt xs k = bt ys k) := heq
          clear heq
          go_wp2_with fail
          go_quiet (fail)
          have hbel := bel_drewN hbel nq
          generalize wr.drewN nq = wq at *
          clear hcell hcell2
          go_wp2_with fail
          exact ⟨⟨k + 1, by omega, by go_num, hbel, hs'⟩, by simp [intOf]; omega⟩
        · have t1 : (bt xs k == bt ys k) = false := by simp [heq]
          have HQ : Hid (xs ≠ ys) := fun e => heq (by rw [e])
          clear heq
          go_wp2_with fail
          go_quiet (fail)
          have hbel := bel_drewN hbel nq
          generalize wr.drewN nq = wq at *
          clear hcell hcell2
          go_wp2_with fail
          go_ret
          exact ⟨by simp [HQ.out], hbel⟩
  · have HQ : Hid (xs ≠ ys) := fun e => hl (by rw [e])
    have hl' : ((xs.length : Int) == (ys.length : Int)) = false := by rw [beq_eq_false_iff_ne]; omega
    generalize xs.length = n at *
    generalize ys.length = m at *
    go_enter Tryz.func23, Tryz.ntmps23
    go_wp2_with fail
    go_ret
    exact ⟨by simp [HQ.out], Below.refl _ _⟩
/-- may b be the last byte, at this place? -/
def may (b i : Int) : Prop := if i = 9 then b = 1 else (b ≠ 0 ∨ i = 0)
instance (b i : Int) : Decidable (may b i) := by unfold may; exact inferInstance
end Go.Proofs.YtkmdegmpffgplaaGreatDoor.pk
/- disk XXIX: what a few calls leave; the walk of DiskTruncated. -/
namespace Go.Proofs.YtkmdegmpffgplaaGreatDoor
open Go.RowKit Go.Maps Go.Sort Go.Shelf pk
set_option linter.unusedVariables false

theorem fitA_of {room : Nat} {fs : FS} {l : List UInt8} {k : Nat} (h1 : (lk fs l).isSome = true ∨ fs.length ≠ 64) (h2 : k + totA fs ≤ room) : fitA room fs l k = true := by
  unfold fitA
  have h3 : decide (k ≤ room - totA fs) = true := by simp; omega
  rw [h3, Bool.and_true]
  unfold lk at h1
  rcases h1 with h1 | h1
  · cases hh : fs.find? (fun t => t.1 == l) with
    | none => rw [hh] at h1; cases h1
    | some t => rfl
  · simp [h1]
theorem apnd_ok {x : AD} {l : List UInt8} {bs : List Nat} (h1 : isNm l = true) (h2 : fitA x.room x.fs l (cnt bs.length) = true) (h3 : x.on = true) : apnd x l bs = (if (begA x).on then 0 else 18, { begA x with fs := apd x.fs l (parts bs) }) := by
  unfold apnd; rw [if_neg (by rw [h1]; simp), if_neg (by rw [h2]; simp), if_neg (by rw [h3]; simp)]
theorem cut_min (w : World) (n k z : Nat) (hn : n ≤ 9223372036854775807) (hz : z = min n k) : (Builtin.min_ #[3, 3] 3 #[.int .i64 (n : Int), .int .i64 (k : Int)]).run Tryz.prog w = .ok (.int .i64 (z : Int)) w := by
  rw [run_min_int2]
  congr 2
  split <;> omega
theorem seen_on {x : AD} {l : List UInt8} {t : List UInt8 × List (List Nat) × Nat} (h1 : isNm l = true) (h2 : lk x.fs l = some t) (h3 : x.on = true) : seen x l = (0, t.2.1) := by
  unfold seen; rw [if_neg (by rw [h1]; simp), h2]; simp [h3]
theorem parts_len (bs : List Nat) : (parts bs).length = cnt bs.length := by simp [parts]
theorem flat_take (ss : List (List Nat)) (n : Nat) : flat (ss.take n) = (flat ss).take (32 * n) := by
  induction ss generalizing n with
  | nil => simp [flat]
  | cons s ss ih =>
    cases n with
    | zero => simp [flat]
    | succ n =>
      show pad32 s ++ flat (ss.take n) = (pad32 s ++ flat ss).take (32 * (n + 1))
      rw [ih, List.take_append, List.take_of_length_le (l := pad32 s) (by rw [pad32_len]; omega), pad32_len, show 32 * (n + 1) - 32 = 32 * n by omega]
end Go.Proofs.YtkmdegmpffgplaaGreatDoor
