/- sum: SameBytes, Spare and Kept (as in the texts of pack). -/
import Derived.Test.YtbgmepepcdpkfaaDoorRd
namespace Go.Proofs.YtbgmepepcdpkfaaDoor
open Go.RowKit
set_option linter.unusedVariables false

theorem bs_new (w : World) (bs : List Nat) (hby : By bs) (n : Nat) (hl : bs.length = n) (hn : n ≤ 1000) (T : TypeId) :
    Bs (w.alloc (.cells (cl bs).toArray T)) (.slice (some ⟨w.heap.size, 0, none⟩) n n) bs := by
  subst hl
  refine ⟨hby, _, _, rfl, Nat.le_refl _, by omega, fun h => (by cases h), fun h0 => ⟨w.heap.size, 0, rfl, by simp, fun k hk => ?_⟩⟩
  rw [Nat.zero_add]
  have h1 := cl_get bs k hk
  simp [go_sem, h1]
theorem take_same {xs ys : List Nat} {k : Nat} (h1 : k < xs.length) (h2 : k < ys.length) (h : xs.take k = ys.take k) (e : xs.getD k 0 = ys.getD k 0) : xs.take (k + 1) = ys.take (k + 1) := by
  rw [List.take_add_one, List.take_add_one, h, List.getElem?_eq_getElem h1, List.getElem?_eq_getElem h2]
  simp [List.getD, h1, h2] at e
  rw [e]
set_option maxHeartbeats 1000000 in
theorem same_ok (v u : Value) (xs ys : List Nat) (w : World) (h : Bs w v xs) (h2 : Bs w u ys) :
    Calls Tryd.prog 25 #[v, u] w fun e w' => e = .returned (.bool (decide (xs = ys))) ∧ Below w.heap.size w w' := by
  obtain ⟨hby, a, c, rfl, hlc, hc9, hno, hx⟩ := h
  obtain ⟨hby2, a2, c2, rfl, hlc2, hc92, hno2, hx2⟩ := h2
  have HX := (show Hid _ from hx)
  have HX2 := (show Hid _ from hx2)
  have HY := (show Hid _ from hby)
  have HY2 := (show Hid _ from hby2)
  clear hx hx2 hby hby2 hno hno2
  by_cases hl : xs.length = ys.length
  · have HL : Hid (xs.length = ys.length) := hl
    rw [← hl] at hlc2 ⊢
    obtain ⟨n, hn⟩ : ∃ n, n = xs.length := ⟨_, rfl⟩
    have HN : Hid (n = xs.length) := hn
    rw [← hn] at hlc hlc2 ⊢
    clear hn hl
    go_enter Tryd.func25, Tryd.ntmps25
    go_wp2_with fail
    go_loopw [13] (fun i wr => ∃ k : Nat, k ≤ n ∧ i = .int .i64 k ∧ Below w.heap.size w wr ∧ Hid (xs.take k = ys.take k)) (fun i _ => n - (intOf i).toNat)
    case atStart => exact ⟨0, by omega, rfl, Below.refl _ _, by show xs.take 0 = ys.take 0; simp⟩
    case round =>
      obtain ⟨k, hk, rfl, hbel, hsame⟩ := hrel
      by_cases h0 : k = n
      · subst h0
        go_wp2_with fail
        go_ret
        have : xs = ys := by
          have h1 := hsame.out
          rw [List.take_of_length_le (by have := HN.out; omega), List.take_of_length_le (by have := HN.out; have := HL.out; omega)] at h1
          exact h1
        exact ⟨by simp [this], hbel⟩
      · have hkn : k < n := by omega
        have k1 : k < xs.length := by have := HN.out; omega
        have k2 : k < ys.length := by have := HN.out; have := HL.out; omega
        obtain ⟨b, off, rfl, hb, hc⟩ := HX.out (by omega)
        obtain ⟨b2, off2, rfl, hb2, hc2⟩ := HX2.out (by omega)
        have hcell := (hbel.cell (p := ⟨b, off + k, none⟩) hb).trans (hc k k1)
        have hcell2 := (hbel.cell (p := ⟨b2, off2 + k, none⟩) hb2).trans (hc2 k k2)
        have K1 := (show Hid _ from k1)
        have K2 := (show Hid _ from k2)
        clear hc HX hc2 HX2 k1 k2
        have b1' := bt_bd HY.out k
        have b2' := bt_bd HY2.out k
        by_cases heq : bt xs k = bt ys k
        · have hs' : Hid (xs.take (k + 1) = ys.take (k + 1)) := take_same K1.out K2.out hsame.out (by unfold bt at heq; omega)
          have t1 : (bt xs k == bt ys k) = true := by simp [heq]
          have HQ : Hid (bt xs k = bt ys k) := heq
          clear heq
          go_wp2_with fail
          go_quiet (fail)
          have hbel := bel_drewN hbel nq
          generalize wr.drewN nq = wq at *
          clear hcell hcell2
          go_wp2_with fail
          exact ⟨⟨k + 1, by omega, by go_num, hbel, hs'⟩, by simp [intOf]; omega⟩
        · have t1 : (bt xs k == bt ys k) = false := by simp [heq]
          have HQ : Hid (xs ≠ ys) := fun e => heq (by rw [e])
          clear heq
          go_wp2_with fail
          go_quiet (fail)
          have hbel := bel_drewN hbel nq
          generalize wr.drewN nq = wq at *
          clear hcell hcell2
          go_wp2_with fail
          go_ret
          exact ⟨by simp [HQ.out], hbel⟩
  · have HQ : Hid (xs ≠ ys) := fun e => hl (by rw [e])
    have hl' : ((xs.length : Int) == (ys.length : Int)) = false := by rw [beq_eq_false_iff_ne]; omega
    generalize xs.length = n at *
    generalize ys.length = m at *
    go_enter Tryd.func25, Tryd.ntmps25
    go_wp2_with fail
    go_ret
    exact ⟨by simp [HQ.out], Below.refl _ _⟩
def mark : List Nat := [165, 90, 165]
theorem head3 {w : World} {B : Nat} {v : Value} {bs : List Nat} (h : OwnB w B v (bs ++ mark)) : ∃ g cap, v = .slice (some ⟨g, 0, none⟩) (bs.length + 3) cap ∧ bs.length + 3 ≤ cap ∧ cap ≤ 9223372036854775807 := by
  rcases h.head with ⟨_, e⟩ | ⟨g, cap, e, h1, h2, h3, h4⟩
  · simp [mark] at e
  · have hl : (bs ++ mark).length = bs.length + 3 := by simp [mark]
    rw [hl] at e h3
    exact ⟨g, cap, e, h3, h4⟩
set_option maxRecDepth 100000 in
theorem spare_ok (v : Value) (bs : List Nat) (w : World) (h : Bs w v bs) (hl : bs.length + 3 ≤ 140737488355328) :
    Calls Tryd.prog 8 #[v] w fun e w' => (∃ g cap, e = .returned (.tuple #[.slice (some ⟨g, 0, none⟩) bs.length cap, .slice (some ⟨g, 0, none⟩) (bs.length + 3) cap]) ∧ OwnB w' w.heap.size (.slice (some ⟨g, 0, none⟩) (bs.length + 3) cap) (bs ++ mark)) ∧ Below w.heap.size w w' := by
  have hb := (Below.refl w.heap.size w).alloc (Nat.le_refl _) (.cells #[] 5)
  have H := (show Hid _ from h.step hb)
  have HO := (show Hid _ from own_made w)
  have HB := (show Hid _ from hb)
  obtain ⟨hby, a, c, rfl, hlc, hc9, hno, hx⟩ := h
  clear hb hby hno hx
  obtain ⟨L, hL⟩ : ∃ L, L = bs.length := ⟨_, rfl⟩
  have HL : Hid (L = bs.length) := hL
  rw [← hL] at hl hlc H ⊢
  clear hL
  go_enter Tryd.func8, Tryd.ntmps8
  go_wp2_with (first
    | (at_builtin; refine appB rfl _ _ rfl w.heap.size [] bs _ _ (by rfl) (by rfl) HO.out H.out (by simp) (by have := HL.out; simp; omega) ?_; intro v' w1 ho hb1; rw [List.nil_append] at ho; have HO1 := (show Hid _ from ho); have HB1 := (show Hid _ from HB.out.trans hb1); clear ho hb1 HO H HB)
    | (at_builtin; refine appB rfl _ _ rfl w.heap.size bs mark _ _ (by rfl) (by rfl) (HO1.out.alloc _) (bs_new w1 mark (fun x hx => by simp [mark] at hx; omega) 3 rfl (by omega) 5) (by have := HB1.out.size; simp; omega) (by have := HL.out; simp [mark]; omega) ?_; intro v2 w2 ho hb2; obtain ⟨g, cap, rfl, hg3, hg4⟩ := head3 ho; rw [← HL.out] at ho hg3 ⊢; have HO2 := (show Hid _ from ho); have HB2 := (show Hid _ from (HB1.out.alloc HB1.out.size _).trans hb2); clear ho hb2 HO1 HB1))
  refine bodyPost_ret (v := .tuple #[.slice (some ⟨g, 0, none⟩) L cap, .slice (some ⟨g, 0, none⟩) (L + 3) cap]) (by simp [results, Tryd.results8, go_sem]) rfl ?_
  exact ⟨⟨g, cap, rfl, HO2.out⟩, HB2.out⟩
theorem bt_mark (bs : List Nat) (j : Nat) (hj : j < 3) : bt (bs ++ mark) (bs.length + j) = ((mark.getD j 0 : Nat) : Int) := by
  unfold bt
  simp [List.getD, List.getElem?_append_right (show bs.length ≤ bs.length + j by omega)]
theorem kept_ok (v u : Value) (bs : List Nat) (w : World) (h : Bs w v (bs ++ mark)) (hu : Bs w u bs) :
    Calls Tryd.prog 15 #[v, u] w fun e w' => e = .returned (.bool true) ∧ Below w.heap.size w w' := by
  have H := (show Hid _ from h)
  have HU := (show Hid _ from hu)
  obtain ⟨hby, a, c, rfl, hlc, hc9, hno, hx⟩ := h
  obtain ⟨hby2, a2, c2, rfl, hlc2, hc92, hno2, hx2⟩ := hu
  clear hby hno hby2 hno2 hx2
  have hl3 : (bs ++ mark).length = bs.length + 3 := by simp [mark]
  obtain ⟨b, off, rfl, hb, hcell⟩ := hx (by omega)
  rw [hl3] at hlc H hcell ⊢
  have m0 := (hcell (bs.length + 0) (by omega)).trans (by rw [bt_mark bs 0 (by omega)])
  have m1 := (hcell (bs.length + 1) (by omega)).trans (by rw [bt_mark bs 1 (by omega)])
  have m2 := (hcell (bs.length + 2) (by omega)).trans (by rw [bt_mark bs 2 (by omega)])
  clear hcell hx hl3
  have C := (show Hid _ from H.out.cut bs.length (by simp))
  rw [List.take_left] at C
  obtain ⟨L, hL⟩ : ∃ L, L = bs.length := ⟨_, rfl⟩
  rw [← hL] at hlc hlc2 C HU m0 m1 m2 ⊢
  simp only [mark, List.getD_cons_zero, List.getD_cons_succ, Nat.add_zero] at m0 m1 m2
  have i1 : L ≤ c := by omega
  have i2 : (0 : Int) ≤ (L : Int) := by omega
  clear hL H
  go_enter Tryd.func15, Tryd.ntmps15
  go_wp2_with fail
  refine (same_ok _ _ bs bs _ C.out HU.out).mono ?_
  rintro e w1 ⟨rfl, hb1⟩
  rw [show decide (bs = bs) = true by simp]
  have n0 := (hb1.cell (p := ⟨b, off + L, none⟩) hb).trans m0
  have n1 := (hb1.cell (p := ⟨b, off + (L + 1), none⟩) hb).trans m1
  have n2 := (hb1.cell (p := ⟨b, off + (L + 2), none⟩) hb).trans m2
  have G := (show Hid _ from hb1)
  clear hb1 m0 m1 m2 C HU
  go_wp2_with fail
  go_ret
  exact ⟨rfl, G.out⟩
end Go.Proofs.YtbgmepepcdpkfaaDoor
