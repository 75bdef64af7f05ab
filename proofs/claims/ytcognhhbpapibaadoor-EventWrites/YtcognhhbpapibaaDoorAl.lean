/- The document's pack: DocReadBytes; Spare and Kept; rows that are stored into. -/
import Derived.Test.YtcognhhbpapibaaDoorAk
namespace Go.Proofs.YtcognhhbpapibaaDoor
open Go.RowKit
set_option linter.unusedVariables false

theorem OwnB.step {w w' : World} {B : Nat} {v : Value} {cs : List Nat} (h : OwnB w B v cs) (k : Below w.heap.size w w') : OwnB w' B v cs := by
  refine ⟨h.byte, h.own.1, ?_⟩
  rcases h.own.2 with h2 | ⟨g, cap, cur, e, hb, hg, r⟩
  · exact Or.inl h2
  · refine Or.inr ⟨g, cap, cur, e, hb, ?_, r⟩
    rw [k.block g ?_]
    · exact hg
    · rcases Nat.lt_or_ge g w.heap.size with hlt | hge
      · exact hlt
      · rw [Array.getElem?_eq_none hge] at hg; cases hg
/-- an owned row is nil, or lies at its block's head -/
theorem OwnB.head {w : World} {B : Nat} {v : Value} {cs : List Nat} (h : OwnB w B v cs) : (v = .slice none 0 0 ∧ cs = []) ∨ ∃ g cap, v = .slice (some ⟨g, 0, none⟩) cs.length cap ∧ B ≤ g ∧ g < w.heap.size ∧ cs.length ≤ cap ∧ cap ≤ 9223372036854775807 := by
  rcases h.own.2 with ⟨e, h0⟩ | ⟨g, cap, cur, e, hb, hg, hc, hm, r⟩
  · exact Or.inl ⟨e, List.eq_nil_of_length_eq_zero h0⟩
  · refine Or.inr ⟨g, cap, e, hb, ?_, hc, by unfold maxLen at hm; omega⟩
    rcases Nat.lt_or_ge g w.heap.size with hlt | hge
    · exact hlt
    · rw [Array.getElem?_eq_none hge] at hg; cases hg
theorem OwnB.set {w : World} {B g n cap : Nat} {cs : List Nat} (h : OwnB w B (.slice (some ⟨g, 0, none⟩) n cap) cs) (hl : cs.length = n) (j d : Nat) (hd : d < 256) :
    OwnB (w.setCell ⟨g, j, none⟩ (.int .u8 (d : Int))) B (.slice (some ⟨g, 0, none⟩) n cap) (cs.set j d) := by
  subst hl
  have := (World.ownsRow.stored h.own j (.int .u8 (d : Int))).1
  refine ⟨fun x hx => ?_, ?_⟩
  · rcases List.mem_or_eq_of_mem_set hx with hx | rfl
    · exact h.byte x hx
    · exact hd
  · rw [List.length_set]
    have e : cl (cs.set j d) = (cl cs).set j (.int .u8 (d : Int)) := by simp [cl, List.map_set]
    rw [e]
    exact this
theorem OwnB.free {w : World} {B g n cap : Nat} {cs : List Nat} (h : OwnB w B (.slice (some ⟨g, 0, none⟩) n cap) cs) (j : Nat) : w.frozen? ⟨g, j, none⟩ = false := by
  rcases h.own.2 with ⟨e, h0⟩ | ⟨g', cap', cur, e, hb, hg, r⟩
  · simp at e
  · simp only [Value.slice.injEq, Option.some.injEq, Addr.mk.injEq, and_true] at e
    obtain ⟨rfl, -, rfl⟩ := e
    simp [World.frozen?, hg]
theorem OwnB.cell {w : World} {B g n cap : Nat} {cs : List Nat} (h : OwnB w B (.slice (some ⟨g, 0, none⟩) n cap) cs) (hl : cs.length = n) (j : Nat) (hj : j < n) : w.cell? ⟨g, j, none⟩ = some (.int .u8 (bt cs j)) := by
  subst hl
  rw [h.own.cellAt j (by omega), cl_get cs j hj]
/-- the three bytes behind -/
def mark : List Nat := [165, 90, 165]
theorem head3 {w : World} {B : Nat} {v : Value} {bs : List Nat} (h : OwnB w B v (bs ++ mark)) : ∃ g cap, v = .slice (some ⟨g, 0, none⟩) (bs.length + 3) cap ∧ bs.length + 3 ≤ cap ∧ cap ≤ 9223372036854775807 := by
  rcases h.head with ⟨_, e⟩ | ⟨g, cap, e, h1, h2, h3, h4⟩
  · simp [mark] at e
  · have hl : (bs ++ mark).length = bs.length + 3 := by simp [mark]
    rw [hl] at e h3
    exact ⟨g, cap, e, h3, h4⟩
set_option maxRecDepth 100000 in
theorem spare_ok (v : Value) (bs : List Nat) (w : World) (h : Bs w v bs) (hl : bs.length + 3 ≤ 140737488355328) :
    Calls Tryd.prog 18 #[v] w fun e w' => (∃ g cap, e = .returned (.tuple #[.slice (some ⟨g, 0, none⟩) bs.length cap, .slice (some ⟨g, 0, none⟩) (bs.length + 3) cap]) ∧ OwnB w' w.heap.size (.slice (some ⟨g, 0, none⟩) (bs.length + 3) cap) (bs ++ mark)) ∧ Below w.heap.size w w' := by
  have hb := (Below.refl w.heap.size w).alloc (Nat.le_refl _) (.cells #[] 5)
  have H := (show Hid _ from h.step hb)
  have HO := (show Hid _ from own_made w)
  have HB := (show Hid _ from hb)
  obtain ⟨hby, a, c, rfl, hlc, hc9, hno, hx⟩ := h
  clear hb hby hno hx
  obtain ⟨L, hL⟩ : ∃ L, L = bs.length := ⟨_, rfl⟩
  have HL : Hid (L = bs.length) := hL
  rw [← hL] at hl hlc H ⊢
  clear hL
  go_enter Tryd.func18, Tryd.ntmps18
  go_wp2_with (first
    | (at_builtin; refine appB rfl _ _ rfl w.heap.size [] bs _ _ (by rfl) (by rfl) HO.out H.out (by simp) (by have := HL.out; simp; omega) ?_; intro v' w1 ho hb1; rw [List.nil_append] at ho; have HO1 := (show Hid _ from ho); have HB1 := (show Hid _ from HB.out.trans hb1); clear ho hb1 HO H HB)
    | (at_builtin; refine appB rfl _ _ rfl w.heap.size bs mark _ _ (by rfl) (by rfl) (HO1.out.alloc _) (bs_new w1 mark (fun x hx => by simp [mark] at hx; omega) 3 rfl (by omega) 5) (by have := HB1.out.size; simp; omega) (by have := HL.out; simp [mark]; omega) ?_; intro v2 w2 ho hb2; obtain ⟨g, cap, rfl, hg3, hg4⟩ := head3 ho; rw [← HL.out] at ho hg3 ⊢; have HO2 := (show Hid _ from ho); have HB2 := (show Hid _ from (HB1.out.alloc HB1.out.size _).trans hb2); clear ho hb2 HO1 HB1))
  refine bodyPost_ret (v := .tuple #[.slice (some ⟨g, 0, none⟩) L cap, .slice (some ⟨g, 0, none⟩) (L + 3) cap]) (by simp [results, Tryd.results18, go_sem]) rfl ?_
  exact ⟨⟨g, cap, rfl, HO2.out⟩, HB2.out⟩
theorem bt_mark (bs : List Nat) (j : Nat) (hj : j < 3) : bt (bs ++ mark) (bs.length + j) = ((mark.getD j 0 : Nat) : Int) := by
  unfold bt
  simp [List.getD, List.getElem?_append_right (show bs.length ≤ bs.length + j by omega)]
theorem kept_ok (v u : Value) (bs : List Nat) (w : World) (h : Bs w v (bs ++ mark)) (hu : Bs w u bs) :
    Calls Tryd.prog 20 #[v, u] w fun e w' => e = .returned (.bool true) ∧ Below w.heap.size w w' := by
  have H := (show Hid _ from h)
  have HU := (show Hid _ from hu)
  obtain ⟨hby, a, c, rfl, hlc, hc9, hno, hx⟩ := h
  obtain ⟨hby2, a2, c2, rfl, hlc2, hc92, hno2, hx2⟩ := hu
  clear hby hno hby2 hno2 hx2
  have hl3 : (bs ++ mark).length = bs.length + 3 := by simp [mark]
  obtain ⟨b, off, rfl, hb, hcell⟩ := hx (by omega)
  rw [hl3] at hlc H hcell ⊢
  have m0 := (hcell (bs.length + 0) (by omega)).trans (by rw [bt_mark bs 0 (by omega)])
  have m1 := (hcell (bs.length + 1) (by omega)).trans (by rw [bt_mark bs 1 (by omega)])
  have m2 := (hcell (bs.length + 2) (by omega)).trans (by rw [bt_mark bs 2 (by omega)])
  clear hcell hx hl3
  have C := (show Hid _ from H.out.cut bs.length (by simp))
  rw [List.take_left] at C
  obtain ⟨L, hL⟩ : ∃ L, L = bs.length := ⟨_, rfl⟩
  rw [← hL] at hlc hlc2 C HU m0 m1 m2 ⊢
  simp only [mark, List.getD_cons_zero, List.getD_cons_succ, Nat.add_zero] at m0 m1 m2
  have i1 : L ≤ c := by omega
  have i2 : (0 : Int) ≤ (L : Int) := by omega
  clear hL H
  go_enter Tryd.func20, Tryd.ntmps20
  go_wp2_with fail
  refine (same_ok _ _ bs bs _ C.out HU.out).mono ?_
  rintro e w1 ⟨rfl, hb1⟩
  rw [show decide (bs = bs) = true by simp]
  have n0 := (hb1.cell (p := ⟨b, off + L, none⟩) hb).trans m0
  have n1 := (hb1.cell (p := ⟨b, off + (L + 1), none⟩) hb).trans m1
  have n2 := (hb1.cell (p := ⟨b, off + (L + 2), none⟩) hb).trans m2
  have G := (show Hid _ from hb1)
  clear hb1 m0 m1 m2 C HU
  go_wp2_with fail
  go_ret
  exact ⟨rfl, G.out⟩
end Go.Proofs.YtcognhhbpapibaaDoor
