/- The document's whole numbers: the contracts of Coef, Order, Dec, At. -/
import Derived.Test.YtegooagmlapngaaUj
namespace Go.Proofs.Ytegooagmlapngaa
open Go.RowKit
set_option linter.unusedVariables false
attribute [local go_sem ↓] Go.wp_at_zero Go.wp_at_succ

/-- a block of three cells, known whole -/
structure V3 (w : World) (p : Nat) (x y z : Value) (T : TypeId) : Prop where
  blk : w.heap[p]? = some (.cells #[x, y, z] T (0, 0))
theorem V3.c0 {w : World} {p : Nat} {x y z : Value} {T : TypeId} (h : V3 w p x y z T) : w.cell? ⟨p, 0, none⟩ = some x := by rw [cell_of_row w p 0 _ _ _ h.blk]; rfl
theorem V3.c1 {w : World} {p : Nat} {x y z : Value} {T : TypeId} (h : V3 w p x y z T) : w.cell? ⟨p, 1, none⟩ = some y := by rw [cell_of_row w p 1 _ _ _ h.blk]; rfl
theorem V3.c2 {w : World} {p : Nat} {x y z : Value} {T : TypeId} (h : V3 w p x y z T) : w.cell? ⟨p, 2, none⟩ = some z := by rw [cell_of_row w p 2 _ _ _ h.blk]; rfl
theorem V3.free {w : World} {p : Nat} {x y z : Value} {T : TypeId} (h : V3 w p x y z T) (o : Nat) : w.frozen? ⟨p, o, none⟩ = false := frozen_of_row w p o _ _ h.blk
theorem V3.lt {w : World} {p : Nat} {x y z : Value} {T : TypeId} (h : V3 w p x y z T) : p < w.heap.size := by
  rcases Nat.lt_or_ge p w.heap.size with hlt | hge
  · exact hlt
  · have := h.blk; rw [Array.getElem?_eq_none hge] at this; cases this
theorem V3.step {w w' : World} {p : Nat} {x y z : Value} {T : TypeId} (h : V3 w p x y z T) (k : Below w.heap.size w w') : V3 w' p x y z T := ⟨by rw [k.block p h.lt]; exact h.blk⟩
theorem v3_new (w : World) (x y z : Value) (T : TypeId) : V3 (w.alloc (.cells #[x, y, z] T)) w.heap.size x y z T := ⟨heap_alloc_new w _⟩
theorem V3.alloc {w : World} {p : Nat} {x y z : Value} {T : TypeId} (h : V3 w p x y z T) (o : Obj) : V3 (w.alloc o) p x y z T := h.step ((Below.refl _ _).alloc (Nat.le_refl _) o)
theorem V3.drew {w : World} {p : Nat} {x y z : Value} {T : TypeId} (h : V3 w p x y z T) : V3 w.drew p x y z T := ⟨h.blk⟩
theorem V3.set0 {w : World} {p : Nat} {x y z : Value} {T : TypeId} (h : V3 w p x y z T) (u : Value) : V3 (w.setCell ⟨p, 0, none⟩ u) p u y z T := ⟨by rw [heap_setCell_same w p 0 _ _ u h.blk]; rfl⟩
theorem V3.set1 {w : World} {p : Nat} {x y z : Value} {T : TypeId} (h : V3 w p x y z T) (u : Value) : V3 (w.setCell ⟨p, 1, none⟩ u) p x u z T := ⟨by rw [heap_setCell_same w p 1 _ _ u h.blk]; rfl⟩
theorem V3.set2 {w : World} {p : Nat} {x y z : Value} {T : TypeId} (h : V3 w p x y z T) (u : Value) : V3 (w.setCell ⟨p, 2, none⟩ u) p x y u T := ⟨by rw [heap_setCell_same w p 2 _ _ u h.blk]; rfl⟩
theorem In.put {w : World} {v : Value} {z : Int} (h : In w v z) {p : Nat} {x y : Value} {T : TypeId} (hp : V2 w p x y T) (hT : T ≠ 22) (c d : Value) : In ((w.setCell ⟨p, 0, none⟩ c).setCell ⟨p, 1, none⟩ d) v z := by
  obtain ⟨m, ⟨s, e, hn⟩, a, b⟩ := h
  exact ⟨m, ⟨s, e, hn.put hp hT c d⟩, a, b⟩
theorem mi_of {z : Int} {k : Nat} (h : z.natAbs < 2 ^ k) (hk : k ≤ 1024) : Mi z := md_of h hk
theorem dhi_mi (c : Int) (ic : InR c) : -9223372036854775808 ≤ dhi c ∧ dhi c ≤ 9223372036854775807 := dhi_bd ic
theorem coef_parts {c : Int} (ic : InR c) {m : Bool} (a : 0 < dhi c → m = false) (b : dhi c < 0 → m = true) : ∃ y : Int, y.natAbs = (dhi c).natAbs * 2 ^ 64 ∧ (0 < y → m = false) ∧ (y < 0 → m = true) ∧ y + dlo c = c ∧ Mi y := by
  refine ⟨dhi c * 18446744073709551616, by rw [Int.natAbs_mul]; rfl, fun h => a (by omega), fun h => b (by omega), by unfold dhi dlo; omega, ?_⟩
  have := dhi_bd ic
  exact mi_of (k := 128) (by rw [Int.natAbs_mul]; show (dhi c).natAbs * 18446744073709551616 < _; omega) (by omega)
theorem lo_mi (c : Int) : Mi (dlo c) := mi_of (k := 64) (by have := dlo_bd c; omega) (by omega)
set_option maxHeartbeats 1000000 in
set_option maxRecDepth 100000 in
theorem coef_ok (c s : Int) (w : World) (ic : InR c) :
    Calls Try.prog 15 #[.agg #[.int .i64 (dhi c), .int .u64 (dlo c), .int .i64 s]] w fun e w' => (∃ r, e = .returned r ∧ In w' r c) ∧ Below w.heap.size w w' := by
  have hh := dhi_bd ic
  have hl := dlo_bd c
  have IC : Hid (InR c) := ic
  clear ic
  go_enter Try.func15, Try.ntmps15
  go_wp2_with fail
  refine (made_in (dhi c) _ hh.1 hh.2).mono ?_
  rintro e w1 ⟨⟨v, rfl, hv⟩, hb⟩
  obtain ⟨m, a, n, k, rfl, hn, ha, hb2⟩ := hv.form
  obtain ⟨y, hy1, hy2, hy3, hy4, hy5⟩ := coef_parts IC.out ha hb2
  have D := ((v3_new w (.int .i64 (dhi c)) (.int .u64 (dlo c)) (.int .i64 s) 24).alloc (.cells #[.bool false, .slice none 0 0] 46)).step hb
  have R := (v2_new (w.alloc (.cells #[.int .i64 (dhi c), .int .u64 (dlo c), .int .i64 s] 24)) (.bool false) (.slice none 0 0) 46).step hb
  rw [size_al] at R
  have hW := bel_over (bel_over hb)
  have hlt := R.lt
  have H := v2_new w1 (.bool m) (.slice a n k) 46
  have D := D.alloc (.cells #[.bool m, .slice a n k] 46)
  have R := R.alloc (.cells #[.bool m, .slice a n k] 46)
  have hn := hn.alloc (.cells #[.bool m, .slice a n k] 46)
  have hW := bel_al hW (.cells #[.bool m, .slice a n k] 46)
  have hle := (bel_over (bel_over hb)).size
  go_wp2_with fail
  clear hv hb ha hb2
  generalize w1.alloc (.cells #[.bool m, .slice a n k] 46) = W at *
  obtain ⟨q, hq⟩ : ∃ q, q = w1.heap.size := ⟨_, rfl⟩
  rw [← hq] at H hle hlt
  rw [← hq]
  clear hq
  obtain ⟨p, hp⟩ : ∃ p, p = w.heap.size := ⟨_, rfl⟩
  have HP : Hid (p = w.heap.size) := hp
  rw [← hp] at D R
  rw [← hp]
  have hle : p ≤ q := by omega
  have hne : p + 1 < q := by omega
  clear hp
  have HY1 := (show Hid _ from hy1)
  have HY2 := (show Hid _ from hy2)
  have HY3 := (show Hid _ from hy3)
  have HY4 := (show Hid _ from hy4)
  clear hy1 hy2 hy3 hy4
  go_region_held3 (fun w' => w'.cell? ⟨p, 1, none⟩ = some (.int .u64 (dlo c)) ∧ w'.cell? ⟨q, 0, none⟩ = some (.bool m) ∧ w'.cell? ⟨q, 1, none⟩ = some (.slice a n k))
    (first | exact ⟨D.c1, H.c0, H.c1⟩ | exact ⟨D.drew.c1, H.drew.c0, H.drew.c1⟩ | exact ⟨D4.c1, H4.c0, H4.c1⟩ | exact ⟨D3.c1, H3.c0, H3.c1⟩ | exact ⟨D2.c1, H2.c0, H2.c1⟩ | exact ⟨(cell_put (by omega)).trans D4.c1, (cell_put (by omega)).trans H4.c0, (cell_put (by omega)).trans H4.c1⟩)
    (first
      | (go_at_call 34; refine (left_ok _ _ 64 _ hn.drew (mi_of (k := 64) (by omega) (by omega)) (by omega)).mono ?_; rintro e w2 ⟨⟨r, rfl, hr⟩, hb⟩; obtain ⟨ra, rn, rc, rfl⟩ := hr.form; have D2 := D.drew.step hb; have H2 := H.drew.step hb; have R2 := R.drew.step hb; have hW2 := hW.trans ((bel_of_drew hb).mono hW.size))
      | (go_at_call 35; refine (word_ok (dlo c) _ hl.1 hl.2).mono ?_; rintro e w3 ⟨⟨r, rfl, hr'⟩, hb'⟩; obtain ⟨ra', rn', rc', rfl⟩ := hr'.form; have D3 := D2.step hb'; have H3 := H2.step hb'; have R3 := R2.step hb'; have hW3 := hW2.trans (hb'.mono hW2.size); have hr3 := hr.step hb')
      | (go_at_call 33; refine (sum_in _ _ y (dlo c) _ (in_mk (by rw [HY1.out]; exact hr3) HY2.out HY3.out) (in_mk (by rw [show (dlo c).natAbs = (dlo c).toNat by omega]; exact hr') (fun _ => rfl) (fun h => by omega)) hy5 (lo_mi c)).mono ?_; rintro e w4 ⟨⟨r4, rfl, hr4⟩, hb4⟩; have D4 := D3.step hb4; have H4 := H3.step hb4; have R4 := R3.step hb4; have hW4 := hW3.trans (hb4.mono hW3.size); rw [HY4.out] at hr4; obtain ⟨m4, a4, n4, k4, rfl, hn4, ha4, hb5⟩ := hr4.form; have r0 := R4.c0; have r1 := R4.c1; have f0 := R4.free 0; have f1 := R4.free 1))
  have V := (R4.set0 (.bool m4)).set1 (.slice a4 n4 k4)
  have hF := hn4.put R4 (by decide) (.bool m4) (.slice a4 n4 k4)
  have hB := bel_put hW4 (p := p + 1) (by have := HP.out; omega) (.bool m4) (.slice a4 n4 k4)
  have HF := (show Hid _ from in_mk hF ha4 hb5)
  have HB := (show Hid _ from hB)
  clear hF hB D D2 D3 D4 H H2 H3 H4 R R2 R3 R4 r0 r1 f0 f1 hr hr3 hr4 hW hW2 hW3 hW4 hb hb4 hn4
  generalize (w4.setCell ⟨p + 1, 0, none⟩ (.bool m4)).setCell ⟨p + 1, 1, none⟩ (.slice a4 n4 k4) = Z at *
  have c0 := V.c0
  have c1 := V.c1
  clear V
  go_wp2_with fail
  refine bodyPost_ret (v := .agg #[.bool m4, .slice a4 n4 k4]) (by simp [results, Try.results15, go_sem, *]) rfl ⟨⟨_, rfl, HF.out⟩, HB.out⟩
end Go.Proofs.Ytegooagmlapngaa
