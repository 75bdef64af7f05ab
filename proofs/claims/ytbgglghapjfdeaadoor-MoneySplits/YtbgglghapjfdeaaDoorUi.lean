/- The document's whole numbers: the contracts of Made, Opposite, Sign, Product, Sum. -/
import Derived.Test.YtbgglghapjfdeaaDoorM1
import Derived.Deep.RegionHeld3
import Derived.Deep.DrawnRows
namespace Go.Proofs.YtbgglghapjfdeaaDoor
open Go.RowKit
set_option linter.unusedVariables false
attribute [local go_sem ↓] Go.wp_at_zero Go.wp_at_succ

/-- The value v is the whole number of sign m and size x. -/
structure Wn (w : World) (v : Value) (m : Bool) (x : Nat) : Prop where
  ex : ∃ s, v = .agg #[.bool m, s] ∧ Nm w s x
theorem Wn.step {w w' : World} {v : Value} {m : Bool} {x : Nat} (h : Wn w v m x) (k : Below w.heap.size w w') : Wn w' v m x := by
  obtain ⟨s, e, n⟩ := h
  exact ⟨s, e, n.step k⟩
theorem Nm.form {w : World} {v : Value} {x : Nat} (h : Nm w v x) : ∃ a n c, v = .slice a n c := by
  obtain ⟨ds, ⟨_, a, c, e, _⟩, _⟩ := h
  exact ⟨a, _, c, e⟩
theorem wn_mk {w : World} {m : Bool} {s : Value} {x : Nat} (h : Nm w s x) : Wn w (.agg #[.bool m, s]) m x := ⟨s, rfl, h⟩
theorem bel_over {w w' : World} {O : Obj} (k : Below (w.alloc O).heap.size (w.alloc O) w') : Below w.heap.size w w' :=
  ((Below.refl _ _).alloc (Nat.le_refl _) O).trans (k.mono (by simp))
theorem bel_al {a w : World} (h : Below a.heap.size a w) (o : Obj) : Below a.heap.size a (w.alloc o) := h.alloc h.size o
/-- a block of two cells, known whole -/
structure V2 (w : World) (p : Nat) (x y : Value) (T : TypeId) : Prop where
  blk : w.heap[p]? = some (.cells #[x, y] T (0, 0))
theorem V2.c0 {w : World} {p : Nat} {x y : Value} {T : TypeId} (h : V2 w p x y T) : w.cell? ⟨p, 0, none⟩ = some x := by rw [cell_of_row w p 0 _ _ _ h.blk]; rfl
theorem V2.c1 {w : World} {p : Nat} {x y : Value} {T : TypeId} (h : V2 w p x y T) : w.cell? ⟨p, 1, none⟩ = some y := by rw [cell_of_row w p 1 _ _ _ h.blk]; rfl
theorem V2.free {w : World} {p : Nat} {x y : Value} {T : TypeId} (h : V2 w p x y T) (o : Nat) : w.frozen? ⟨p, o, none⟩ = false := frozen_of_row w p o _ _ h.blk
theorem V2.lt {w : World} {p : Nat} {x y : Value} {T : TypeId} (h : V2 w p x y T) : p < w.heap.size := by
  rcases Nat.lt_or_ge p w.heap.size with hlt | hge
  · exact hlt
  · have := h.blk; rw [Array.getElem?_eq_none hge] at this; cases this
theorem V2.step {w w' : World} {p : Nat} {x y : Value} {T : TypeId} (h : V2 w p x y T) (k : Below w.heap.size w w') : V2 w' p x y T := ⟨by rw [k.block p h.lt]; exact h.blk⟩
theorem v2_new (w : World) (x y : Value) (T : TypeId) : V2 (w.alloc (.cells #[x, y] T)) w.heap.size x y T := ⟨heap_alloc_new w _⟩
theorem V2.alloc {w : World} {p : Nat} {x y : Value} {T : TypeId} (h : V2 w p x y T) (o : Obj) : V2 (w.alloc o) p x y T := h.step ((Below.refl _ _).alloc (Nat.le_refl _) o)
theorem V2.drew {w : World} {p : Nat} {x y : Value} {T : TypeId} (h : V2 w p x y T) : V2 w.drew p x y T := ⟨h.blk⟩
theorem V2.set0 {w : World} {p : Nat} {x y : Value} {T : TypeId} (h : V2 w p x y T) (u : Value) : V2 (w.setCell ⟨p, 0, none⟩ u) p u y T := ⟨by rw [heap_setCell_same w p 0 _ _ u h.blk]; rfl⟩
theorem V2.set1 {w : World} {p : Nat} {x y : Value} {T : TypeId} (h : V2 w p x y T) (u : Value) : V2 (w.setCell ⟨p, 1, none⟩ u) p x u T := ⟨by rw [heap_setCell_same w p 1 _ _ u h.blk]; rfl⟩
theorem Nm.drew {w : World} {v : Value} {x : Nat} (h : Nm w v x) : Nm w.drew v x := h.step ((Below.refl _ _).drew)
theorem Nm.alloc {w : World} {v : Value} {x : Nat} (h : Nm w v x) (o : Obj) : Nm (w.alloc o) v x := h.step ((Below.refl _ _).alloc (Nat.le_refl _) o)
theorem Nm.put {w : World} {v : Value} {n : Nat} (h : Nm w v n) {p : Nat} {x y : Value} {T : TypeId} (hp : V2 w p x y T) (hT : T ≠ 42) (c d : Value) : Nm ((w.setCell ⟨p, 0, none⟩ c).setCell ⟨p, 1, none⟩ d) v n :=
  (h.store hp.blk hT 0 c).store (hp.set0 c).blk hT 1 d
theorem bel_put {w w' : World} (h : Below w.heap.size w w') {p : Nat} (hp : w.heap.size ≤ p) (c d : Value) : Below w.heap.size w ((w'.setCell ⟨p, 0, none⟩ c).setCell ⟨p, 1, none⟩ d) := (h.setCell (p := ⟨p, 0, none⟩) hp c).setCell (p := ⟨p, 1, none⟩) hp d
theorem bel_of_drew {w w' : World} (h : Below w.drew.heap.size w.drew w') : Below w.heap.size w w' := ⟨h.os, h.tape, h.output, h.size, h.block⟩
theorem made_neg (n : Int) (w : World) (h0 : -9223372036854775808 ≤ n) (h1 : n < 0) :
    Calls Tryd.prog 20 #[.int .i64 n] w fun e w' => (∃ v, e = .returned v ∧ Wn w' v true n.natAbs) ∧ Below w.heap.size w w' := by
  have hw : IntKind.u64.wrap (-(IntKind.u64.wrap n)) = -n := by rw [IntKind.wrap_u64, IntKind.wrap_u64]; omega
  go_enter Tryd.func20, Tryd.ntmps20
  go_wp2_with fail
  clear hw
  refine (word_ok (-n) _ (by omega) (by omega)).mono ?_
  rintro e w1 ⟨⟨u, rfl, hn⟩, hb⟩
  obtain ⟨ua, un, uc, rfl⟩ := hn.form
  have V := (v2_new w (.bool false) (.slice none 0 0) 57).step hb
  rw [show (-n).toNat = n.natAbs by omega] at hn
  have c0 := V.c0
  have c1 := V.c1
  have f0 := V.free 0
  have f1 := V.free 1
  have HF : Hid (Nm _ (.slice ua un uc) n.natAbs) := hn.put V (by decide) (.bool true) (.slice ua un uc)
  have HB := (show Hid _ from bel_put (bel_over hb) (Nat.le_refl _) (.bool true) (.slice ua un uc))
  clear hb hn V
  go_wp2_with fail
  refine bodyPost_ret (v := .agg #[.bool true, .slice ua un uc]) (by simp [results, Tryd.results20, go_sem, *]) rfl ⟨⟨_, rfl, wn_mk HF.out⟩, HB.out⟩
theorem made_pos (n : Int) (w : World) (h0 : 0 ≤ n) (h1 : n ≤ 9223372036854775807) :
    Calls Tryd.prog 20 #[.int .i64 n] w fun e w' => (∃ v, e = .returned v ∧ Wn w' v false n.natAbs) ∧ Below w.heap.size w w' := by
  go_enter Tryd.func20, Tryd.ntmps20
  go_wp2_with fail
  refine (word_ok n _ (by omega) (by omega)).mono ?_
  rintro e w1 ⟨⟨u, rfl, hn⟩, hb⟩
  obtain ⟨ua, un, uc, rfl⟩ := hn.form
  have V := (v2_new w (.bool false) (.slice none 0 0) 57).step hb
  rw [show n.toNat = n.natAbs by omega] at hn
  have c0 := V.c0
  have c1 := V.c1
  have f0 := V.free 0
  have f1 := V.free 1
  have HF : Hid (Nm _ (.slice ua un uc) n.natAbs) := hn.put V (by decide) (.bool false) (.slice ua un uc)
  have HB := (show Hid _ from bel_put (bel_over hb) (Nat.le_refl _) (.bool false) (.slice ua un uc))
  clear hb hn V
  go_wp2_with fail
  refine bodyPost_ret (v := .agg #[.bool false, .slice ua un uc]) (by simp [results, Tryd.results20, go_sem, *]) rfl ⟨⟨_, rfl, wn_mk HF.out⟩, HB.out⟩
theorem made_ok (n : Int) (w : World) (h0 : -9223372036854775808 ≤ n) (h1 : n ≤ 9223372036854775807) :
    Calls Tryd.prog 20 #[.int .i64 n] w fun e w' => (∃ v, e = .returned v ∧ Wn w' v (decide (n < 0)) n.natAbs) ∧ Below w.heap.size w w' := by
  by_cases h : n < 0
  · rw [decide_eq_true h]; exact made_neg n w h0 h
  · rw [decide_eq_false h]; exact made_pos n w (by omega) h1

theorem cell_put {w : World} {p q o : Nat} {c d : Value} (h : q ≠ p) : ((w.setCell ⟨p, 0, none⟩ c).setCell ⟨p, 1, none⟩ d).cell? ⟨q, o, none⟩ = w.cell? ⟨q, o, none⟩ := by
  have h1 : (w.setCell ⟨p, 0, none⟩ c).heap[q]? = w.heap[q]? := Below.heap_setCell _ _ _ _ h
  have h2 : ((w.setCell ⟨p, 0, none⟩ c).setCell ⟨p, 1, none⟩ d).heap[q]? = (w.setCell ⟨p, 0, none⟩ c).heap[q]? := Below.heap_setCell _ _ _ _ h
  exact World.cell?_of_block (w := w) (a := ⟨q, o, none⟩) (h2.trans h1)
theorem size_al (w : World) (o : Obj) : (w.alloc o).heap.size = w.heap.size + 1 := by simp
theorem three (w : World) (a b c d e f : Value) (T U : TypeId) :
    V2 (((w.alloc (.cells #[a, b] T)).alloc (.cells #[c, d] T)).alloc (.cells #[e, f] U)) w.heap.size a b T ∧
    V2 (((w.alloc (.cells #[a, b] T)).alloc (.cells #[c, d] T)).alloc (.cells #[e, f] U)) (w.heap.size + 1) c d T ∧
    V2 (((w.alloc (.cells #[a, b] T)).alloc (.cells #[c, d] T)).alloc (.cells #[e, f] U)) (w.heap.size + 2) e f U ∧
    Below w.heap.size w (((w.alloc (.cells #[a, b] T)).alloc (.cells #[c, d] T)).alloc (.cells #[e, f] U)) := by
  refine ⟨((v2_new w a b T).alloc _).alloc _, ?_, ?_, bel_al (bel_al (bel_al (Below.refl _ _) _) _) _⟩
  · have := (v2_new (w.alloc (.cells #[a, b] T)) c d T).alloc (.cells #[e, f] U)
    rw [size_al] at this
    exact this
  · have := v2_new ((w.alloc (.cells #[a, b] T)).alloc (.cells #[c, d] T)) e f U
    rw [size_al, size_al] at this
    exact this
end Go.Proofs.YtbgglghapjfdeaaDoor
