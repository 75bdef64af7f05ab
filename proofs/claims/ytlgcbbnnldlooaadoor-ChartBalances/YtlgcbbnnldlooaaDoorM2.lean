/- The document's whole numbers as such: In; the contracts of Sign, Order, Coef, Dec. -/
import Derived.Test.YtlgcbbnnldlooaaDoorUi
import Derived.Test.YtlgcbbnnldlooaaDoorPg
namespace Go.Proofs.YtlgcbbnnldlooaaDoor
open Go.RowKit
set_option linter.unusedVariables false
attribute [local go_sem ↓] Go.wp_at_zero Go.wp_at_succ

/-- The value v is the whole number z. -/
structure In (w : World) (v : Value) (z : Int) : Prop where
  ex : ∃ m, Wn w v m z.natAbs ∧ (0 < z → m = false) ∧ (z < 0 → m = true)
theorem In.step {w w' : World} {v : Value} {z : Int} (h : In w v z) (k : Below w.heap.size w w') : In w' v z := by
  obtain ⟨m, n, a, b⟩ := h
  exact ⟨m, n.step k, a, b⟩
theorem In.drew {w : World} {v : Value} {z : Int} (h : In w v z) : In w.drew v z := h.step ((Below.refl _ _).drew)
theorem In.alloc {w : World} {v : Value} {z : Int} (h : In w v z) (o : Obj) : In (w.alloc o) v z := h.step ((Below.refl _ _).alloc (Nat.le_refl _) o)
theorem In.form {w : World} {v : Value} {z : Int} (h : In w v z) : ∃ m a n c, v = .agg #[.bool m, .slice a n c] ∧ Nm w (.slice a n c) z.natAbs ∧ (0 < z → m = false) ∧ (z < 0 → m = true) := by
  obtain ⟨m, ⟨s, rfl, hn⟩, a, b⟩ := h
  obtain ⟨x, y, c, rfl⟩ := hn.form
  exact ⟨m, x, y, c, rfl, hn, a, b⟩
theorem in_mk {w : World} {m : Bool} {s : Value} {z : Int} (h : Nm w s z.natAbs) (a : 0 < z → m = false) (b : z < 0 → m = true) : In w (.agg #[.bool m, s]) z := ⟨m, wn_mk h, a, b⟩
theorem made_in (n : Int) (w : World) (h0 : -9223372036854775808 ≤ n) (h1 : n ≤ 9223372036854775807) :
    Calls Tryd.prog 78 #[.int .i64 n] w fun e w' => (∃ v, e = .returned v ∧ In w' v n) ∧ Below w.heap.size w w' := by
  refine (made_ok n w h0 h1).mono ?_
  rintro e w1 ⟨⟨v, rfl, hv⟩, hb⟩
  exact ⟨⟨v, rfl, _, hv, fun h => by simp; omega, fun h => by simp [h]⟩, hb⟩
/-- Its size is small enough. -/
def Mi (z : Int) : Prop := Md z.natAbs
theorem prod_in (v u : Value) (y z : Int) (w : World) (h : In w v y) (h2 : In w u z) (hy : Mi y) (hz : Mi z) :
    Calls Tryd.prog 65 #[v, u] w fun e w' => (∃ r, e = .returned r ∧ In w' r (y * z)) ∧ Below w.heap.size w w' := by
  obtain ⟨m, hw, a, b⟩ := h
  obtain ⟨k, hw2, a2, b2⟩ := h2
  refine (product_ok v u m k _ _ w hw hw2 hy hz).mono ?_
  rintro e w1 ⟨⟨r, rfl, hr⟩, hb⟩
  refine ⟨⟨r, rfl, _, (by rw [Int.natAbs_mul]; exact hr), fun h => ?_, fun h => ?_⟩, hb⟩
  · rcases Int.lt_or_le y 0 with hy | hy
    · have hz' : z < 0 := by
        rcases Int.lt_or_le z 0 with hz | hz
        · exact hz
        · have := Int.mul_nonpos_of_nonpos_of_nonneg (Int.le_of_lt hy) hz; omega
      rw [b hy, b2 hz']; rfl
    · have hz' : 0 < z := by
        rcases Int.lt_or_le 0 z with hz | hz
        · exact hz
        · have := Int.mul_nonpos_of_nonneg_of_nonpos hy hz; omega
      have hy' : 0 < y := by
        rcases Int.lt_or_le 0 y with h1 | h1
        · exact h1
        · obtain rfl : y = 0 := by omega
          simp at h
      rw [a hy', a2 hz']; rfl
  · rcases Int.lt_or_le y 0 with hy | hy
    · have hz' : 0 < z := by
        rcases Int.lt_or_le 0 z with hz | hz
        · exact hz
        · have := Int.mul_nonneg_of_nonpos_of_nonpos (Int.le_of_lt hy) hz; omega
      rw [b hy, a2 hz']; rfl
    · have hz' : z < 0 := by
        rcases Int.lt_or_le z 0 with hz | hz
        · exact hz
        · have := Int.mul_nonneg hy hz; omega
      have hy' : 0 < y := by
        rcases Int.lt_or_le 0 y with h1 | h1
        · exact h1
        · obtain rfl : y = 0 := by omega
          simp at h
      rw [a hy', b2 hz']; rfl
theorem sum_in (v u : Value) (y z : Int) (w : World) (h : In w v y) (h2 : In w u z) (hy : Mi y) (hz : Mi z) :
    Calls Tryd.prog 32 #[v, u] w fun e w' => (∃ r, e = .returned r ∧ In w' r (y + z)) ∧ Below w.heap.size w w' := by
  obtain ⟨m, hw, a, b⟩ := h
  obtain ⟨k, hw2, a2, b2⟩ := h2
  by_cases hmk : k = m
  · subst hmk
    refine (sum_same v u k k _ _ w hw hw2 hy hz rfl).mono ?_
    rintro e w1 ⟨⟨r, rfl, hr⟩, hb⟩
    have e : y.natAbs + z.natAbs = (y + z).natAbs := by
      cases k
      · have : ¬ y < 0 := fun h => by have := b h; simp at this
        have : ¬ z < 0 := fun h => by have := b2 h; simp at this
        omega
      · have : ¬ 0 < y := fun h => by have := a h; simp at this
        have : ¬ 0 < z := fun h => by have := a2 h; simp at this
        omega
    refine ⟨⟨r, rfl, _, (by rw [← e]; exact hr), fun h => ?_, fun h => ?_⟩, hb⟩
    · rcases (show 0 < y ∨ 0 < z by omega) with h | h
      · exact a h
      · exact a2 h
    · rcases (show y < 0 ∨ z < 0 by omega) with h | h
      · exact b h
      · exact b2 h
  · have hmk' : (m == k) = false := by rw [beq_eq_false_iff_ne]; exact fun h => hmk h.symm
    have hcase : (¬ y < 0 ∧ ¬ 0 < z ∧ m = false ∧ k = true) ∨ (¬ 0 < y ∧ ¬ z < 0 ∧ m = true ∧ k = false) := by
      cases m <;> cases k
      · simp at hmk
      · left
        exact ⟨fun h => by have := b h; simp at this, fun h => by have := a2 h; simp at this, rfl, rfl⟩
      · right
        exact ⟨fun h => by have := a h; simp at this, fun h => by have := b2 h; simp at this, rfl, rfl⟩
      · simp at hmk
    rcases Nat.lt_or_ge y.natAbs z.natAbs with hlt | hge
    · refine (sum_lt v u m k _ _ w hw hw2 hy hz hmk' hlt).mono ?_
      rintro e w1 ⟨⟨r, rfl, hr⟩, hb⟩
      rcases hcase with ⟨c1, c2, rfl, rfl⟩ | ⟨c1, c2, rfl, rfl⟩
      · exact ⟨⟨r, rfl, _, (by rw [show (y + z).natAbs = z.natAbs - y.natAbs by omega]; exact hr), fun h => by omega, fun h => rfl⟩, hb⟩
      · exact ⟨⟨r, rfl, _, (by rw [show (y + z).natAbs = z.natAbs - y.natAbs by omega]; exact hr), fun h => rfl, fun h => by omega⟩, hb⟩
    · refine (sum_ge v u m k _ _ w hw hw2 hy hz hmk' hge).mono ?_
      rintro e w1 ⟨⟨r, rfl, hr⟩, hb⟩
      rcases hcase with ⟨c1, c2, rfl, rfl⟩ | ⟨c1, c2, rfl, rfl⟩
      · exact ⟨⟨r, rfl, _, (by rw [show (y + z).natAbs = y.natAbs - z.natAbs by omega]; exact hr), fun h => rfl, fun h => by omega⟩, hb⟩
      · exact ⟨⟨r, rfl, _, (by rw [show (y + z).natAbs = y.natAbs - z.natAbs by omega]; exact hr), fun h => by omega, fun h => rfl⟩, hb⟩
theorem sign_in (v : Value) (z : Int) (w : World) (h : In w v z) :
    Calls Tryd.prog 35 #[v] w fun e w' => e = .returned (.int .i64 (sgn z)) ∧ Below w.heap.size w w' := by
  obtain ⟨m, hw, a, b⟩ := h
  rcases (show z = 0 ∨ 0 < z ∨ z < 0 by omega) with rfl | hz | hz
  · exact sign_zero v m w hw
  · have hm := a hz
    subst hm
    have h := sign_some v false _ w hw (by omega)
    have e : sgn z = 1 := by unfold sgn; rw [if_neg (by omega), if_neg (by omega)]
    rw [e]
    exact h
  · have hm := b hz
    subst hm
    have h := sign_some v true _ w hw (by omega)
    have e : sgn z = -1 := by unfold sgn; rw [if_pos hz]
    rw [e]
    exact h
end Go.Proofs.YtlgcbbnnldlooaaDoor
/- The document's whole numbers: the contracts of Coef, Order, Dec, At. -/
namespace Go.Proofs.YtlgcbbnnldlooaaDoor
open Go.RowKit
set_option linter.unusedVariables false
attribute [local go_sem ↓] Go.wp_at_zero Go.wp_at_succ

/-- a block of three cells, known whole -/
structure V3 (w : World) (p : Nat) (x y z : Value) (T : TypeId) : Prop where
  blk : w.heap[p]? = some (.cells #[x, y, z] T (0, 0))
theorem V3.c0 {w : World} {p : Nat} {x y z : Value} {T : TypeId} (h : V3 w p x y z T) : w.cell? ⟨p, 0, none⟩ = some x := by rw [cell_of_row w p 0 _ _ _ h.blk]; rfl
theorem V3.c1 {w : World} {p : Nat} {x y z : Value} {T : TypeId} (h : V3 w p x y z T) : w.cell? ⟨p, 1, none⟩ = some y := by rw [cell_of_row w p 1 _ _ _ h.blk]; rfl
theorem V3.c2 {w : World} {p : Nat} {x y z : Value} {T : TypeId} (h : V3 w p x y z T) : w.cell? ⟨p, 2, none⟩ = some z := by rw [cell_of_row w p 2 _ _ _ h.blk]; rfl
theorem V3.free {w : World} {p : Nat} {x y z : Value} {T : TypeId} (h : V3 w p x y z T) (o : Nat) : w.frozen? ⟨p, o, none⟩ = false := frozen_of_row w p o _ _ h.blk
theorem V3.lt {w : World} {p : Nat} {x y z : Value} {T : TypeId} (h : V3 w p x y z T) : p < w.heap.size := by
  rcases Nat.lt_or_ge p w.heap.size with hlt | hge
  · exact hlt
  · have := h.blk; rw [Array.getElem?_eq_none hge] at this; cases this
theorem V3.step {w w' : World} {p : Nat} {x y z : Value} {T : TypeId} (h : V3 w p x y z T) (k : Below w.heap.size w w') : V3 w' p x y z T := ⟨by rw [k.block p h.lt]; exact h.blk⟩
theorem v3_new (w : World) (x y z : Value) (T : TypeId) : V3 (w.alloc (.cells #[x, y, z] T)) w.heap.size x y z T := ⟨heap_alloc_new w _⟩
theorem V3.alloc {w : World} {p : Nat} {x y z : Value} {T : TypeId} (h : V3 w p x y z T) (o : Obj) : V3 (w.alloc o) p x y z T := h.step ((Below.refl _ _).alloc (Nat.le_refl _) o)
theorem V3.drew {w : World} {p : Nat} {x y z : Value} {T : TypeId} (h : V3 w p x y z T) : V3 w.drew p x y z T := ⟨h.blk⟩
theorem V3.set0 {w : World} {p : Nat} {x y z : Value} {T : TypeId} (h : V3 w p x y z T) (u : Value) : V3 (w.setCell ⟨p, 0, none⟩ u) p u y z T := ⟨by rw [heap_setCell_same w p 0 _ _ u h.blk]; rfl⟩
theorem V3.set1 {w : World} {p : Nat} {x y z : Value} {T : TypeId} (h : V3 w p x y z T) (u : Value) : V3 (w.setCell ⟨p, 1, none⟩ u) p x u z T := ⟨by rw [heap_setCell_same w p 1 _ _ u h.blk]; rfl⟩
theorem V3.set2 {w : World} {p : Nat} {x y z : Value} {T : TypeId} (h : V3 w p x y z T) (u : Value) : V3 (w.setCell ⟨p, 2, none⟩ u) p x y u T := ⟨by rw [heap_setCell_same w p 2 _ _ u h.blk]; rfl⟩
theorem In.put {w : World} {v : Value} {z : Int} (h : In w v z) {p : Nat} {x y : Value} {T : TypeId} (hp : V2 w p x y T) (hT : T ≠ 35) (c d : Value) : In ((w.setCell ⟨p, 0, none⟩ c).setCell ⟨p, 1, none⟩ d) v z := by
  obtain ⟨m, ⟨s, e, hn⟩, a, b⟩ := h
  exact ⟨m, ⟨s, e, hn.put hp hT c d⟩, a, b⟩
theorem mi_of {z : Int} {k : Nat} (h : z.natAbs < 2 ^ k) (hk : k ≤ 1024) : Mi z := md_of h hk
theorem dhi_mi (c : Int) (ic : InR c) : -9223372036854775808 ≤ dhi c ∧ dhi c ≤ 9223372036854775807 := dhi_bd ic
theorem coef_parts {c : Int} (ic : InR c) {m : Bool} (a : 0 < dhi c → m = false) (b : dhi c < 0 → m = true) : ∃ y : Int, y.natAbs = (dhi c).natAbs * 2 ^ 64 ∧ (0 < y → m = false) ∧ (y < 0 → m = true) ∧ y + dlo c = c ∧ Mi y := by
  refine ⟨dhi c * 18446744073709551616, by rw [Int.natAbs_mul]; rfl, fun h => a (by omega), fun h => b (by omega), by unfold dhi dlo; omega, ?_⟩
  have := dhi_bd ic
  exact mi_of (k := 128) (by rw [Int.natAbs_mul]; show (dhi c).natAbs * 18446744073709551616 < _; omega) (by omega)
theorem lo_mi (c : Int) : Mi (dlo c) := mi_of (k := 64) (by have := dlo_bd c; omega) (by omega)
set_option maxHeartbeats 1000000 in
set_option maxRecDepth 100000 in
theorem coef_ok (c s : Int) (w : World) (ic : InR c) :
    Calls Tryd.prog 66 #[.agg #[.int .i64 (dhi c), .int .u64 (dlo c), .int .i64 s]] w fun e w' => (∃ r, e = .returned r ∧ In w' r c) ∧ Below w.heap.size w w' := by
  have hh := dhi_bd ic
  have hl := dlo_bd c
  have IC : Hid (InR c) := ic
  clear ic
  go_enter Tryd.func66, Tryd.ntmps66
  go_wp2_with fail
  refine (made_in (dhi c) _ hh.1 hh.2).mono ?_
  rintro e w1 ⟨⟨v, rfl, hv⟩, hb⟩
  obtain ⟨m, a, n, k, rfl, hn, ha, hb2⟩ := hv.form
  obtain ⟨y, hy1, hy2, hy3, hy4, hy5⟩ := coef_parts IC.out ha hb2
  have D := ((v3_new w (.int .i64 (dhi c)) (.int .u64 (dlo c)) (.int .i64 s) 37).alloc (.cells #[.bool false, .slice none 0 0] 29)).step hb
  have R := (v2_new (w.alloc (.cells #[.int .i64 (dhi c), .int .u64 (dlo c), .int .i64 s] 37)) (.bool false) (.slice none 0 0) 29).step hb
  rw [size_al] at R
  have hW := bel_over (bel_over hb)
  have hlt := R.lt
  have H := v2_new w1 (.bool m) (.slice a n k) 29
  have D := D.alloc (.cells #[.bool m, .slice a n k] 29)
  have R := R.alloc (.cells #[.bool m, .slice a n k] 29)
  have hn := hn.alloc (.cells #[.bool m, .slice a n k] 29)
  have hW := bel_al hW (.cells #[.bool m, .slice a n k] 29)
  have hle := (bel_over (bel_over hb)).size
  go_wp2_with fail
  clear hv hb ha hb2
  generalize w1.alloc (.cells #[.bool m, .slice a n k] 29) = W at *
  obtain ⟨q, hq⟩ : ∃ q, q = w1.heap.size := ⟨_, rfl⟩
  rw [← hq] at H hle hlt
  rw [← hq]
  clear hq
  obtain ⟨p, hp⟩ : ∃ p, p = w.heap.size := ⟨_, rfl⟩
  have HP : Hid (p = w.heap.size) := hp
  rw [← hp] at D R
  rw [← hp]
  have hle : p ≤ q := by omega
  have hne : p + 1 < q := by omega
  clear hp
  have HY1 := (show Hid _ from hy1)
  have HY2 := (show Hid _ from hy2)
  have HY3 := (show Hid _ from hy3)
  have HY4 := (show Hid _ from hy4)
  clear hy1 hy2 hy3 hy4
  go_region_held3 (fun w' => w'.cell? ⟨p, 1, none⟩ = some (.int .u64 (dlo c)) ∧ w'.cell? ⟨q, 0, none⟩ = some (.bool m) ∧ w'.cell? ⟨q, 1, none⟩ = some (.slice a n k))
    (first | exact ⟨D.c1, H.c0, H.c1⟩ | exact ⟨D.drew.c1, H.drew.c0, H.drew.c1⟩ | exact ⟨D4.c1, H4.c0, H4.c1⟩ | exact ⟨D3.c1, H3.c0, H3.c1⟩ | exact ⟨D2.c1, H2.c0, H2.c1⟩ | exact ⟨(cell_put (by omega)).trans D4.c1, (cell_put (by omega)).trans H4.c0, (cell_put (by omega)).trans H4.c1⟩)
    (first
      | (go_at_call 71; refine (left_ok _ _ 64 _ hn.drew (mi_of (k := 64) (by omega) (by omega)) (by omega)).mono ?_; rintro e w2 ⟨⟨r, rfl, hr⟩, hb⟩; obtain ⟨ra, rn, rc, rfl⟩ := hr.form; have D2 := D.drew.step hb; have H2 := H.drew.step hb; have R2 := R.drew.step hb; have hW2 := hW.trans ((bel_of_drew hb).mono hW.size))
      | (go_at_call 54; refine (word_ok (dlo c) _ hl.1 hl.2).mono ?_; rintro e w3 ⟨⟨r, rfl, hr'⟩, hb'⟩; obtain ⟨ra', rn', rc', rfl⟩ := hr'.form; have D3 := D2.step hb'; have H3 := H2.step hb'; have R3 := R2.step hb'; have hW3 := hW2.trans (hb'.mono hW2.size); have hr3 := hr.step hb')
      | (go_at_call 32; refine (sum_in _ _ y (dlo c) _ (in_mk (by rw [HY1.out]; exact hr3) HY2.out HY3.out) (in_mk (by rw [show (dlo c).natAbs = (dlo c).toNat by omega]; exact hr') (fun _ => rfl) (fun h => by omega)) hy5 (lo_mi c)).mono ?_; rintro e w4 ⟨⟨r4, rfl, hr4⟩, hb4⟩; have D4 := D3.step hb4; have H4 := H3.step hb4; have R4 := R3.step hb4; have hW4 := hW3.trans (hb4.mono hW3.size); rw [HY4.out] at hr4; obtain ⟨m4, a4, n4, k4, rfl, hn4, ha4, hb5⟩ := hr4.form; have r0 := R4.c0; have r1 := R4.c1; have f0 := R4.free 0; have f1 := R4.free 1))
  have V := (R4.set0 (.bool m4)).set1 (.slice a4 n4 k4)
  have hF := hn4.put R4 (by decide) (.bool m4) (.slice a4 n4 k4)
  have hB := bel_put hW4 (p := p + 1) (by have := HP.out; omega) (.bool m4) (.slice a4 n4 k4)
  have HF := (show Hid _ from in_mk hF ha4 hb5)
  have HB := (show Hid _ from hB)
  clear hF hB D D2 D3 D4 H H2 H3 H4 R R2 R3 R4 r0 r1 f0 f1 hr hr3 hr4 hW hW2 hW3 hW4 hb hb4 hn4
  generalize (w4.setCell ⟨p + 1, 0, none⟩ (.bool m4)).setCell ⟨p + 1, 1, none⟩ (.slice a4 n4 k4) = Z at *
  have c0 := V.c0
  have c1 := V.c1
  clear V
  go_wp2_with fail
  refine bodyPost_ret (v := .agg #[.bool m4, .slice a4 n4 k4]) (by simp [results, Tryd.results66, go_sem, *]) rfl ⟨⟨_, rfl, HF.out⟩, HB.out⟩
end Go.Proofs.YtlgcbbnnldlooaaDoor
/- The document's decimals: the contracts of Form, Dec. -/
namespace Go.Proofs.YtlgcbbnnldlooaaDoor
open Go.RowKit
set_option linter.unusedVariables false
attribute [local go_sem ↓] Go.wp_at_zero Go.wp_at_succ

set_option maxHeartbeats 400000 in
set_option maxRecDepth 100000 in
theorem form_yes (c : Int) (s : Nat) (w : World) (hc : InR c) (hs : (s : Int) ≤ 18) :
    Calls Tryd.prog 50 #[.agg #[.int .i64 (dhi c), .int .u64 (dlo c), .int .i64 s]] w fun e w' => e = .returned (.bool true) ∧ Below w.heap.size w w' := by
  rcases least_no hc with e1 | ⟨e1, e2⟩
  all_goals
    clear hc
    go_enter Tryd.func50, Tryd.ntmps50
    go_wp2_with fail
    go_ret
    exact ⟨rfl, bel_al (Below.refl _ _) _⟩
set_option maxHeartbeats 400000 in
set_option maxRecDepth 100000 in
theorem form_no (h l s : Int) (w : World) (hb : Bad h l s) :
    Calls Tryd.prog 50 #[.agg #[.int .i64 h, .int .u64 l, .int .i64 s]] w fun e w' => e = .returned (.bool false) ∧ Below w.heap.size w w' := by
  by_cases hs : s < 0 ∨ 18 < s
  · clear hb
    rcases hs with hs | hs
    · have d1 : decide (0 ≤ s) = false := by simp; omega
      go_enter Tryd.func50, Tryd.ntmps50
      go_wp2_with fail
      go_ret
      exact ⟨rfl, bel_al (Below.refl _ _) _⟩
    · have d1 : decide (0 ≤ s) = true := by simp; omega
      have d2 : decide (s ≤ 18) = false := by simp; omega
      go_enter Tryd.func50, Tryd.ntmps50
      go_wp2_with fail
      go_ret
      exact ⟨rfl, bel_al (Below.refl _ _) _⟩
  · obtain ⟨rfl, rfl⟩ := hb.resolve_left hs
    have d1 : decide (0 ≤ s) = true := by simp; omega
    have d2 : decide (s ≤ 18) = true := by simp; omega
    clear hb hs
    go_enter Tryd.func50, Tryd.ntmps50
    go_wp2_with fail
    go_ret
    exact ⟨rfl, bel_al (Below.refl _ _) _⟩

theorem big_size {x t : Nat} (h : IsSize x t) (hx : M127 ≤ (x : Int)) : 127 < t := isSize_above h (by rw [M127_eq] at hx; omega)
theorem small_size {x t : Nat} (h : IsSize x t) (hx : (x : Int) < M127) : t ≤ 127 := isSize_bound h (by rw [M127_eq] at hx; omega)
set_option maxHeartbeats 1000000 in
set_option maxRecDepth 100000 in
theorem decr_big (v : Value) (z s : Int) (w : World) (h : In w v z) (hz : M127 ≤ (z.natAbs : Int)) :
    Calls Tryd.prog 57 #[v, .int .i64 s] w fun e w' => e = .returned (.tuple #[.agg #[.int .i64 0, .int .u64 0, .int .i64 0], .int .i64 4]) ∧ Below w.heap.size w w' := by
  obtain ⟨m, a, n, k, rfl, hn, ha, hb⟩ := h.form
  have hn := (hn.alloc (.cells #[.bool m, .slice a n k] 29)).alloc (.cells #[.int .i64 0, .int .u64 0, .int .i64 0] 37)
  have HZ : Hid (M127 ≤ (z.natAbs : Int)) := hz
  have HN := (show Hid _ from hn)
  clear h ha hb hz hn
  go_enter Tryd.func57, Tryd.ntmps57
  go_wp2_with fail
  refine (size_ok _ _ _ HN.out).mono ?_
  rintro e w1 ⟨⟨t, rfl, ht, ht2⟩, rfl⟩
  have h127 := big_size ht HZ.out
  clear ht HN HZ
  go_wp2_with fail
  refine bodyPost_ret (v := .tuple #[.agg #[.int .i64 0, .int .u64 0, .int .i64 0], .int .i64 4]) (by simp [results, Tryd.results57, go_sem]) rfl ⟨rfl, bel_al (bel_al (Below.refl _ _) _) _⟩
end Go.Proofs.YtlgcbbnnldlooaaDoor
/- The document's decimals: the contract of Dec in range. -/
namespace Go.Proofs.YtlgcbbnnldlooaaDoor
open Go.RowKit
set_option linter.unusedVariables false
attribute [local go_sem ↓] Go.wp_at_zero Go.wp_at_succ

def h64 (x : Nat) : Int := ((x / 18446744073709551616 : Nat) : Int)
theorem pw_1 : pw 1 = 4294967296 := rfl
theorem pw_2 : pw 2 = 18446744073709551616 := rfl
theorem pw_3 : pw 3 = 79228162514264337593543950336 := rfl
theorem dec_low (ds : List Nat) (k : Nat) (hd : Sm ds) (hk : k < ds.length) (h2 : k < 2) :
    IntKind.u64.wrap (m64 (val (ds.take k)) + IntKind.u64.wrap (dg ds k * 2 ^ (32 * k))) = m64 (val (ds.take (k + 1))) ∧ h64 (val (ds.take (k + 1))) = h64 (val (ds.take k)) := by
  have h1 := val_lt (sm_take k hd)
  have hs := sm_getD k hd
  rw [List.length_take, Nat.min_eq_left (by omega)] at h1
  rw [val_take_succ ds k hk, IntKind.wrap_u64, IntKind.wrap_u64]
  unfold m64 h64 dg
  rcases (show k = 0 ∨ k = 1 by omega) with rfl | rfl
  · rw [pw_zero] at *
    simp only [Nat.mul_zero, Int.pow_zero]
    omega
  · rw [pw_1] at *
    rw [show (2 : Int) ^ (32 * 1) = 4294967296 from rfl]
    omega
theorem dec_high (ds : List Nat) (k : Nat) (hd : Sm ds) (hk : k < ds.length) (h2 : 2 ≤ k) (h4 : k < 4) :
    IntKind.u64.wrap (h64 (val (ds.take k)) + IntKind.u64.wrap (dg ds k * 2 ^ (32 * (k - 2)))) = h64 (val (ds.take (k + 1))) ∧ m64 (val (ds.take (k + 1))) = m64 (val (ds.take k)) := by
  have h1 := val_lt (sm_take k hd)
  have hs := sm_getD k hd
  rw [List.length_take, Nat.min_eq_left (by omega)] at h1
  rw [val_take_succ ds k hk, IntKind.wrap_u64, IntKind.wrap_u64]
  unfold m64 h64 dg
  rcases (show k = 2 ∨ k = 3 by omega) with rfl | rfl
  · rw [pw_2] at *
    simp only [Nat.sub_self, Nat.mul_zero, Int.pow_zero]
    omega
  · rw [pw_3] at *
    rw [show (2 : Int) ^ (32 * (3 - 2)) = 4294967296 from rfl]
    omega
theorem dec_words' {z : Int} (hz : (z.natAbs : Int) < M127) (X : Nat) (hX : (X : Int) = if z < 0 then z + 340282366920938463463374607431768211456 else z) : wrap64 (h64 X) = dhi z ∧ m64 X = dlo z := by
  rw [M127_eq] at hz
  unfold h64 m64 dhi dlo wrap64
  split at hX <;> omega
theorem len4 {ds : List Nat} (h : Nd ds) (hx : val ds < 340282366920938463463374607431768211456) : ds.length ≤ 4 := by
  by_cases hl : 4 < ds.length
  · have h1 := h.top (by omega)
    have h2 := pw_mono (show 4 ≤ ds.length - 1 by omega)
    have : pw 4 = 340282366920938463463374607431768211456 := by decide
    omega
  · omega
theorem V3.keep {w : World} {q : Nat} {x y z : Value} {T : TypeId} (h : V3 w q x y z T) (p : Nat) (hp : q ≠ p) (c d : Value) : V3 ((w.setCell ⟨p, 0, none⟩ c).setCell ⟨p, 1, none⟩ d) q x y z T := by
  have h1 : (w.setCell ⟨p, 0, none⟩ c).heap[q]? = w.heap[q]? := Below.heap_setCell _ _ _ _ hp
  have h2 : ((w.setCell ⟨p, 0, none⟩ c).setCell ⟨p, 1, none⟩ d).heap[q]? = (w.setCell ⟨p, 0, none⟩ c).heap[q]? := Below.heap_setCell _ _ _ _ hp
  exact ⟨by rw [h2, h1]; exact h.blk⟩
theorem inr_abs {z : Int} (h : InR z) : (z.natAbs : Int) < M127 := by have := h.lo; have := h.hi; omega
theorem inr_of {z : Int} (h : (z.natAbs : Int) < M127) : InR z := ⟨by omega, by omega⟩
set_option maxHeartbeats 1000000 in
set_option maxRecDepth 100000 in
theorem decr_pos (v : Value) (z s : Int) (w : World) (h : In w v z) (hz : InR z) (h0 : 0 ≤ z) :
    Calls Tryd.prog 57 #[v, .int .i64 s] w fun e w' => e = .returned (.tuple #[.agg #[.int .i64 (dhi z), .int .u64 (dlo z), .int .i64 s], .int .i64 0]) ∧ Below w.heap.size w w' := by
  obtain ⟨m, a, n, k, rfl, hn, ha, hb⟩ := h.form
  have HZ : Hid (InR z) := hz
  have H := (show Hid _ from h)
  have HN := (show Hid _ from hn)
  have H0 := (show Hid _ from h0)
  clear hz ha hb h hn h0
  go_enter Tryd.func57, Tryd.ntmps57
  go_wp2_with fail
  refine (size_ok _ _ _ ((HN.out.alloc _).alloc _)).mono ?_
  rintro e w1 ⟨⟨t, rfl, ht, ht2⟩, rfl⟩
  have h127 := small_size ht (inr_abs HZ.out)
  clear ht
  go_wp2_with fail
  have A := ((v2_new w (.bool m) (.slice a n k) 29).alloc (.cells #[.int .i64 0, .int .u64 0, .int .i64 0] 37)).alloc (.cells #[.bool m, .slice a n k] 29)
  have R := (v3_new (w.alloc (.cells #[.bool m, .slice a n k] 29)) (.int .i64 0) (.int .u64 0) (.int .i64 0) 37).alloc (.cells #[.bool m, .slice a n k] 29)
  have X := v2_new ((w.alloc (.cells #[.bool m, .slice a n k] 29)).alloc (.cells #[.int .i64 0, .int .u64 0, .int .i64 0] 37)) (.bool m) (.slice a n k) 29
  rw [size_al] at R
  rw [size_al, size_al] at X
  have hW := bel_al (bel_al (bel_al (Below.refl _ w) (.cells #[.bool m, .slice a n k] 29)) (.cells #[.int .i64 0, .int .u64 0, .int .i64 0] 37)) (.cells #[.bool m, .slice a n k] 29)
  have h := H.out.step hW
  refine (sign_in _ z _ h).mono ?_
  rintro e w2 ⟨rfl, hb2⟩
  replace A := A.step hb2
  replace R := R.step hb2
  replace X := X.step hb2
  replace h := h.step hb2
  replace hW := hW.trans (hb2.mono hW.size)
  clear hb2
  obtain ⟨p, hp⟩ : ∃ p, p = w.heap.size := ⟨_, rfl⟩
  have HP : Hid (p = w.heap.size) := hp
  rw [← hp] at A R X
  rw [← hp]
  clear hp
  have hs : 0 ≤ sgn z := by have := H0.out; unfold sgn; rw [if_neg (by omega)]; split <;> omega
  generalize sgn z = sg at *
  have hn := HN.out.step hW
  have x0 := X.c0
  have x1 := X.c1
  have r0 := R.c0
  have r1 := R.c1
  have r2 := R.c2
  have f0 := R.free 0
  have f1 := R.free 1
  have f2 := R.free 2
  have HR := (show Hid _ from R)
  have HW := (show Hid _ from hW)
  have hXlt : Hid (z.natAbs < 340282366920938463463374607431768211456) := by have := inr_abs HZ.out; rw [M127_eq] at this; show _ < _; omega
  have hXe : Hid ((z.natAbs : Int) = if z < 0 then z + 340282366920938463463374607431768211456 else z) := by have := H0.out; show _ = _; rw [if_neg (by omega)]; omega
  clear A R X hW h H HN
  obtain ⟨ds, ⟨hm, a', c', e', hlc, hx⟩, hnd, hval⟩ := hn
  cases e'
  have HX := (show Hid _ from hx)
  have HND : Hid (Nd ds) := hnd
  have HV := (show Hid _ from hval)
  have h4 := len4 hnd (by rw [hval]; exact hXlt.out)
  clear hx hnd hval
  obtain ⟨N, hN⟩ : ∃ N, N = ds.length := ⟨_, rfl⟩
  have HL : Hid (N = ds.length) := hN
  rw [← hN] at hm hlc h4 x1
  try rw [← hN]
  clear hN
  go_wp2_with fail
  go_loop [7, 8, 28] (fun lo hi i => ∃ j : Nat, j ≤ N ∧ i = .int .i64 j ∧ lo = .int .u64 (m64 (val (ds.take j))) ∧ hi = .int .u64 (h64 (val (ds.take j)))) (fun _ _ i => N - (intOf i).toNat)
  case atStart => exact ⟨0, by omega, rfl, rfl, by simp [h64, val]⟩
  case round =>
    obtain ⟨j, hj, rfl, rfl, rfl⟩ := hrel
    by_cases hjN : j < N
    · obtain ⟨b, off, rfl, ⟨hb, _⟩, hc⟩ := HX.out (by have := HL.out; omega)
      have hcell := hc j (by have := HL.out; omega)
      have b1 := dg_bd HND.out.sm j
      clear hc HX
      by_cases hj2 : j < 2
      · obtain ⟨e1, e2⟩ := dec_low ds j HND.out.sm (by have := HL.out; omega) hj2
        have E1 := (show Hid _ from e1)
        have E2 := (show Hid _ from e2)
        clear e1 e2
        go_wp2_with fail
        exact ⟨⟨j + 1, by omega, by go_num, by rw [E1.out], by rw [E2.out]⟩, by simp [intOf]; omega⟩
      · obtain ⟨e1, e2⟩ := dec_high ds j HND.out.sm (by have := HL.out; omega) (by omega) (by omega)
        have E1 := (show Hid _ from e1)
        have E2 := (show Hid _ from e2)
        clear e1 e2
        go_wp2_with fail
        exact ⟨⟨j + 1, by omega, by go_num, by rw [E2.out], by rw [E1.out]⟩, by simp [intOf]; omega⟩
    · obtain rfl : j = N := by omega
      rw [val_take_past ds j (by have := HL.out; omega), HV.out]
      obtain ⟨E1, E2⟩ := dec_words' (inr_abs HZ.out) _ hXe.out
      rw [E2]
      have HE1 := (show Hid _ from E1)
      clear E1 E2 HV hXe hXlt
      have V := ((HR.out.set0 (.int .i64 (dhi z))).set1 (.int .u64 (dlo z))).set2 (.int .i64 s)
      have HB := (show Hid _ from ((HW.out.setCell (p := ⟨p + 1, 0, none⟩) (by have := HP.out; show _ ≤ p + 1; omega) (.int .i64 (dhi z))).setCell (p := ⟨p + 1, 1, none⟩) (by have := HP.out; show _ ≤ p + 1; omega) (.int .u64 (dlo z))).setCell (p := ⟨p + 1, 2, none⟩) (by have := HP.out; show _ ≤ p + 1; omega) (.int .i64 s))
      have HV := (show Hid _ from V)
      clear V
      go_wp2_with fail
      rw [HE1.out]
      have c0 := HV.out.c0
      have c1 := HV.out.c1
      have c2 := HV.out.c2
      clear HV r0 r1 r2 f0 f1 f2 x0 x1 HR HW
      generalize ((w2.setCell ⟨p + 1, 0, none⟩ (.int .i64 (dhi z))).setCell ⟨p + 1, 1, none⟩ (.int .u64 (dlo z))).setCell ⟨p + 1, 2, none⟩ (.int .i64 s) = Z at *
      refine bodyPost_ret (v := .tuple #[.agg #[.int .i64 (dhi z), .int .u64 (dlo z), .int .i64 s], .int .i64 0]) (by simp [results, Tryd.results57, go_sem, *]) rfl ⟨rfl, HB.out⟩
set_option maxHeartbeats 1000000 in
set_option maxRecDepth 100000 in
theorem decr_neg (v : Value) (z s : Int) (w : World) (h : In w v z) (hz : InR z) (h0 : z < 0) :
    Calls Tryd.prog 57 #[v, .int .i64 s] w fun e w' => e = .returned (.tuple #[.agg #[.int .i64 (dhi z), .int .u64 (dlo z), .int .i64 s], .int .i64 0]) ∧ Below w.heap.size w w' := by
  obtain ⟨m, a, n, k, rfl, hn, ha, hb⟩ := h.form
  have HZ : Hid (InR z) := hz
  have H := (show Hid _ from h)
  have HN := (show Hid _ from hn)
  have H0 := (show Hid _ from h0)
  clear hz ha hb h hn h0
  go_enter Tryd.func57, Tryd.ntmps57
  go_wp2_with fail
  refine (size_ok _ _ _ ((HN.out.alloc _).alloc _)).mono ?_
  rintro e w1 ⟨⟨t, rfl, ht, ht2⟩, rfl⟩
  have h127 := small_size ht (inr_abs HZ.out)
  clear ht
  go_wp2_with fail
  have A := ((v2_new w (.bool m) (.slice a n k) 29).alloc (.cells #[.int .i64 0, .int .u64 0, .int .i64 0] 37)).alloc (.cells #[.bool m, .slice a n k] 29)
  have R := (v3_new (w.alloc (.cells #[.bool m, .slice a n k] 29)) (.int .i64 0) (.int .u64 0) (.int .i64 0) 37).alloc (.cells #[.bool m, .slice a n k] 29)
  have X := v2_new ((w.alloc (.cells #[.bool m, .slice a n k] 29)).alloc (.cells #[.int .i64 0, .int .u64 0, .int .i64 0] 37)) (.bool m) (.slice a n k) 29
  rw [size_al] at R
  rw [size_al, size_al] at X
  have hW := bel_al (bel_al (bel_al (Below.refl _ w) (.cells #[.bool m, .slice a n k] 29)) (.cells #[.int .i64 0, .int .u64 0, .int .i64 0] 37)) (.cells #[.bool m, .slice a n k] 29)
  have h := H.out.step hW
  refine (sign_in _ z _ h).mono ?_
  rintro e w2 ⟨rfl, hb2⟩
  replace A := A.step hb2
  replace R := R.step hb2
  replace X := X.step hb2
  replace h := h.step hb2
  replace hW := hW.trans (hb2.mono hW.size)
  clear hb2
  obtain ⟨p, hp⟩ : ∃ p, p = w.heap.size := ⟨_, rfl⟩
  have HP : Hid (p = w.heap.size) := hp
  rw [← hp] at A R X
  rw [← hp]
  clear hp
  have hs : sgn z < 0 := by have := H0.out; unfold sgn; rw [if_pos this]; decide
  generalize sgn z = sg at *
  have lA := A.lt
  have lR := R.lt
  have lX := X.lt
  have HS : Hid (z + 340282366920938463463374607431768211456 = ((z + 340282366920938463463374607431768211456).natAbs : Int)) := by have := inr_abs HZ.out; rw [M127_eq] at this; show _ = _; omega
  have hXlt : Hid ((z + 340282366920938463463374607431768211456).natAbs < 340282366920938463463374607431768211456) := by have h9 := inr_abs HZ.out; rw [M127_eq] at h9; have := H0.out; show _ < _; omega
  have hXe : Hid (((z + 340282366920938463463374607431768211456).natAbs : Int) = if z < 0 then z + 340282366920938463463374607431768211456 else z) := by have := HS.out; have := H0.out; show _ = _; rw [if_pos (by omega)]; omega
  have MZ : Mi z := mi_of (k := 127) (by have := inr_abs HZ.out; rw [M127_eq] at this; omega) (by omega)
  have M2 : Mi 340282366920938463463374607431768211456 := mi_of (k := 129) (by decide) (by omega)
  clear H HN
  go_wp2_with fail
  go_region_held3 (fun w' => w'.cell? ⟨p, 0, none⟩ = some (.bool m) ∧ w'.cell? ⟨p, 1, none⟩ = some (.slice a n k))
    (first | exact ⟨A.c0, A.c1⟩ | exact ⟨A.drew.c0, A.drew.c1⟩ | exact ⟨A5.c0, A5.c1⟩ | exact ⟨A4.c0, A4.c1⟩ | exact ⟨A3.c0, A3.c1⟩ | exact ⟨(cell_put (by omega)).trans A5.c0, (cell_put (by omega)).trans A5.c1⟩)
    (first
      | (go_at_call 54; refine (word_ok 1 _ (by omega) (by omega)).mono ?_; rintro e w3 ⟨⟨r, rfl, hr⟩, hb⟩; have A3 := A.drew.step hb; have R3 := R.drew.step hb; have X3 := X.drew.step hb; have h3 := h.drew.step hb; have hW3 := hW.trans ((bel_of_drew hb).mono hW.size))
      | (go_at_call 71; refine (left_ok _ 1 128 _ hr (md_of (k := 1) (by decide) (by omega)) (by omega)).mono ?_; rintro e w4 ⟨⟨r4, rfl, hr4⟩, hb4⟩; obtain ⟨ra, rn, rc, rfl⟩ := hr4.form; have A4 := A3.step hb4; have R4 := R3.step hb4; have X4 := X3.step hb4; have h4 := h3.step hb4; have hW4 := hW3.trans (hb4.mono hW3.size))
      | (go_at_call 32; refine (sum_in _ _ z 340282366920938463463374607431768211456 _ h4 (in_mk (by exact hr4) (fun _ => rfl) (fun h => by omega)) MZ M2).mono ?_; rintro e w5 ⟨⟨r5, rfl, hr5⟩, hb5⟩; have A5 := A4.step hb5; have R5 := R4.step hb5; have X5 := X4.step hb5; have hW5 := hW4.trans (hb5.mono hW4.size); obtain ⟨m5, a5, n5, k5, rfl, hn5, ha5, hb6⟩ := hr5.form; have x0 := X5.c0; have x1 := X5.c1; have f0 := X5.free 0; have f1 := X5.free 1))
  have hn := hn5.put X5 (by decide) (.bool m5) (.slice a5 n5 k5)
  have R := (R5.keep (p + 2) (by omega) (.bool m5) (.slice a5 n5 k5))
  have X := (X5.set0 (.bool m5)).set1 (.slice a5 n5 k5)
  have hW := bel_put hW5 (p := p + 2) (by have := HP.out; omega) (.bool m5) (.slice a5 n5 k5)
  clear A A3 A4 A5 R3 R4 R5 X3 X4 X5 hr hr4 hb hb4 hb5 hW3 hW4 hW5 h h3 h4 x0 x1 f0 f1 hn5 hr5 lA lR lX
  generalize (w5.setCell ⟨p + 2, 0, none⟩ (.bool m5)).setCell ⟨p + 2, 1, none⟩ (.slice a5 n5 k5) = w6 at *
  have x0 := X.c0
  have x1 := X.c1
  have r0 := R.c0
  have r1 := R.c1
  have r2 := R.c2
  have f0 := R.free 0
  have f1 := R.free 1
  have f2 := R.free 2
  have HR := (show Hid _ from R)
  have HW := (show Hid _ from hW)
  clear R X hW
  obtain ⟨ds, ⟨hm, a', c', e', hlc, hx⟩, hnd, hval⟩ := hn
  cases e'
  have HX := (show Hid _ from hx)
  have HND : Hid (Nd ds) := hnd
  have HV := (show Hid _ from hval)
  have h4 := len4 hnd (by rw [hval]; exact hXlt.out)
  clear hx hnd hval
  obtain ⟨N, hN⟩ : ∃ N, N = ds.length := ⟨_, rfl⟩
  have HL : Hid (N = ds.length) := hN
  rw [← hN] at hm hlc h4 x1
  try rw [← hN]
  clear hN
  go_wp2_with fail
  go_loop [7, 8, 28] (fun lo hi i => ∃ j : Nat, j ≤ N ∧ i = .int .i64 j ∧ lo = .int .u64 (m64 (val (ds.take j))) ∧ hi = .int .u64 (h64 (val (ds.take j)))) (fun _ _ i => N - (intOf i).toNat)
  case atStart => exact ⟨0, by omega, rfl, rfl, by simp [h64, val]⟩
  case round =>
    obtain ⟨j, hj, rfl, rfl, rfl⟩ := hrel
    by_cases hjN : j < N
    · obtain ⟨b, off, rfl, ⟨hb, _⟩, hc⟩ := HX.out (by have := HL.out; omega)
      have hcell := hc j (by have := HL.out; omega)
      have b1 := dg_bd HND.out.sm j
      clear hc HX
      by_cases hj2 : j < 2
      · obtain ⟨e1, e2⟩ := dec_low ds j HND.out.sm (by have := HL.out; omega) hj2
        have E1 := (show Hid _ from e1)
        have E2 := (show Hid _ from e2)
        clear e1 e2
        go_wp2_with fail
        exact ⟨⟨j + 1, by omega, by go_num, by rw [E1.out], by rw [E2.out]⟩, by simp [intOf]; omega⟩
      · obtain ⟨e1, e2⟩ := dec_high ds j HND.out.sm (by have := HL.out; omega) (by omega) (by omega)
        have E1 := (show Hid _ from e1)
        have E2 := (show Hid _ from e2)
        clear e1 e2
        go_wp2_with fail
        exact ⟨⟨j + 1, by omega, by go_num, by rw [E2.out], by rw [E1.out]⟩, by simp [intOf]; omega⟩
    · obtain rfl : j = N := by omega
      rw [val_take_past ds j (by have := HL.out; omega), HV.out]
      obtain ⟨E1, E2⟩ := dec_words' (inr_abs HZ.out) _ hXe.out
      rw [E2]
      have HE1 := (show Hid _ from E1)
      clear E1 E2 HV hXe hXlt
      have V := ((HR.out.set0 (.int .i64 (dhi z))).set1 (.int .u64 (dlo z))).set2 (.int .i64 s)
      have HB := (show Hid _ from ((HW.out.setCell (p := ⟨p + 1, 0, none⟩) (by have := HP.out; show _ ≤ p + 1; omega) (.int .i64 (dhi z))).setCell (p := ⟨p + 1, 1, none⟩) (by have := HP.out; show _ ≤ p + 1; omega) (.int .u64 (dlo z))).setCell (p := ⟨p + 1, 2, none⟩) (by have := HP.out; show _ ≤ p + 1; omega) (.int .i64 s))
      have HV := (show Hid _ from V)
      clear V
      go_wp2_with fail
      rw [HE1.out]
      have c0 := HV.out.c0
      have c1 := HV.out.c1
      have c2 := HV.out.c2
      clear HV r0 r1 r2 f0 f1 f2 x0 x1 HR HW
      generalize ((w6.setCell ⟨p + 1, 0, none⟩ (.int .i64 (dhi z))).setCell ⟨p + 1, 1, none⟩ (.int .u64 (dlo z))).setCell ⟨p + 1, 2, none⟩ (.int .i64 s) = Z at *
      refine bodyPost_ret (v := .tuple #[.agg #[.int .i64 (dhi z), .int .u64 (dlo z), .int .i64 s], .int .i64 0]) (by simp [results, Tryd.results57, go_sem, *]) rfl ⟨rfl, HB.out⟩
theorem decr_ok (v : Value) (z s : Int) (w : World) (h : In w v z) (hz : InR z) :
    Calls Tryd.prog 57 #[v, .int .i64 s] w fun e w' => e = .returned (.tuple #[.agg #[.int .i64 (dhi z), .int .u64 (dlo z), .int .i64 s], .int .i64 0]) ∧ Below w.heap.size w w' := by
  rcases Int.lt_or_le z 0 with h0 | h0
  · exact decr_neg v z s w h hz h0
  · exact decr_pos v z s w h hz h0

end Go.Proofs.YtlgcbbnnldlooaaDoor
/- The document's decimals: the contracts of At, DocSign, DocNeg, DocCmp, DocAdd. -/
namespace Go.Proofs.YtlgcbbnnldlooaaDoor
open Go.RowKit
set_option linter.unusedVariables false
attribute [local go_sem ↓] Go.wp_at_zero Go.wp_at_succ

theorem ten_z (K : Int) (w : World) (h0 : 0 ≤ K) (h1 : K ≤ 38) :
    Calls Tryd.prog 34 #[.int .i64 K] w fun e w' => (∃ r, e = .returned r ∧ Nm w' r (10 ^ K.toNat)) ∧ Below w.heap.size w w' := by
  obtain ⟨N, rfl⟩ := Int.eq_ofNat_of_zero_le h0
  rw [Int.toNat_natCast]
  exact ten_ok N w (by omega)
theorem inr_mi {c : Int} (h : InR c) : Mi c := mi_of (k := 127) (by have := inr_abs h; rw [M127_eq] at this; omega) (by omega)
theorem ten_mi (k : Nat) (h : k ≤ 40) : Mi ((10 : Int) ^ k) := by
  have e : ((10 : Int) ^ k).natAbs = 10 ^ k := by rw [Int.natAbs_pow]; rfl
  unfold Mi
  rw [e]
  exact ten_md k h
theorem ten_abs (k : Nat) : ((10 : Int) ^ k).natAbs = 10 ^ k := by rw [Int.natAbs_pow]; rfl
theorem ten_pos (k : Nat) : (0 : Int) < 10 ^ k := Int.pow_pos (by decide)
set_option maxHeartbeats 1000000 in
set_option maxRecDepth 100000 in
theorem at_ok (c : Int) (s : Nat) (t : Int) (w : World) (ic : InR c) (h1 : (s : Int) ≤ t) (h2 : t ≤ 18) :
    Calls Tryd.prog 51 #[.agg #[.int .i64 (dhi c), .int .u64 (dlo c), .int .i64 s], .int .i64 t] w fun e w' => (∃ r, e = .returned r ∧ In w' r (c * 10 ^ (t - s).toNat)) ∧ Below w.heap.size w w' := by
  have D := (v3_new w (.int .i64 (dhi c)) (.int .u64 (dlo c)) (.int .i64 s) 37).alloc (.cells #[.bool false, .slice none 0 0] 29)
  have R := v2_new (w.alloc (.cells #[.int .i64 (dhi c), .int .u64 (dlo c), .int .i64 s] 37)) (.bool false) (.slice none 0 0) 29
  rw [size_al] at R
  have hW := bel_al (bel_al (Below.refl _ w) (.cells #[.int .i64 (dhi c), .int .u64 (dlo c), .int .i64 s] 37)) (.cells #[.bool false, .slice none 0 0] 29)
  have hw : IntKind.i64.wrap (t - s) = t - s := by rw [IntKind.wrap_i64]; omega
  go_enter Tryd.func51, Tryd.ntmps51
  go_wp2_with fail
  generalize (w.alloc (.cells #[.int .i64 (dhi c), .int .u64 (dlo c), .int .i64 s] 37)).alloc (.cells #[.bool false, .slice none 0 0] 29) = W at *
  obtain ⟨p, hp⟩ : ∃ p, p = w.heap.size := ⟨_, rfl⟩
  have HP : Hid (p = w.heap.size) := hp
  rw [← hp] at D R
  rw [← hp]
  clear hp
  have lD := D.lt
  have lR := R.lt
  go_region_held3 (fun w' => w'.cell? ⟨p, 0, none⟩ = some (.int .i64 (dhi c)) ∧ w'.cell? ⟨p, 1, none⟩ = some (.int .u64 (dlo c)) ∧ w'.cell? ⟨p, 2, none⟩ = some (.int .i64 s))
    (first | exact ⟨D.c0, D.c1, D.c2⟩ | exact ⟨D.drew.c0, D.drew.c1, D.drew.c2⟩ | exact ⟨D4.c0, D4.c1, D4.c2⟩ | exact ⟨D3.c0, D3.c1, D3.c2⟩ | exact ⟨D2.c0, D2.c1, D2.c2⟩ | exact ⟨(cell_put (by omega)).trans D4.c0, (cell_put (by omega)).trans D4.c1, (cell_put (by omega)).trans D4.c2⟩)
    (first
      | (go_at_call 66; refine (coef_ok c s _ ic).mono ?_; rintro e w2 ⟨⟨r, rfl, hr⟩, hb⟩; have D2 := D.drew.step hb; have R2 := R.drew.step hb; have hW2 := hW.trans ((bel_of_drew hb).mono hW.size))
      | (go_at_call 34; refine (ten_z _ _ (by omega) (by omega)).mono ?_; rintro e w3 ⟨⟨r3, rfl, hr3⟩, hb3⟩; obtain ⟨ra, rn, rc, rfl⟩ := hr3.form; have D3 := D2.step hb3; have R3 := R2.step hb3; have h3 := hr.step hb3; have hW3 := hW2.trans (hb3.mono hW2.size))
      | (go_at_call 65; refine (prod_in _ _ c (10 ^ (t - s).toNat) _ h3 (in_mk (by rw [ten_abs]; exact hr3) (fun _ => rfl) (fun h => by have := ten_pos (t - s).toNat; omega)) (inr_mi ic) (ten_mi _ (by omega))).mono ?_; rintro e w4 ⟨⟨r4, rfl, hr4⟩, hb4⟩; have D4 := D3.step hb4; have R4 := R3.step hb4; have hW4 := hW3.trans (hb4.mono hW3.size); obtain ⟨m4, a4, n4, k4, rfl, hn4, ha4, hb5⟩ := hr4.form; have r0 := R4.c0; have r1 := R4.c1; have f0 := R4.free 0; have f1 := R4.free 1))
  have V := (R4.set0 (.bool m4)).set1 (.slice a4 n4 k4)
  have hF := hn4.put R4 (by decide) (.bool m4) (.slice a4 n4 k4)
  have hB := bel_put hW4 (p := p + 1) (by have := HP.out; omega) (.bool m4) (.slice a4 n4 k4)
  have HF := (show Hid _ from in_mk hF ha4 hb5)
  have HB := (show Hid _ from hB)
  clear hF hB D D2 D3 D4 R R2 R3 R4 r0 r1 f0 f1 hr hr3 hr4 hW hW2 hW3 hW4 hb hb3 hb4 hn4 lD lR hw
  generalize (w4.setCell ⟨p + 1, 0, none⟩ (.bool m4)).setCell ⟨p + 1, 1, none⟩ (.slice a4 n4 k4) = Z at *
  have c0 := V.c0
  have c1 := V.c1
  clear V
  go_wp2_with fail
  refine bodyPost_ret (v := .agg #[.bool m4, .slice a4 n4 k4]) (by simp [results, Tryd.results51, go_sem, *]) rfl ⟨⟨_, rfl, HF.out⟩, HB.out⟩
end Go.Proofs.YtlgcbbnnldlooaaDoor
