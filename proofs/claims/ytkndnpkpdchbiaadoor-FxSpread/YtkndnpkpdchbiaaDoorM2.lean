/- The document's whole numbers as such: In; the contracts of Sign, Order, Coef, Dec. -/
import Derived.Test.YtkndnpkpdchbiaaDoorUi
import Derived.Test.YtkndnpkpdchbiaaDoorPg
namespace Go.Proofs.YtkndnpkpdchbiaaDoor
open Go.RowKit
set_option linter.unusedVariables false
attribute [local go_sem ↓] Go.wp_at_zero Go.wp_at_succ

/-- The value v is the whole number z. -/
structure In (w : World) (v : Value) (z : Int) : Prop where
  ex : ∃ m, Wn w v m z.natAbs ∧ (0 < z → m = false) ∧ (z < 0 → m = true)
theorem In.step {w w' : World} {v : Value} {z : Int} (h : In w v z) (k : Below w.heap.size w w') : In w' v z := by
  obtain ⟨m, n, a, b⟩ := h
  exact ⟨m, n.step k, a, b⟩
theorem In.drew {w : World} {v : Value} {z : Int} (h : In w v z) : In w.drew v z := h.step ((Below.refl _ _).drew)
theorem In.alloc {w : World} {v : Value} {z : Int} (h : In w v z) (o : Obj) : In (w.alloc o) v z := h.step ((Below.refl _ _).alloc (Nat.le_refl _) o)
theorem In.form {w : World} {v : Value} {z : Int} (h : In w v z) : ∃ m a n c, v = .agg #[.bool m, .slice a n c] ∧ Nm w (.slice a n c) z.natAbs ∧ (0 < z → m = false) ∧ (z < 0 → m = true) := by
  obtain ⟨m, ⟨s, rfl, hn⟩, a, b⟩ := h
  obtain ⟨x, y, c, rfl⟩ := hn.form
  exact ⟨m, x, y, c, rfl, hn, a, b⟩
theorem in_mk {w : World} {m : Bool} {s : Value} {z : Int} (h : Nm w s z.natAbs) (a : 0 < z → m = false) (b : z < 0 → m = true) : In w (.agg #[.bool m, s]) z := ⟨m, wn_mk h, a, b⟩
theorem made_in (n : Int) (w : World) (h0 : -9223372036854775808 ≤ n) (h1 : n ≤ 9223372036854775807) :
    Calls Tryd.prog 27 #[.int .i64 n] w fun e w' => (∃ v, e = .returned v ∧ In w' v n) ∧ Below w.heap.size w w' := by
  refine (made_ok n w h0 h1).mono ?_
  rintro e w1 ⟨⟨v, rfl, hv⟩, hb⟩
  exact ⟨⟨v, rfl, _, hv, fun h => by simp; omega, fun h => by simp [h]⟩, hb⟩
/-- Its size is small enough. -/
def Mi (z : Int) : Prop := Md z.natAbs
theorem prod_in (v u : Value) (y z : Int) (w : World) (h : In w v y) (h2 : In w u z) (hy : Mi y) (hz : Mi z) :
    Calls Tryd.prog 26 #[v, u] w fun e w' => (∃ r, e = .returned r ∧ In w' r (y * z)) ∧ Below w.heap.size w w' := by
  obtain ⟨m, hw, a, b⟩ := h
  obtain ⟨k, hw2, a2, b2⟩ := h2
  refine (product_ok v u m k _ _ w hw hw2 hy hz).mono ?_
  rintro e w1 ⟨⟨r, rfl, hr⟩, hb⟩
  refine ⟨⟨r, rfl, _, (by rw [Int.natAbs_mul]; exact hr), fun h => ?_, fun h => ?_⟩, hb⟩
  · rcases Int.lt_or_le y 0 with hy | hy
    · have hz' : z < 0 := by
        rcases Int.lt_or_le z 0 with hz | hz
        · exact hz
        · have := Int.mul_nonpos_of_nonpos_of_nonneg (Int.le_of_lt hy) hz; omega
      rw [b hy, b2 hz']; rfl
    · have hz' : 0 < z := by
        rcases Int.lt_or_le 0 z with hz | hz
        · exact hz
        · have := Int.mul_nonpos_of_nonneg_of_nonpos hy hz; omega
      have hy' : 0 < y := by
        rcases Int.lt_or_le 0 y with h1 | h1
        · exact h1
        · obtain rfl : y = 0 := by omega
          simp at h
      rw [a hy', a2 hz']; rfl
  · rcases Int.lt_or_le y 0 with hy | hy
    · have hz' : 0 < z := by
        rcases Int.lt_or_le 0 z with hz | hz
        · exact hz
        · have := Int.mul_nonneg_of_nonpos_of_nonpos (Int.le_of_lt hy) hz; omega
      rw [b hy, a2 hz']; rfl
    · have hz' : z < 0 := by
        rcases Int.lt_or_le z 0 with hz | hz
        · exact hz
        · have := Int.mul_nonneg hy hz; omega
      have hy' : 0 < y := by
        rcases Int.lt_or_le 0 y with h1 | h1
        · exact h1
        · obtain rfl : y = 0 := by omega
          simp at h
      rw [a hy', b2 hz']; rfl
end Go.Proofs.YtkndnpkpdchbiaaDoor
/- The document's whole numbers: the contracts of Coef, Order, Dec, At. -/
namespace Go.Proofs.YtkndnpkpdchbiaaDoor
open Go.RowKit
set_option linter.unusedVariables false
attribute [local go_sem ↓] Go.wp_at_zero Go.wp_at_succ

/-- a block of three cells, known whole -/
structure V3 (w : World) (p : Nat) (x y z : Value) (T : TypeId) : Prop where
  blk : w.heap[p]? = some (.cells #[x, y, z] T (0, 0))
theorem V3.c0 {w : World} {p : Nat} {x y z : Value} {T : TypeId} (h : V3 w p x y z T) : w.cell? ⟨p, 0, none⟩ = some x := by rw [cell_of_row w p 0 _ _ _ h.blk]; rfl
theorem V3.c1 {w : World} {p : Nat} {x y z : Value} {T : TypeId} (h : V3 w p x y z T) : w.cell? ⟨p, 1, none⟩ = some y := by rw [cell_of_row w p 1 _ _ _ h.blk]; rfl
theorem V3.c2 {w : World} {p : Nat} {x y z : Value} {T : TypeId} (h : V3 w p x y z T) : w.cell? ⟨p, 2, none⟩ = some z := by rw [cell_of_row w p 2 _ _ _ h.blk]; rfl
theorem V3.free {w : World} {p : Nat} {x y z : Value} {T : TypeId} (h : V3 w p x y z T) (o : Nat) : w.frozen? ⟨p, o, none⟩ = false := frozen_of_row w p o _ _ h.blk
theorem V3.lt {w : World} {p : Nat} {x y z : Value} {T : TypeId} (h : V3 w p x y z T) : p < w.heap.size := by
  rcases Nat.lt_or_ge p w.heap.size with hlt | hge
  · exact hlt
  · have := h.blk; rw [Array.getElem?_eq_none hge] at this; cases this
theorem V3.step {w w' : World} {p : Nat} {x y z : Value} {T : TypeId} (h : V3 w p x y z T) (k : Below w.heap.size w w') : V3 w' p x y z T := ⟨by rw [k.block p h.lt]; exact h.blk⟩
theorem v3_new (w : World) (x y z : Value) (T : TypeId) : V3 (w.alloc (.cells #[x, y, z] T)) w.heap.size x y z T := ⟨heap_alloc_new w _⟩
theorem V3.alloc {w : World} {p : Nat} {x y z : Value} {T : TypeId} (h : V3 w p x y z T) (o : Obj) : V3 (w.alloc o) p x y z T := h.step ((Below.refl _ _).alloc (Nat.le_refl _) o)
theorem V3.drew {w : World} {p : Nat} {x y z : Value} {T : TypeId} (h : V3 w p x y z T) : V3 w.drew p x y z T := ⟨h.blk⟩
theorem V3.set0 {w : World} {p : Nat} {x y z : Value} {T : TypeId} (h : V3 w p x y z T) (u : Value) : V3 (w.setCell ⟨p, 0, none⟩ u) p u y z T := ⟨by rw [heap_setCell_same w p 0 _ _ u h.blk]; rfl⟩
theorem V3.set1 {w : World} {p : Nat} {x y z : Value} {T : TypeId} (h : V3 w p x y z T) (u : Value) : V3 (w.setCell ⟨p, 1, none⟩ u) p x u z T := ⟨by rw [heap_setCell_same w p 1 _ _ u h.blk]; rfl⟩
theorem V3.set2 {w : World} {p : Nat} {x y z : Value} {T : TypeId} (h : V3 w p x y z T) (u : Value) : V3 (w.setCell ⟨p, 2, none⟩ u) p x y u T := ⟨by rw [heap_setCell_same w p 2 _ _ u h.blk]; rfl⟩
theorem In.put {w : World} {v : Value} {z : Int} (h : In w v z) {p : Nat} {x y : Value} {T : TypeId} (hp : V2 w p x y T) (hT : T ≠ 33) (c d : Value) : In ((w.setCell ⟨p, 0, none⟩ c).setCell ⟨p, 1, none⟩ d) v z := by
  obtain ⟨m, ⟨s, e, hn⟩, a, b⟩ := h
  exact ⟨m, ⟨s, e, hn.put hp hT c d⟩, a, b⟩
theorem mi_of {z : Int} {k : Nat} (h : z.natAbs < 2 ^ k) (hk : k ≤ 1024) : Mi z := md_of h hk
theorem dhi_mi (c : Int) (ic : InR c) : -9223372036854775808 ≤ dhi c ∧ dhi c ≤ 9223372036854775807 := dhi_bd ic
theorem coef_parts {c : Int} (ic : InR c) {m : Bool} (a : 0 < dhi c → m = false) (b : dhi c < 0 → m = true) : ∃ y : Int, y.natAbs = (dhi c).natAbs * 2 ^ 64 ∧ (0 < y → m = false) ∧ (y < 0 → m = true) ∧ y + dlo c = c ∧ Mi y := by
  refine ⟨dhi c * 18446744073709551616, by rw [Int.natAbs_mul]; rfl, fun h => a (by omega), fun h => b (by omega), by unfold dhi dlo; omega, ?_⟩
  have := dhi_bd ic
  exact mi_of (k := 128) (by rw [Int.natAbs_mul]; show (dhi c).natAbs * 18446744073709551616 < _; omega) (by omega)
theorem lo_mi (c : Int) : Mi (dlo c) := mi_of (k := 64) (by have := dlo_bd c; omega) (by omega)
end Go.Proofs.YtkndnpkpdchbiaaDoor
/- The document's decimals: the contracts of Form, Dec. -/
namespace Go.Proofs.YtkndnpkpdchbiaaDoor
open Go.RowKit
set_option linter.unusedVariables false
attribute [local go_sem ↓] Go.wp_at_zero Go.wp_at_succ

theorem big_size {x t : Nat} (h : IsSize x t) (hx : M127 ≤ (x : Int)) : 127 < t := isSize_above h (by rw [M127_eq] at hx; omega)
theorem small_size {x t : Nat} (h : IsSize x t) (hx : (x : Int) < M127) : t ≤ 127 := isSize_bound h (by rw [M127_eq] at hx; omega)
end Go.Proofs.YtkndnpkpdchbiaaDoor
/- The document's decimals: the contract of Dec in range. -/
namespace Go.Proofs.YtkndnpkpdchbiaaDoor
open Go.RowKit
set_option linter.unusedVariables false
attribute [local go_sem ↓] Go.wp_at_zero Go.wp_at_succ

def h64 (x : Nat) : Int := ((x / 18446744073709551616 : Nat) : Int)
theorem pw_1 : pw 1 = 4294967296 := rfl
theorem pw_2 : pw 2 = 18446744073709551616 := rfl
theorem pw_3 : pw 3 = 79228162514264337593543950336 := rfl
theorem dec_low (ds : List Nat) (k : Nat) (hd : Sm ds) (hk : k < ds.length) (h2 : k < 2) :
    IntKind.u64.wrap (m64 (val (ds.take k)) + IntKind.u64.wrap (dg ds k * 2 ^ (32 * k))) = m64 (val (ds.take (k + 1))) ∧ h64 (val (ds.take (k + 1))) = h64 (val (ds.take k)) := by
  have h1 := val_lt (sm_take k hd)
  have hs := sm_getD k hd
  rw [List.length_take, Nat.min_eq_left (by omega)] at h1
  rw [val_take_succ ds k hk, IntKind.wrap_u64, IntKind.wrap_u64]
  unfold m64 h64 dg
  rcases (show k = 0 ∨ k = 1 by omega) with rfl | rfl
  · rw [pw_zero] at *
    simp only [Nat.mul_zero, Int.pow_zero]
    omega
  · rw [pw_1] at *
    rw [show (2 : Int) ^ (32 * 1) = 4294967296 from rfl]
    omega
theorem dec_high (ds : List Nat) (k : Nat) (hd : Sm ds) (hk : k < ds.length) (h2 : 2 ≤ k) (h4 : k < 4) :
    IntKind.u64.wrap (h64 (val (ds.take k)) + IntKind.u64.wrap (dg ds k * 2 ^ (32 * (k - 2)))) = h64 (val (ds.take (k + 1))) ∧ m64 (val (ds.take (k + 1))) = m64 (val (ds.take k)) := by
  have h1 := val_lt (sm_take k hd)
  have hs := sm_getD k hd
  rw [List.length_take, Nat.min_eq_left (by omega)] at h1
  rw [val_take_succ ds k hk, IntKind.wrap_u64, IntKind.wrap_u64]
  unfold m64 h64 dg
  rcases (show k = 2 ∨ k = 3 by omega) with rfl | rfl
  · rw [pw_2] at *
    simp only [Nat.sub_self, Nat.mul_zero, Int.pow_zero]
    omega
  · rw [pw_3] at *
    rw [show (2 : Int) ^ (32 * (3 - 2)) = 4294967296 from rfl]
    omega
theorem dec_words' {z : Int} (hz : (z.natAbs : Int) < M127) (X : Nat) (hX : (X : Int) = if z < 0 then z + 340282366920938463463374607431768211456 else z) : wrap64 (h64 X) = dhi z ∧ m64 X = dlo z := by
  rw [M127_eq] at hz
  unfold h64 m64 dhi dlo wrap64
  split at hX <;> omega
theorem len4 {ds : List Nat} (h : Nd ds) (hx : val ds < 340282366920938463463374607431768211456) : ds.length ≤ 4 := by
  by_cases hl : 4 < ds.length
  · have h1 := h.top (by omega)
    have h2 := pw_mono (show 4 ≤ ds.length - 1 by omega)
    have : pw 4 = 340282366920938463463374607431768211456 := by decide
    omega
  · omega
theorem V3.keep {w : World} {q : Nat} {x y z : Value} {T : TypeId} (h : V3 w q x y z T) (p : Nat) (hp : q ≠ p) (c d : Value) : V3 ((w.setCell ⟨p, 0, none⟩ c).setCell ⟨p, 1, none⟩ d) q x y z T := by
  have h1 : (w.setCell ⟨p, 0, none⟩ c).heap[q]? = w.heap[q]? := Below.heap_setCell _ _ _ _ hp
  have h2 : ((w.setCell ⟨p, 0, none⟩ c).setCell ⟨p, 1, none⟩ d).heap[q]? = (w.setCell ⟨p, 0, none⟩ c).heap[q]? := Below.heap_setCell _ _ _ _ hp
  exact ⟨by rw [h2, h1]; exact h.blk⟩
theorem inr_abs {z : Int} (h : InR z) : (z.natAbs : Int) < M127 := by have := h.lo; have := h.hi; omega
theorem inr_of {z : Int} (h : (z.natAbs : Int) < M127) : InR z := ⟨by omega, by omega⟩
end Go.Proofs.YtkndnpkpdchbiaaDoor
/- The document's decimals: the contracts of At, DocSign, DocNeg, DocCmp, DocAdd. -/
namespace Go.Proofs.YtkndnpkpdchbiaaDoor
open Go.RowKit
set_option linter.unusedVariables false
attribute [local go_sem ↓] Go.wp_at_zero Go.wp_at_succ

theorem inr_mi {c : Int} (h : InR c) : Mi c := mi_of (k := 127) (by have := inr_abs h; rw [M127_eq] at this; omega) (by omega)
theorem ten_mi (k : Nat) (h : k ≤ 40) : Mi ((10 : Int) ^ k) := by
  have e : ((10 : Int) ^ k).natAbs = 10 ^ k := by rw [Int.natAbs_pow]; rfl
  unfold Mi
  rw [e]
  exact ten_md k h
theorem ten_abs (k : Nat) : ((10 : Int) ^ k).natAbs = 10 ^ k := by rw [Int.natAbs_pow]; rfl
theorem ten_pos (k : Nat) : (0 : Int) < 10 ^ k := Int.pow_pos (by decide)
end Go.Proofs.YtkndnpkpdchbiaaDoor
/- The document's decimals: the contracts of DocNeg, DocCmp; decimals out of form. -/
namespace Go.Proofs.YtkndnpkpdchbiaaDoor
open Go.RowKit
set_option linter.unusedVariables false
attribute [local go_sem ↓] Go.wp_at_zero Go.wp_at_succ

theorem cell_put3 {w : World} {p q o : Nat} {c d f : Value} (h : q ≠ p) : (((w.setCell ⟨p, 0, none⟩ c).setCell ⟨p, 1, none⟩ d).setCell ⟨p, 2, none⟩ f).cell? ⟨q, o, none⟩ = w.cell? ⟨q, o, none⟩ := by
  have h3 : (((w.setCell ⟨p, 0, none⟩ c).setCell ⟨p, 1, none⟩ d).setCell ⟨p, 2, none⟩ f).heap[q]? = ((w.setCell ⟨p, 0, none⟩ c).setCell ⟨p, 1, none⟩ d).heap[q]? := Below.heap_setCell _ _ _ _ h
  exact (World.cell?_of_block (w := (w.setCell ⟨p, 0, none⟩ c).setCell ⟨p, 1, none⟩ d) (a := ⟨q, o, none⟩) h3).trans (cell_put h)
end Go.Proofs.YtkndnpkpdchbiaaDoor
/- The document's decimals: the contracts of DocCmp and DocAdd in form. -/
namespace Go.Proofs.YtkndnpkpdchbiaaDoor
open Go.RowKit
set_option linter.unusedVariables false
attribute [local go_sem ↓] Go.wp_at_zero Go.wp_at_succ

theorem tv_at (ca cb : Int) (sa sb : Nat) (M : Int) (hM : M = max (sa : Int) sb) : ca * 10 ^ (M - sa).toNat = ca * (10 : Int) ^ (max sa sb - sa) ∧ cb * 10 ^ (M - sb).toNat = cb * (10 : Int) ^ (max sa sb - sb) := by
  have e1 : (M - sa).toNat = max sa sb - sa := by omega
  have e2 : (M - sb).toNat = max sa sb - sb := by omega
  rw [e1, e2]
  exact ⟨rfl, rfl⟩
theorem up_mi {c : Int} (h : InR c) (k : Nat) (hk : k ≤ 40) : Mi (c * 10 ^ k) := by
  have h1 := inr_abs h
  rw [M127_eq] at h1
  refine mi_of (k := 300) ?_ (by omega)
  rw [Int.natAbs_mul, ten_abs]
  have h2 : (10 : Nat) ^ k ≤ 10 ^ 40 := Nat.pow_le_pow_right (by decide) hk
  have h3 : c.natAbs * 10 ^ k ≤ 170141183460469231731687303715884105728 * 10 ^ 40 := Nat.mul_le_mul (by omega) h2
  exact Nat.lt_of_le_of_lt h3 (by decide +kernel)
end Go.Proofs.YtkndnpkpdchbiaaDoor
/- The document's decimals: the contract of DocAdd in form. -/
namespace Go.Proofs.YtkndnpkpdchbiaaDoor
open Go.RowKit
set_option linter.unusedVariables false
attribute [local go_sem ↓] Go.wp_at_zero Go.wp_at_succ

theorem not_inr {z : Int} (h : ¬ InR z) : M127 ≤ (z.natAbs : Int) := by
  by_cases h2 : (z.natAbs : Int) < M127
  · exact absurd (inr_of h2) h
  · omega
end Go.Proofs.YtkndnpkpdchbiaaDoor
