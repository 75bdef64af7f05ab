/- texts of the model: Uj Uk Um Un -/
import Derived.Test.YtjkiplndbcmmbaaGreatDoorW05
import Derived.Test.YtjkiplndbcmmbaaGreatDoorW12
set_option linter.unusedVariables false
set_option linter.unusedSimpArgs false
set_option maxHeartbeats 16000000
set_option maxRecDepth 100000
namespace Go.Proofs.YtjkiplndbcmmbaaGreatDoor
open Tryz
open Go.RowKit
attribute [local go_sem ↓] Go.wp_at_zero Go.wp_at_succ
structure In (w : World) (v : Value) (z : Int) : Prop where
 ex : ∃ m, Wn w v m z.natAbs ∧ (0 < z → m = false) ∧ (z < 0 → m = true)
theorem In.step {w w' : World} {v : Value} {z : Int} (h : In w v z) (k : Below w.heap.size w w') : In w' v z := by
 obtain ⟨m, n, a, b⟩ := h
 exact ⟨m, n.step k, a, b⟩
theorem In.drew {w : World} {v : Value} {z : Int} (h : In w v z) : In w.drew v z := h.step ((Below.refl _ _).drew)
theorem In.alloc {w : World} {v : Value} {z : Int} (h : In w v z) (o : Obj) : In (w.alloc o) v z := h.step ((Below.refl _ _).alloc (Nat.le_refl _) o)
theorem In.form {w : World} {v : Value} {z : Int} (h : In w v z) : ∃ m a n c, v = .agg #[.bool m, .slice a n c] ∧ Nm w (.slice a n c) z.natAbs ∧ (0 < z → m = false) ∧ (z < 0 → m = true) := by
 obtain ⟨m, ⟨s, rfl, hn⟩, a, b⟩ := h
 obtain ⟨x, y, c, rfl⟩ := hn.form
 exact ⟨m, x, y, c, rfl, hn, a, b⟩
theorem ql {w : World} {m : Bool} {s : Value} {z : Int} (h : Nm w s z.natAbs) (a : 0 < z → m = false) (b : z < 0 → m = true) : In w (.agg #[.bool m, s]) z := ⟨m, jc h, a, b⟩
theorem tl (n : Int) (w : World) (h0 : -9223372036854775808 ≤ n) (h1 : n ≤ 9223372036854775807) :
  Calls prog 60 #[.int .i64 n] w fun e w' => (∃ v, e = .returned v ∧ In w' v n) ∧ Below w.heap.size w w' := by
 refine (tm n w h0 h1).mono ?_
 rintro e w1 ⟨⟨v, rfl, hv⟩, hb⟩
 exact ⟨⟨v, rfl, _, hv, fun h => by simp; omega, fun h => by simp [h]⟩, hb⟩
def Mi (z : Int) : Prop := Md z.natAbs
theorem wD (v u : Value) (y z : Int) (w : World) (h : In w v y) (h2 : In w u z) (hy : Mi y) (hz : Mi z) :
  Calls prog 61 #[v, u] w fun e w' => (∃ r, e = .returned r ∧ In w' r (y + z)) ∧ Below w.heap.size w w' := by
 obtain ⟨m, hw, a, b⟩ := h
 obtain ⟨k, hw2, a2, b2⟩ := h2
 by_cases hmk : k = m
 ·subst hmk
  refine (rK v u k k _ _ w hw hw2 hy hz rfl).mono ?_
  rintro e w1 ⟨⟨r, rfl, hr⟩, hb⟩
  have e : y.natAbs + z.natAbs = (y + z).natAbs := by
   cases k
   ·have : ¬ y < 0 := fun h => by have := b h; simp at this
    have : ¬ z < 0 := fun h => by have := b2 h; simp at this
    omega
   ·have : ¬ 0 < y := fun h => by have := a h; simp at this
    have : ¬ 0 < z := fun h => by have := a2 h; simp at this
    omega
  refine ⟨⟨r, rfl, _, (by rw [← e]; exact hr), fun h => ?_, fun h => ?_⟩, hb⟩
  ·rcases (show 0 < y ∨ 0 < z by omega) with h | h
   ·exact a h
   ·exact a2 h
  ·rcases (show y < 0 ∨ z < 0 by omega) with h | h
   ·exact b h
   ·exact b2 h
 ·have hmk' : (m == k) = false := by rw [beq_eq_false_iff_ne]; exact fun h => hmk h.symm
  have hcase : (¬ y < 0 ∧ ¬ 0 < z ∧ m = false ∧ k = true) ∨ (¬ 0 < y ∧ ¬ z < 0 ∧ m = true ∧ k = false) := by
   cases m <;> cases k
   ·simp at hmk
   ·left
    exact ⟨fun h => by have := b h; simp at this, fun h => by have := a2 h; simp at this, rfl, rfl⟩
   ·right
    exact ⟨fun h => by have := a h; simp at this, fun h => by have := b2 h; simp at this, rfl, rfl⟩
   ·simp at hmk
  rcases Nat.lt_or_ge y.natAbs z.natAbs with hlt | hge
  ·refine (wE v u m k _ _ w hw hw2 hy hz hmk' hlt).mono ?_
   rintro e w1 ⟨⟨r, rfl, hr⟩, hb⟩
   rcases hcase with ⟨c1, c2, rfl, rfl⟩ | ⟨c1, c2, rfl, rfl⟩
   ·exact ⟨⟨r, rfl, _, (by rw [show (y + z).natAbs = z.natAbs - y.natAbs by omega]; exact hr), fun h => by omega, fun h => rfl⟩, hb⟩
   ·exact ⟨⟨r, rfl, _, (by rw [show (y + z).natAbs = z.natAbs - y.natAbs by omega]; exact hr), fun h => rfl, fun h => by omega⟩, hb⟩
  ·refine (wC v u m k _ _ w hw hw2 hy hz hmk' hge).mono ?_
   rintro e w1 ⟨⟨r, rfl, hr⟩, hb⟩
   rcases hcase with ⟨c1, c2, rfl, rfl⟩ | ⟨c1, c2, rfl, rfl⟩
   ·exact ⟨⟨r, rfl, _, (by rw [show (y + z).natAbs = y.natAbs - z.natAbs by omega]; exact hr), fun h => rfl, fun h => by omega⟩, hb⟩
   ·exact ⟨⟨r, rfl, _, (by rw [show (y + z).natAbs = y.natAbs - z.natAbs by omega]; exact hr), fun h => by omega, fun h => rfl⟩, hb⟩
theorem uk (v : Value) (z : Int) (w : World) (h : In w v z) :
  Calls prog 31 #[v] w fun e w' => e = .returned (.int .i64 (sgn z)) ∧ Below w.heap.size w w' := by
 obtain ⟨m, hw, a, b⟩ := h
 rcases (show z = 0 ∨ 0 < z ∨ z < 0 by omega) with rfl | hz | hz
 ·exact oW v m w hw
 ·have hm := a hz
  subst hm
  have h := j8 v false _ w hw (by omega)
  have e : sgn z = 1 := by unfold sgn; rw [if_neg (by omega), if_neg (by omega)]
  rw [e]
  exact h
 ·have hm := b hz
  subst hm
  have h := j8 v true _ w hw (by omega)
  have e : sgn z = -1 := by unfold sgn; rw [if_pos hz]
  rw [e]
  exact h
structure V3 (w : World) (p : Nat) (x y z : Value) (T : TypeId) : Prop where
 blk : w.heap[p]? = some (.cells #[x, y, z] T (0, 0))
theorem V3.c0 {w : World} {p : Nat} {x y z : Value} {T : TypeId} (h : V3 w p x y z T) : w.cell? ⟨p, 0, none⟩ = some x := by rw [cell_of_row w p 0 _ _ _ h.blk]; rfl
theorem V3.c1 {w : World} {p : Nat} {x y z : Value} {T : TypeId} (h : V3 w p x y z T) : w.cell? ⟨p, 1, none⟩ = some y := by rw [cell_of_row w p 1 _ _ _ h.blk]; rfl
theorem V3.c2 {w : World} {p : Nat} {x y z : Value} {T : TypeId} (h : V3 w p x y z T) : w.cell? ⟨p, 2, none⟩ = some z := by rw [cell_of_row w p 2 _ _ _ h.blk]; rfl
theorem V3.free {w : World} {p : Nat} {x y z : Value} {T : TypeId} (h : V3 w p x y z T) (o : Nat) : w.frozen? ⟨p, o, none⟩ = false := frozen_of_row w p o _ _ h.blk
theorem V3.lt {w : World} {p : Nat} {x y z : Value} {T : TypeId} (h : V3 w p x y z T) : p < w.heap.size := by
 rcases Nat.lt_or_ge p w.heap.size with hlt | hge
 ·exact hlt
 ·have := h.blk; rw [Array.getElem?_eq_none hge] at this; cases this
theorem V3.step {w w' : World} {p : Nat} {x y z : Value} {T : TypeId} (h : V3 w p x y z T) (k : Below w.heap.size w w') : V3 w' p x y z T := ⟨by rw [k.block p h.lt]; exact h.blk⟩
theorem wG (w : World) (x y z : Value) (T : TypeId) : V3 (w.alloc (.cells #[x, y, z] T)) w.heap.size x y z T := ⟨heap_alloc_new w _⟩
theorem V3.alloc {w : World} {p : Nat} {x y z : Value} {T : TypeId} (h : V3 w p x y z T) (o : Obj) : V3 (w.alloc o) p x y z T := h.step ((Below.refl _ _).alloc (Nat.le_refl _) o)
theorem V3.drew {w : World} {p : Nat} {x y z : Value} {T : TypeId} (h : V3 w p x y z T) : V3 w.drew p x y z T := ⟨h.blk⟩
theorem qB {z : Int} {k : Nat} (h : z.natAbs < 2 ^ k) (hk : k ≤ 1024) : Mi z := xO h hk
theorem lQ {c : Int} (ic : InR c) {m : Bool} (a : 0 < dhi c → m = false) (b : dhi c < 0 → m = true) : ∃ y : Int, y.natAbs = (dhi c).natAbs * 2 ^ 64 ∧ (0 < y → m = false) ∧ (y < 0 → m = true) ∧ y + dlo c = c ∧ Mi y := by
 refine ⟨dhi c * 18446744073709551616, by rw [Int.natAbs_mul]; rfl, fun h => a (by omega), fun h => b (by omega), by unfold dhi dlo; omega, ?_⟩
 have := lT ic
 exact qB (k := 128) (by rw [Int.natAbs_mul]; show (dhi c).natAbs * 18446744073709551616 < _; omega) (by omega)
theorem xM (c : Int) : Mi (dlo c) := qB (k := 64) (by have := gP c; omega) (by omega)
theorem sQ (c s : Int) (w : World) (ic : InR c) :
  Calls prog 32 #[.agg #[.int .i64 (dhi c), .int .u64 (dlo c), .int .i64 s]] w fun e w' => (∃ r, e = .returned r ∧ In w' r c) ∧ Below w.heap.size w w' := by
 have hh := lT ic
 have hl := gP c
 have IC : Hid (InR c) := ic
 clear ic
 go_enter func32, ntmps32
 go_wp2_with fail
 refine (tl (dhi c) _ hh.1 hh.2).mono ?_
 rintro e w1 ⟨⟨v, rfl, hv⟩, hb⟩
 obtain ⟨m, a, n, k, rfl, hn, ha, hb2⟩ := hv.form
 obtain ⟨y, hy1, hy2, hy3, hy4, hy5⟩ := lQ IC.out ha hb2
 have D := ((wG w (.int .i64 (dhi c)) (.int .u64 (dlo c)) (.int .i64 s) 44).alloc (.cells #[.bool false, .slice none 0 0] 76)).step hb
 have R := (dL (w.alloc (.cells #[.int .i64 (dhi c), .int .u64 (dlo c), .int .i64 s] 44)) (.bool false) (.slice none 0 0) 76).step hb
 rw [fH] at R
 have hW := d9 (d9 hb)
 have hlt := R.lt
 have H := dL w1 (.bool m) (.slice a n k) 76
 have D := D.alloc (.cells #[.bool m, .slice a n k] 76)
 have R := R.alloc (.cells #[.bool m, .slice a n k] 76)
 have hn := hn.alloc (.cells #[.bool m, .slice a n k] 76)
 have hW := dR hW (.cells #[.bool m, .slice a n k] 76)
 have hle := (d9 (d9 hb)).size
 go_wp2_with fail
 clear hv hb ha hb2
 generalize w1.alloc (.cells #[.bool m, .slice a n k] 76) = W at *
 obtain ⟨q, hq⟩ : ∃ q, q = w1.heap.size := ⟨_, rfl⟩
 rw [← hq] at H hle hlt
 rw [← hq]
 clear hq
 obtain ⟨p, hp⟩ : ∃ p, p = w.heap.size := ⟨_, rfl⟩
 have HP : Hid (p = w.heap.size) := hp
 rw [← hp] at D R
 rw [← hp]
 have hle : p ≤ q := by omega
 have hne : p + 1 < q := by omega
 clear hp
 have HY1 : Hid _ := hy1
 have HY2 : Hid _ := hy2
 have HY3 : Hid _ := hy3
 have HY4 : Hid _ := hy4
 clear hy1 hy2 hy3 hy4
 go_region_held3 (fun w' => w'.cell? ⟨p, 1, none⟩ = some (.int .u64 (dlo c)) ∧ w'.cell? ⟨q, 0, none⟩ = some (.bool m) ∧ w'.cell? ⟨q, 1, none⟩ = some (.slice a n k))
  (first | exact ⟨D.c1, H.c0, H.c1⟩ | exact ⟨D.drew.c1, H.drew.c0, H.drew.c1⟩ | exact ⟨D4.c1, H4.c0, H4.c1⟩ | exact ⟨D3.c1, H3.c0, H3.c1⟩ | exact ⟨D2.c1, H2.c0, H2.c1⟩ | exact ⟨(aY (by omega)).trans D4.c1, (aY (by omega)).trans H4.c0, (aY (by omega)).trans H4.c1⟩)
  (first
   | (go_at_call 44; refine (tg _ _ 64 _ hn.drew (qB (k := 64) (by omega) (by omega)) (by omega)).mono ?_; rintro e w2 ⟨⟨r, rfl, hr⟩, hb⟩; obtain ⟨ra, rn, rc, rfl⟩ := hr.form; have D2 := D.drew.step hb; have H2 := H.drew.step hb; have R2 := R.drew.step hb; have hW2 := hW.trans ((cM hb).mono hW.size))
   | (go_at_call 24; refine (jX (dlo c) _ hl.1 hl.2).mono ?_; rintro e w3 ⟨⟨r, rfl, hr'⟩, hb'⟩; obtain ⟨ra', rn', rc', rfl⟩ := hr'.form; have D3 := D2.step hb'; have H3 := H2.step hb'; have R3 := R2.step hb'; have hW3 := hW2.trans (hb'.mono hW2.size); have hr3 := hr.step hb')
   | (go_at_call 61; refine (wD _ _ y (dlo c) _ (ql (by rw [HY1.out]; exact hr3) HY2.out HY3.out) (ql (by rw [show (dlo c).natAbs = (dlo c).toNat by omega]; exact hr') (fun _ => rfl) (fun h => by omega)) hy5 (xM c)).mono ?_; rintro e w4 ⟨⟨r4, rfl, hr4⟩, hb4⟩; have D4 := D3.step hb4; have H4 := H3.step hb4; have R4 := R3.step hb4; have hW4 := hW3.trans (hb4.mono hW3.size); rw [HY4.out] at hr4; obtain ⟨m4, a4, n4, k4, rfl, hn4, ha4, hb5⟩ := hr4.form; have r0 := R4.c0; have r1 := R4.c1; have f0 := R4.free 0; have f1 := R4.free 1))
 have V := (R4.set0 (.bool m4)).set1 (.slice a4 n4 k4)
 have hF := hn4.put R4 (by decide) (.bool m4) (.slice a4 n4 k4)
 have hB := dY hW4 (p := p + 1) (by have := HP.out; omega) (.bool m4) (.slice a4 n4 k4)
 have HF : Hid _ := ql hF ha4 hb5
 have HB : Hid _ := hB
 clear hF hB D D2 D3 D4 H H2 H3 H4 R R2 R3 R4 r0 r1 f0 f1 hr hr3 hr4 hW hW2 hW3 hW4 hb hb4 hn4
 generalize (w4.setCell ⟨p + 1, 0, none⟩ (.bool m4)).setCell ⟨p + 1, 1, none⟩ (.slice a4 n4 k4) = Z at *
 have c0 := V.c0
 have c1 := V.c1
 clear V
 go_wp2_with fail
 refine bodyPost_ret (v := .agg #[.bool m4, .slice a4 n4 k4]) (by simp [results, results32, go_sem, *]) rfl ⟨⟨_, rfl, HF.out⟩, HB.out⟩
end Go.Proofs.YtjkiplndbcmmbaaGreatDoor
namespace Go.Proofs.YtjkiplndbcmmbaaGreatDoor
open Go.RowKit
attribute [local go_sem ↓] Go.wp_at_zero Go.wp_at_succ
def h64 (x : Nat) : Int := ((x / 18446744073709551616 : Nat) : Int)
theorem uv (k : Nat) : (0 : Int) < 10 ^ k := Int.pow_pos (by decide)
end Go.Proofs.YtjkiplndbcmmbaaGreatDoor