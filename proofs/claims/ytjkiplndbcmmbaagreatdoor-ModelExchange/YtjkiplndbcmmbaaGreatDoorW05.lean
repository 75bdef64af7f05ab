/- texts of the model: Ui -/
import Derived.Test.YtjkiplndbcmmbaaGreatDoorW04
import Derived.Deep.RegionHeld3
import Derived.Deep.DrawnRows
set_option linter.unusedVariables false
set_option linter.unusedSimpArgs false
set_option maxHeartbeats 16000000
set_option maxRecDepth 100000
namespace Go.Proofs.YtjkiplndbcmmbaaGreatDoor
open Tryz
open Go.RowKit
attribute [local go_sem ↓] Go.wp_at_zero Go.wp_at_succ
structure Wn (w : World) (v : Value) (m : Bool) (x : Nat) : Prop where
 ex : ∃ s, v = .agg #[.bool m, s] ∧ Nm w s x
theorem Wn.step {w w' : World} {v : Value} {m : Bool} {x : Nat} (h : Wn w v m x) (k : Below w.heap.size w w') : Wn w' v m x := by
 obtain ⟨s, e, n⟩ := h
 exact ⟨s, e, n.step k⟩
theorem Nm.form {w : World} {v : Value} {x : Nat} (h : Nm w v x) : ∃ a n c, v = .slice a n c := by
 obtain ⟨ds, ⟨_, a, c, e, _⟩, _⟩ := h
 exact ⟨a, _, c, e⟩
theorem jc {w : World} {m : Bool} {s : Value} {x : Nat} (h : Nm w s x) : Wn w (.agg #[.bool m, s]) m x := ⟨s, rfl, h⟩
theorem d9 {w w' : World} {O : Obj} (k : Below (w.alloc O).heap.size (w.alloc O) w') : Below w.heap.size w w' :=
 ((Below.refl _ _).alloc (Nat.le_refl _) O).trans (k.mono (by simp))
theorem dR {a w : World} (h : Below a.heap.size a w) (o : Obj) : Below a.heap.size a (w.alloc o) := h.alloc h.size o
structure V2 (w : World) (p : Nat) (x y : Value) (T : TypeId) : Prop where
 blk : w.heap[p]? = some (.cells #[x, y] T (0, 0))
theorem V2.c0 {w : World} {p : Nat} {x y : Value} {T : TypeId} (h : V2 w p x y T) : w.cell? ⟨p, 0, none⟩ = some x := by rw [cell_of_row w p 0 _ _ _ h.blk]; rfl
theorem V2.c1 {w : World} {p : Nat} {x y : Value} {T : TypeId} (h : V2 w p x y T) : w.cell? ⟨p, 1, none⟩ = some y := by rw [cell_of_row w p 1 _ _ _ h.blk]; rfl
theorem V2.free {w : World} {p : Nat} {x y : Value} {T : TypeId} (h : V2 w p x y T) (o : Nat) : w.frozen? ⟨p, o, none⟩ = false := frozen_of_row w p o _ _ h.blk
theorem V2.lt {w : World} {p : Nat} {x y : Value} {T : TypeId} (h : V2 w p x y T) : p < w.heap.size := by
 rcases Nat.lt_or_ge p w.heap.size with hlt | hge
 ·exact hlt
 ·have := h.blk; rw [Array.getElem?_eq_none hge] at this; cases this
theorem V2.step {w w' : World} {p : Nat} {x y : Value} {T : TypeId} (h : V2 w p x y T) (k : Below w.heap.size w w') : V2 w' p x y T := ⟨by rw [k.block p h.lt]; exact h.blk⟩
theorem dL (w : World) (x y : Value) (T : TypeId) : V2 (w.alloc (.cells #[x, y] T)) w.heap.size x y T := ⟨heap_alloc_new w _⟩
theorem V2.alloc {w : World} {p : Nat} {x y : Value} {T : TypeId} (h : V2 w p x y T) (o : Obj) : V2 (w.alloc o) p x y T := h.step ((Below.refl _ _).alloc (Nat.le_refl _) o)
theorem V2.drew {w : World} {p : Nat} {x y : Value} {T : TypeId} (h : V2 w p x y T) : V2 w.drew p x y T := ⟨h.blk⟩
theorem V2.set0 {w : World} {p : Nat} {x y : Value} {T : TypeId} (h : V2 w p x y T) (u : Value) : V2 (w.setCell ⟨p, 0, none⟩ u) p u y T := ⟨by rw [heap_setCell_same w p 0 _ _ u h.blk]; rfl⟩
theorem V2.set1 {w : World} {p : Nat} {x y : Value} {T : TypeId} (h : V2 w p x y T) (u : Value) : V2 (w.setCell ⟨p, 1, none⟩ u) p x u T := ⟨by rw [heap_setCell_same w p 1 _ _ u h.blk]; rfl⟩
theorem Nm.drew {w : World} {v : Value} {x : Nat} (h : Nm w v x) : Nm w.drew v x := h.step ((Below.refl _ _).drew)
theorem Nm.alloc {w : World} {v : Value} {x : Nat} (h : Nm w v x) (o : Obj) : Nm (w.alloc o) v x := h.step ((Below.refl _ _).alloc (Nat.le_refl _) o)
theorem Nm.put {w : World} {v : Value} {n : Nat} (h : Nm w v n) {p : Nat} {x y : Value} {T : TypeId} (hp : V2 w p x y T) (hT : T ≠ 23) (c d : Value) : Nm ((w.setCell ⟨p, 0, none⟩ c).setCell ⟨p, 1, none⟩ d) v n :=
 (h.store hp.blk hT 0 c).store (hp.set0 c).blk hT 1 d
theorem dY {w w' : World} (h : Below w.heap.size w w') {p : Nat} (hp : w.heap.size ≤ p) (c d : Value) : Below w.heap.size w ((w'.setCell ⟨p, 0, none⟩ c).setCell ⟨p, 1, none⟩ d) := (h.setCell (p := ⟨p, 0, none⟩) hp c).setCell (p := ⟨p, 1, none⟩) hp d
theorem cM {w w' : World} (h : Below w.drew.heap.size w.drew w') : Below w.heap.size w w' := ⟨h.os, h.tape, h.output, h.size, h.block⟩
theorem qu (n : Int) (w : World) (h0 : -9223372036854775808 ≤ n) (h1 : n < 0) :
  Calls prog 60 #[.int .i64 n] w fun e w' => (∃ v, e = .returned v ∧ Wn w' v true n.natAbs) ∧ Below w.heap.size w w' := by
 have hw : IntKind.u64.wrap (-(IntKind.u64.wrap n)) = -n := by rw [IntKind.wrap_u64, IntKind.wrap_u64]; omega
 go_enter func60, ntmps60
 go_wp2_with fail
 clear hw
 refine (jX (-n) _ (by omega) (by omega)).mono ?_
 rintro e w1 ⟨⟨u, rfl, hn⟩, hb⟩
 obtain ⟨ua, un, uc, rfl⟩ := hn.form
 have V := (dL w (.bool false) (.slice none 0 0) 76).step hb
 rw [show (-n).toNat = n.natAbs by omega] at hn
 have c0 := V.c0
 have c1 := V.c1
 have f0 := V.free 0
 have f1 := V.free 1
 have HF : Hid (Nm _ (.slice ua un uc) n.natAbs) := hn.put V (by decide) (.bool true) (.slice ua un uc)
 have HB : Hid _ := dY (d9 hb) (Nat.le_refl _) (.bool true) (.slice ua un uc)
 clear hb hn V
 go_wp2_with fail
 refine bodyPost_ret (v := .agg #[.bool true, .slice ua un uc]) (by simp [results, results60, go_sem, *]) rfl ⟨⟨_, rfl, jc HF.out⟩, HB.out⟩
theorem qw (n : Int) (w : World) (h0 : 0 ≤ n) (h1 : n ≤ 9223372036854775807) :
  Calls prog 60 #[.int .i64 n] w fun e w' => (∃ v, e = .returned v ∧ Wn w' v false n.natAbs) ∧ Below w.heap.size w w' := by
 go_enter func60, ntmps60
 go_wp2_with fail
 refine (jX n _ (by omega) (by omega)).mono ?_
 rintro e w1 ⟨⟨u, rfl, hn⟩, hb⟩
 obtain ⟨ua, un, uc, rfl⟩ := hn.form
 have V := (dL w (.bool false) (.slice none 0 0) 76).step hb
 rw [show n.toNat = n.natAbs by omega] at hn
 have c0 := V.c0
 have c1 := V.c1
 have f0 := V.free 0
 have f1 := V.free 1
 have HF : Hid (Nm _ (.slice ua un uc) n.natAbs) := hn.put V (by decide) (.bool false) (.slice ua un uc)
 have HB : Hid _ := dY (d9 hb) (Nat.le_refl _) (.bool false) (.slice ua un uc)
 clear hb hn V
 go_wp2_with fail
 refine bodyPost_ret (v := .agg #[.bool false, .slice ua un uc]) (by simp [results, results60, go_sem, *]) rfl ⟨⟨_, rfl, jc HF.out⟩, HB.out⟩
theorem tm (n : Int) (w : World) (h0 : -9223372036854775808 ≤ n) (h1 : n ≤ 9223372036854775807) :
  Calls prog 60 #[.int .i64 n] w fun e w' => (∃ v, e = .returned v ∧ Wn w' v (decide (n < 0)) n.natAbs) ∧ Below w.heap.size w w' := by
 by_cases h : n < 0
 ·rw [decide_eq_true h]; exact qu n w h0 h
 ·rw [decide_eq_false h]; exact qw n w (by omega) h1
theorem aY {w : World} {p q o : Nat} {c d : Value} (h : q ≠ p) : ((w.setCell ⟨p, 0, none⟩ c).setCell ⟨p, 1, none⟩ d).cell? ⟨q, o, none⟩ = w.cell? ⟨q, o, none⟩ := by
 have h1 : (w.setCell ⟨p, 0, none⟩ c).heap[q]? = w.heap[q]? := Below.heap_setCell _ _ _ _ h
 have h2 : ((w.setCell ⟨p, 0, none⟩ c).setCell ⟨p, 1, none⟩ d).heap[q]? = (w.setCell ⟨p, 0, none⟩ c).heap[q]? := Below.heap_setCell _ _ _ _ h
 exact World.cell?_of_block (w := w) (a := ⟨q, o, none⟩) (h2.trans h1)
theorem fH (w : World) (o : Obj) : (w.alloc o).heap.size = w.heap.size + 1 := by simp
theorem rO (w : World) (a b c d e f : Value) (T U : TypeId) :
  V2 (((w.alloc (.cells #[a, b] T)).alloc (.cells #[c, d] T)).alloc (.cells #[e, f] U)) w.heap.size a b T ∧
  V2 (((w.alloc (.cells #[a, b] T)).alloc (.cells #[c, d] T)).alloc (.cells #[e, f] U)) (w.heap.size + 1) c d T ∧
  V2 (((w.alloc (.cells #[a, b] T)).alloc (.cells #[c, d] T)).alloc (.cells #[e, f] U)) (w.heap.size + 2) e f U ∧
  Below w.heap.size w (((w.alloc (.cells #[a, b] T)).alloc (.cells #[c, d] T)).alloc (.cells #[e, f] U)) := by
 refine ⟨((dL w a b T).alloc _).alloc _, ?_, ?_, dR (dR (dR (Below.refl _ _) _) _) _⟩
 ·have := (dL (w.alloc (.cells #[a, b] T)) c d T).alloc (.cells #[e, f] U)
  rw [fH] at this
  exact this
 ·have := dL ((w.alloc (.cells #[a, b] T)).alloc (.cells #[c, d] T)) e f U
  rw [fH, fH] at this
  exact this
theorem oW (v : Value) (m : Bool) (w : World) (h : Wn w v m 0) :
  Calls prog 31 #[v] w fun e w' => e = .returned (.int .i64 0) ∧ Below w.heap.size w w' := by
 obtain ⟨s, rfl, ds, ⟨hm, a, c, rfl, _⟩, hn, h0⟩ := h
 have hl := hn.zero.1 h0
 rw [hl]
 clear hm hn h0 hl
 go_enter func31, ntmps31
 go_wp2_with fail
 go_ret
 exact ⟨rfl, dR (Below.refl _ _) _⟩
theorem j8 (v : Value) (m : Bool) (x : Nat) (w : World) (h : Wn w v m x) (hx : 0 < x) :
  Calls prog 31 #[v] w fun e w' => e = .returned (.int .i64 (if m then -1 else 1)) ∧ Below w.heap.size w w' := by
 obtain ⟨s, rfl, ds, ⟨hm, a, c, rfl, _⟩, hn, rfl⟩ := h
 have hl : 0 < ds.length := by
  by_cases h0 : ds.length = 0
  ·have := hn.zero.2 h0; omega
  ·omega
 clear hn hx
 generalize ds.length = n at *
 have hl' : ((n : Int) == 0) = false := by rw [beq_eq_false_iff_ne]; omega
 cases m
 all_goals
  go_enter func31, ntmps31
  go_wp2_with fail
  go_ret
  exact ⟨rfl, dR (Below.refl _ _) _⟩
theorem rK (v u : Value) (m k : Bool) (x y : Nat) (w : World) (h : Wn w v m x) (h2 : Wn w u k y) (hx : Md x) (hy : Md y) (hmk : k = m) :
  Calls prog 61 #[v, u] w fun e w' => (∃ r, e = .returned r ∧ Wn w' r m (x + y)) ∧ Below w.heap.size w w' := by
 subst hmk
 obtain ⟨s, rfl, hn⟩ := h
 obtain ⟨sa, sn, sc, rfl⟩ := hn.form
 obtain ⟨t, rfl, hn2⟩ := h2
 obtain ⟨ta, tn, tc, rfl⟩ := hn2.form
 have HX : Hid (Md x) := hx
 have HY : Hid (Md y) := hy
 clear hx hy
 obtain ⟨A, B, R, hW⟩ := rO w (.bool k) (.slice sa sn sc) (.bool k) (.slice ta tn tc) (.bool false) (.slice none 0 0) 76 76
 have N1 := hn.step hW
 have N2 := hn2.step hW
 clear hn hn2
 go_enter func61, ntmps61
 have hmm : (k == k) = true := by simp
 go_wp2_with fail
 generalize ((w.alloc (.cells #[.bool k, .slice sa sn sc] 76)).alloc (.cells #[.bool k, .slice ta tn tc] 76)).alloc (.cells #[.bool false, .slice none 0 0] 76) = W at *
 obtain ⟨n, hn⟩ : ∃ n, n = w.heap.size := ⟨_, rfl⟩
 have HN : Hid (n = w.heap.size) := hn
 rw [← hn] at A B R
 rw [← hn]
 clear hn
 have lA := A.lt
 have lB := B.lt
 have lR := R.lt
 go_region_held3 (fun w' => w'.cell? ⟨n, 0, none⟩ = some (.bool k) ∧ w'.cell? ⟨n, 1, none⟩ = some (.slice sa sn sc) ∧ w'.cell? ⟨n + 1, 0, none⟩ = some (.bool k) ∧ w'.cell? ⟨n + 1, 1, none⟩ = some (.slice ta tn tc))
  (first | exact ⟨A.c0, A.c1, B.c0, B.c1⟩ | exact ⟨A.drew.c0, A.drew.c1, B.drew.c0, B.drew.c1⟩ | exact ⟨A'.c0, A'.c1, B'.c0, B'.c1⟩ | exact ⟨(aY (by omega)).trans A'.c0, (aY (by omega)).trans A'.c1, (aY (by omega)).trans B'.c0, (aY (by omega)).trans B'.c1⟩)
  (first | (go_at_call 47; refine (tX _ _ x y _ N1.drew N2.drew HX.out HY.out).mono ?_; rintro e w1 ⟨⟨r, rfl, hr⟩, hb⟩; obtain ⟨ra, rn, rc, rfl⟩ := hr.form; have A' := A.drew.step hb; have B' := B.drew.step hb; have R' := R.drew.step hb; have r0 := R'.c0; have r1 := R'.c1; have f0 := R'.free 0; have f1 := R'.free 1))
 have V := (R'.set0 (.bool k)).set1 (.slice ra rn rc)
 have hF := hr.put R' (by decide) (.bool k) (.slice ra rn rc)
 have hB := dY (hW.trans ((cM hb).mono hW.size)) (p := n + 2) (by have := HN.out; omega) (.bool k) (.slice ra rn rc)
 clear A B R A' B' R' r0 r1 f0 f1 N1 N2 hr hb hW lA lB lR
 generalize (w1.setCell ⟨n + 2, 0, none⟩ (.bool k)).setCell ⟨n + 2, 1, none⟩ (.slice ra rn rc) = Z at *
 have c0 := V.c0
 have c1 := V.c1
 have HF : Hid _ := hF
 have HB : Hid _ := hB
 clear V hF hB
 go_wp2_with fail
 refine bodyPost_ret (v := .agg #[.bool k, .slice ra rn rc]) (by simp [results, results61, go_sem, *]) rfl ⟨⟨_, rfl, jc HF.out⟩, HB.out⟩
theorem wC (v u : Value) (m k : Bool) (x y : Nat) (w : World) (h : Wn w v m x) (h2 : Wn w u k y) (hx : Md x) (hy : Md y) (hmk : (m == k) = false) (hle : y ≤ x) :
  Calls prog 61 #[v, u] w fun e w' => (∃ r, e = .returned r ∧ Wn w' r m (x - y)) ∧ Below w.heap.size w w' := by
 obtain ⟨s, rfl, hn⟩ := h
 obtain ⟨sa, sn, sc, rfl⟩ := hn.form
 obtain ⟨t, rfl, hn2⟩ := h2
 obtain ⟨ta, tn, tc, rfl⟩ := hn2.form
 have HX : Hid (Md x) := hx
 have HY : Hid (Md y) := hy
 clear hx hy
 obtain ⟨A, B, R, hW⟩ := rO w (.bool m) (.slice sa sn sc) (.bool k) (.slice ta tn tc) (.bool false) (.slice none 0 0) 76 76
 have N1 := hn.step hW
 have N2 := hn2.step hW
 clear hn hn2
 go_enter func61, ntmps61
 go_wp2_with fail
 refine (gM _ _ x y _ N1 N2).mono ?_
 rintro e w0 ⟨rfl, hb0⟩
 generalize ((w.alloc (.cells #[.bool m, .slice sa sn sc] 76)).alloc (.cells #[.bool k, .slice ta tn tc] 76)).alloc (.cells #[.bool false, .slice none 0 0] 76) = W at *
 obtain ⟨n, hn⟩ : ∃ n, n = w.heap.size := ⟨_, rfl⟩
 have HN : Hid (n = w.heap.size) := hn
 rw [← hn] at A B R
 rw [← hn]
 clear hn
 have A := A.step hb0
 have B := B.step hb0
 have R := R.step hb0
 have N1 := N1.step hb0
 have N2 := N2.step hb0
 have hW := hW.trans (hb0.mono hW.size)
 clear hb0
 have hc : 0 ≤ cmpN x y := sO hle
 generalize cmpN x y = cc at *
 have lA := A.lt
 have lB := B.lt
 have lR := R.lt
 go_wp2_with fail
 go_region_held3 (fun w' => w'.cell? ⟨n, 0, none⟩ = some (.bool m) ∧ w'.cell? ⟨n, 1, none⟩ = some (.slice sa sn sc) ∧ w'.cell? ⟨n + 1, 0, none⟩ = some (.bool k) ∧ w'.cell? ⟨n + 1, 1, none⟩ = some (.slice ta tn tc))
  (first | exact ⟨A.c0, A.c1, B.c0, B.c1⟩ | exact ⟨A.drew.c0, A.drew.c1, B.drew.c0, B.drew.c1⟩ | exact ⟨A'.c0, A'.c1, B'.c0, B'.c1⟩ | exact ⟨(aY (by omega)).trans A'.c0, (aY (by omega)).trans A'.c1, (aY (by omega)).trans B'.c0, (aY (by omega)).trans B'.c1⟩)
  (first | (go_at_call 46; refine (kJ _ _ x y _ N1.drew N2.drew hle).mono ?_; rintro e w1 ⟨⟨r, rfl, hr⟩, hb⟩; obtain ⟨ra, rn, rc, rfl⟩ := hr.form; have A' := A.drew.step hb; have B' := B.drew.step hb; have R' := R.drew.step hb; have r0 := R'.c0; have r1 := R'.c1; have f0 := R'.free 0; have f1 := R'.free 1))
 have V := (R'.set0 (.bool m)).set1 (.slice ra rn rc)
 have hF := hr.put R' (by decide) (.bool m) (.slice ra rn rc)
 have hB := dY (hW.trans ((cM hb).mono hW.size)) (p := n + 2) (by have := HN.out; omega) (.bool m) (.slice ra rn rc)
 clear A B R A' B' R' r0 r1 f0 f1 N1 N2 hr hb hW lA lB lR
 generalize (w1.setCell ⟨n + 2, 0, none⟩ (.bool m)).setCell ⟨n + 2, 1, none⟩ (.slice ra rn rc) = Z at *
 have c0 := V.c0
 have c1 := V.c1
 have HF : Hid _ := hF
 have HB : Hid _ := hB
 clear V hF hB
 go_wp2_with fail
 refine bodyPost_ret (v := .agg #[.bool m, .slice ra rn rc]) (by simp [results, results61, go_sem, *]) rfl ⟨⟨_, rfl, jc HF.out⟩, HB.out⟩
theorem wE (v u : Value) (m k : Bool) (x y : Nat) (w : World) (h : Wn w v m x) (h2 : Wn w u k y) (hx : Md x) (hy : Md y) (hmk : (m == k) = false) (hlt : x < y) :
  Calls prog 61 #[v, u] w fun e w' => (∃ r, e = .returned r ∧ Wn w' r k (y - x)) ∧ Below w.heap.size w w' := by
 obtain ⟨s, rfl, hn⟩ := h
 obtain ⟨sa, sn, sc, rfl⟩ := hn.form
 obtain ⟨t, rfl, hn2⟩ := h2
 obtain ⟨ta, tn, tc, rfl⟩ := hn2.form
 have HX : Hid (Md x) := hx
 have HY : Hid (Md y) := hy
 clear hx hy
 obtain ⟨A, B, R, hW⟩ := rO w (.bool m) (.slice sa sn sc) (.bool k) (.slice ta tn tc) (.bool false) (.slice none 0 0) 76 76
 have N1 := hn.step hW
 have N2 := hn2.step hW
 clear hn hn2
 go_enter func61, ntmps61
 go_wp2_with fail
 refine (gM _ _ x y _ N1 N2).mono ?_
 rintro e w0 ⟨rfl, hb0⟩
 generalize ((w.alloc (.cells #[.bool m, .slice sa sn sc] 76)).alloc (.cells #[.bool k, .slice ta tn tc] 76)).alloc (.cells #[.bool false, .slice none 0 0] 76) = W at *
 obtain ⟨n, hn⟩ : ∃ n, n = w.heap.size := ⟨_, rfl⟩
 have HN : Hid (n = w.heap.size) := hn
 rw [← hn] at A B R
 rw [← hn]
 clear hn
 have A := A.step hb0
 have B := B.step hb0
 have R := R.step hb0
 have N1 := N1.step hb0
 have N2 := N2.step hb0
 have hW := hW.trans (hb0.mono hW.size)
 clear hb0
 have hc : cmpN x y < 0 := by rw [jk hlt]; decide
 generalize cmpN x y = cc at *
 have lA := A.lt
 have lB := B.lt
 have lR := R.lt
 go_wp2_with fail
 go_region_held3 (fun w' => w'.cell? ⟨n, 0, none⟩ = some (.bool m) ∧ w'.cell? ⟨n, 1, none⟩ = some (.slice sa sn sc) ∧ w'.cell? ⟨n + 1, 0, none⟩ = some (.bool k) ∧ w'.cell? ⟨n + 1, 1, none⟩ = some (.slice ta tn tc))
  (first | exact ⟨A.c0, A.c1, B.c0, B.c1⟩ | exact ⟨A.drew.c0, A.drew.c1, B.drew.c0, B.drew.c1⟩ | exact ⟨A'.c0, A'.c1, B'.c0, B'.c1⟩ | exact ⟨(aY (by omega)).trans A'.c0, (aY (by omega)).trans A'.c1, (aY (by omega)).trans B'.c0, (aY (by omega)).trans B'.c1⟩)
  (first | (go_at_call 46; refine (kJ _ _ y x _ N2.drew N1.drew (by omega)).mono ?_; rintro e w1 ⟨⟨r, rfl, hr⟩, hb⟩; obtain ⟨ra, rn, rc, rfl⟩ := hr.form; have A' := A.drew.step hb; have B' := B.drew.step hb; have R' := R.drew.step hb; have r0 := R'.c0; have r1 := R'.c1; have f0 := R'.free 0; have f1 := R'.free 1))
 have V := (R'.set0 (.bool k)).set1 (.slice ra rn rc)
 have hF := hr.put R' (by decide) (.bool k) (.slice ra rn rc)
 have hB := dY (hW.trans ((cM hb).mono hW.size)) (p := n + 2) (by have := HN.out; omega) (.bool k) (.slice ra rn rc)
 clear A B R A' B' R' r0 r1 f0 f1 N1 N2 hr hb hW lA lB lR
 generalize (w1.setCell ⟨n + 2, 0, none⟩ (.bool k)).setCell ⟨n + 2, 1, none⟩ (.slice ra rn rc) = Z at *
 have c0 := V.c0
 have c1 := V.c1
 have HF : Hid _ := hF
 have HB : Hid _ := hB
 clear V hF hB
 go_wp2_with fail
 refine bodyPost_ret (v := .agg #[.bool k, .slice ra rn rc]) (by simp [results, results61, go_sem, *]) rfl ⟨⟨_, rfl, jc HF.out⟩, HB.out⟩
end Go.Proofs.YtjkiplndbcmmbaaGreatDoor