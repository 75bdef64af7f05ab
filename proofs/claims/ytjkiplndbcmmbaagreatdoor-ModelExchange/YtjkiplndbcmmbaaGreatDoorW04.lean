/- texts of the model: Ub Uc Ud Ue Uf Ug Uh -/
import Derived.Test.YtjkiplndbcmmbaaGreatDoorProg
import Derived.Test.YtjkiplndbcmmbaaGreatDoorW00
import Derived.WalkKit
import Derived.BigQuiet
import Derived.Deep.QuietTactic
set_option linter.unusedVariables false
set_option linter.unusedSimpArgs false
set_option maxHeartbeats 16000000
set_option maxRecDepth 100000
namespace Go.Proofs.YtjkiplndbcmmbaaGreatDoor
open Tryz
open Go.RowKit
def dg (ds : List Nat) (k : Nat) : Int := ((ds.getD k 0 : Nat) : Int)
theorem bW {ds : List Nat} (h : Sm ds) (k : Nat) : 0 ≤ dg ds k ∧ dg ds k ≤ 4294967295 := by
 have := be k h
 unfold dg; omega
structure Row (w : World) (v : Value) (ds : List Nat) : Prop where
 short : ds.length ≤ 200
 form : ∃ a c, v = .slice a ds.length c ∧ ds.length ≤ c ∧ (0 < ds.length → ∃ b off, a = some ⟨b, off, none⟩ ∧ (b < w.heap.size ∧ ∃ cur fr, w.heap[b]? = some (.cells cur 23 fr)) ∧ ∀ k, k < ds.length → w.cell? ⟨b, off + k, none⟩ = some (.int .u64 (dg ds k)))
theorem Row.step {w w' : World} {v : Value} {ds : List Nat} (h : Row w v ds) (k : Below w.heap.size w w') : Row w' v ds := by
 obtain ⟨s, a, c, e, hc, f⟩ := h
 refine ⟨s, a, c, e, hc, fun h0 => ?_⟩
 obtain ⟨b, off, ea, ⟨hb, cur, fr, hk⟩, hx⟩ := f h0
 exact ⟨b, off, ea, ⟨Nat.lt_of_lt_of_le hb k.size, cur, fr, by rw [k.block b hb]; exact hk⟩, fun j hj => (k.cell (p := ⟨b, off + j, none⟩) hb).trans (hx j hj)⟩
theorem Row.store {w : World} {v : Value} {ds : List Nat} (h : Row w v ds) {p : Nat} {cur : Array Value} {T : TypeId} {fr : Nat × Nat} (hp : w.heap[p]? = some (.cells cur T fr)) (hT : T ≠ 23) (o : Nat) (u : Value) : Row (w.setCell ⟨p, o, none⟩ u) v ds := by
 obtain ⟨s, a, c, e, hc, f⟩ := h
 refine ⟨s, a, c, e, hc, fun h0 => ?_⟩
 obtain ⟨b, off, ea, ⟨hb, cur', fr', hk⟩, hx⟩ := f h0
 have hne : b ≠ p := by
  intro e
  subst e
  rw [hp] at hk
  simp at hk
  exact hT hk.2.1
 have hh : (w.setCell ⟨p, o, none⟩ u).heap[b]? = w.heap[b]? := Below.heap_setCell _ _ _ _ hne
 exact ⟨b, off, ea, ⟨by simpa [World.setCell] using hb, cur', fr', by rw [hh]; exact hk⟩, fun j hj => (World.cell?_of_block (w := w) (a := ⟨b, off + j, none⟩) hh).trans (hx j hj)⟩
theorem sT (ds : List Nat) (n k : Nat) (h : k < n) : dg (ds.take n) k = dg ds k := by
 unfold dg; simp [h]
structure Nm (w : World) (v : Value) (x : Nat) : Prop where
 ex : ∃ ds, Row w v ds ∧ Nd ds ∧ val ds = x
theorem Nm.step {w w' : World} {v : Value} {x : Nat} (h : Nm w v x) (k : Below w.heap.size w w') : Nm w' v x := by
 obtain ⟨ds, r, n, e⟩ := h
 exact ⟨ds, r.step k, n, e⟩
theorem Nm.store {w : World} {v : Value} {x : Nat} (h : Nm w v x) {p : Nat} {cur : Array Value} {T : TypeId} {fr : Nat × Nat} (hp : w.heap[p]? = some (.cells cur T fr)) (hT : T ≠ 23) (o : Nat) (u : Value) : Nm (w.setCell ⟨p, o, none⟩ u) v x := by
 obtain ⟨ds, r, n, e⟩ := h
 exact ⟨ds, r.store hp hT o u, n, e⟩
theorem ui {w : World} {a : Option Addr} {c : Nat} {ds : List Nat} (hm : ds.length ≤ 200) (hc : ds.length ≤ c) (k : Nat) (hk : k ≤ ds.length)
  (f : 0 < ds.length → ∃ b off, a = some ⟨b, off, none⟩ ∧ (b < w.heap.size ∧ ∃ cur fr, w.heap[b]? = some (.cells cur 23 fr)) ∧ ∀ k, k < ds.length → w.cell? ⟨b, off + k, none⟩ = some (.int .u64 (dg ds k))) : Row w (.slice a k c) (ds.take k) := by
 have hl : (ds.take k).length = k := by rw [List.length_take]; omega
 refine ⟨by omega, a, c, by rw [hl], by omega, fun h => ?_⟩
 obtain ⟨b, off, e, hb, hx⟩ := f (by omega)
 exact ⟨b, off, e, hb, fun j hj => by rw [sT ds k j (by omega)]; exact hx j (by omega)⟩
theorem tE {ds : List Nat} (hs : Sm ds) (k : Nat) (hk : k ≤ ds.length) (h : 0 < k → dg ds (k - 1) ≠ 0) : Nd (ds.take k) := by
 have hl : (ds.take k).length = k := by rw [List.length_take]; omega
 refine ⟨jO k hs, fun h0 => ?_⟩
 rw [hl] at h0 ⊢
 have hz := h h0
 have := aL ds (k - 1) (by omega)
 rw [show k - 1 + 1 = k by omega] at this
 have hp : pw (k - 1) * 1 ≤ pw (k - 1) * ds.getD (k - 1) 0 := Nat.mul_le_mul_left _ (by unfold dg at hz; omega)
 omega
theorem iy {ds : List Nat} (k : Nat) (hk : 0 < k) (hk2 : k ≤ ds.length) (h : dg ds (k - 1) = 0) : val (ds.take k) = val (ds.take (k - 1)) := by
 have := aL ds (k - 1) (by omega)
 rw [show k - 1 + 1 = k by omega] at this
 have hz : ds.getD (k - 1) 0 = 0 := by unfold dg at h; omega
 rw [this, hz]; simp
theorem fy (v : Value) (ds : List Nat) (w : World) (h : Row w v ds) (hs : Sm ds) :
  Calls prog 48 #[v] w fun e w' => (∃ u, e = .returned u ∧ Nm w u (val ds)) ∧ w' = w := by
 obtain ⟨hm, a, c, rfl, hlc, hx⟩ := h
 have HX : Hid _ := hx
 have HS : Hid _ := hs
 clear hx hs
 obtain ⟨n, hn⟩ : ∃ n, n = ds.length := ⟨_, rfl⟩
 have HN : Hid (n = ds.length) := hn
 rw [← hn] at hm hlc
 rw [← hn]
 clear hn
 go_enter func48, ntmps48
 go_wp2_with fail
 go_loop [3] (fun i => ∃ k : Nat, k ≤ n ∧ i = .int .i64 k ∧ Hid (val (ds.take k) = val ds)) (fun i => (intOf i).toNat)
 case atStart => exact ⟨n, Nat.le_refl _, rfl, by rw [HN.out]; exact congrArg val (List.take_length)⟩
 case round =>
  obtain ⟨k, hk, rfl, hv⟩ := hrel
  have fin : ∀ (h : 0 < k → dg ds (k - 1) ≠ 0), Hid (Nm w (.slice a k c) (val ds)) := fun h => ⟨ds.take k, ui (by have := HN.out; omega) (by have := HN.out; omega) k (by have := HN.out; omega) HX.out, tE HS.out k (by have := HN.out; omega) h, hv.out⟩
  by_cases h0 : k = 0
  ·subst h0
   have F := fin (fun h => by omega)
   clear fin
   go_wp2_with fail
   go_ret
   exact ⟨⟨_, rfl, F.out⟩, rfl⟩
  ·obtain ⟨b, off, rfl, ⟨hb, _⟩, hc⟩ := HX.out (by have := HN.out; omega)
   have hcell := hc (k - 1) (by have := HN.out; omega)
   clear hc HX
   have hk1 : 1 ≤ k := by omega
   by_cases hz : dg ds (k - 1) = 0
   ·rw [hz] at hcell
    have hv' : Hid (val (ds.take (k - 1)) = val ds) := by rw [← iy k hk1 (by have := HN.out; omega) hz]; exact hv.out
    clear hz fin
    go_wp2_with fail
    go_round
    case rel => exact ⟨k - 1, by omega, by go_num, hv'⟩
    case measure => simp [intOf]; omega
   ·have F := fin (fun _ => hz)
    have hz' : (dg ds (k - 1) == 0) = false := by simp [hz]
    clear fin
    go_wp2_with fail
    go_ret
    exact ⟨⟨_, rfl, F.out⟩, rfl⟩
theorem s8 (w : World) (m : Int) (h0 : 0 ≤ m) :
  Row (w.alloc (.cells #[.int .u64 (m % 4294967296), .int .u64 (m / 4294967296)] 23)) (.slice (some ⟨w.heap.size, 0, none⟩) 2 2) [m.toNat % 4294967296, m.toNat / 4294967296] := by
 refine ⟨by simp, _, _, rfl, by simp, fun _ => ⟨w.heap.size, 0, rfl, ⟨by simp, _, _, heap_alloc_new w _⟩, fun k hk => ?_⟩⟩
 have e0 : dg [m.toNat % 4294967296, m.toNat / 4294967296] 0 = m % 4294967296 := by simp [dg]; omega
 have e1 : dg [m.toNat % 4294967296, m.toNat / 4294967296] 1 = m / 4294967296 := by simp [dg]; omega
 match k, hk with
 | 0, _ => rw [e0]; simp [go_sem]
 | 1, _ => rw [e1]; simp [go_sem]
theorem jX (m : Int) (w : World) (h0 : 0 ≤ m) (h1 : m ≤ 18446744073709551615) :
  Calls prog 24 #[.int .u64 m] w fun e w' => (∃ u, e = .returned u ∧ Nm w' u m.toNat) ∧ Below w.heap.size w w' := by
 have hs : Sm [m.toNat % 4294967296, m.toNat / 4294967296] := ir fun d hd => by simp at hd; omega
 have hv : val [m.toNat % 4294967296, m.toNat / 4294967296] = m.toNat := by simp [val]; omega
 have HS : Hid _ := hs
 have HV : Hid _ := hv
 clear hs hv
 go_enter func24, ntmps24
 go_wp2_with fail
 refine (fy _ _ _ (s8 w m h0) HS.out).mono ?_
 rintro e w1 ⟨⟨u, rfl, hn⟩, rfl⟩
 rw [HV.out] at hn
 have HN : Hid _ := hn
 clear hn
 go_wp2_with fail
 go_ret
 exact ⟨⟨_, rfl, HN.out⟩, (Below.refl _ _).alloc (Nat.le_refl _) _⟩
theorem aM {B : Nat} {a w : World} (h : Below B a w) (n : Nat) : Below B a (w.drewN n) := ⟨h.os, h.tape, h.output, h.size, h.block⟩
theorem jn (v u : Value) (ds es : List Nat) (w : World) (h : Row w v ds) (h2 : Row w u es) (hd : Nd ds) (he : Nd es) :
  Calls prog 45 #[v, u] w fun e w' => e = .returned (.int .i64 (cmpN (val ds) (val es))) ∧ Below w.heap.size w w' := by
 obtain ⟨hm, a, c, rfl, hlc, hx⟩ := h
 obtain ⟨hm2, a2, c2, rfl, hlc2, hx2⟩ := h2
 have HX : Hid _ := hx
 have HX2 : Hid _ := hx2
 have HD : Hid (Nd ds) := hd
 have HE : Hid (Nd es) := he
 clear hx hx2 hd he
 by_cases hl : ds.length = es.length
 ·obtain ⟨n, hn⟩ : ∃ n, n = es.length := ⟨_, rfl⟩
  have HN : Hid (n = es.length) := hn
  have HM : Hid (ds.length = n) := by rw [hn]; exact hl
  rw [← hn] at hm2 hlc2 hl
  rw [hl] at hm hlc
  rw [hl, ← hn]
  clear hn hl
  go_enter func45, ntmps45
  go_wp2_with fail
  go_loopw [5] (fun i wr => ∃ k : Nat, k ≤ n ∧ i = .int .i64 ((k : Int) - 1) ∧ Below w.heap.size w wr ∧ Hid (ds.drop k = es.drop k)) (fun i _ => (intOf i + 1).toNat)
  case atStart => exact ⟨n, Nat.le_refl _, rfl, Below.refl _ _, by show ds.drop n = es.drop n; rw [List.drop_of_length_le (by rw [HM.out]; exact Nat.le_refl _), List.drop_of_length_le (by rw [HN.out]; exact Nat.le_refl _)]⟩
  case round =>
   obtain ⟨k, hk, rfl, hbel, hsame⟩ := hrel
   by_cases h0 : k = 0
   ·subst h0
    go_wp2_with fail
    go_ret
    have : ds = es := by have := hsame.out; simpa using this
    subst this
    exact ⟨by rw [mI]; rfl, hbel⟩
   ·obtain ⟨k, rfl⟩ : ∃ j, k = j + 1 := ⟨k - 1, by omega⟩
    obtain ⟨b, off, rfl, ⟨hb, _⟩, hc⟩ := HX.out (by have := HM.out; omega)
    obtain ⟨b2, off2, rfl, ⟨hb2, _⟩, hc2⟩ := HX2.out (by have := HN.out; omega)
    have hcell := (hbel.cell (p := ⟨b, off + k, none⟩) hb).trans (hc k (by have := HM.out; omega))
    have hcell2 := (hbel.cell (p := ⟨b2, off2 + k, none⟩) hb2).trans (hc2 k (by have := HN.out; omega))
    clear hc HX hc2 HX2
    have b1' := bW HD.out.sm k
    have b2' := bW HE.out.sm k
    have i1 : (0 : Int) ≤ (k : Int) := by omega
    have i2 : (k : Int) < n := by omega
    rw [show ((k + 1 : Nat) : Int) - 1 = (k : Int) by omega]
    rcases (show dg ds k < dg es k ∨ dg es k < dg ds k ∨ dg ds k = dg es k by omega) with hlt | hgt | heq
    ·have t1 : decide (dg ds k < dg es k) = true := by simp [hlt]
     go_wp2_with fail
     go_quiet (fail)
     have hbel := aM hbel nq
     generalize wr.drewN nq = wq at *
     clear hcell hcell2
     go_wp2_with fail
     go_ret
     exact ⟨by rw [jk (lq HD.out.sm HE.out.sm (by rw [HM.out, HN.out]) k (by have := HM.out; omega) hsame.out (by unfold dg at hlt; omega))]; rfl, hbel⟩
    ·have t1 : decide (dg ds k < dg es k) = false := by simp; omega
     have t2 : decide (dg es k < dg ds k) = true := by simp; omega
     go_wp2_with fail
     go_quiet (fail)
     have hcell' : (wr.drewN nq).cell? ⟨b, off + k, none⟩ = some (.int .u64 (dg ds k)) := hcell
     have hcell2' : (wr.drewN nq).cell? ⟨b2, off2 + k, none⟩ = some (.int .u64 (dg es k)) := hcell2
     have hbel := aM hbel nq
     clear hcell hcell2
     generalize wr.drewN nq = wq at *
     go_wp2_with fail
     go_quiet (fail)
     have hbel := aM hbel nq
     generalize wq.drewN nq = wp at *
     clear hcell' hcell2'
     go_wp2_with fail
     go_ret
     exact ⟨by rw [jj (lq HE.out.sm HD.out.sm (by rw [HM.out, HN.out]) k (by have := HN.out; omega) hsame.out.symm (by unfold dg at hgt; omega))]; rfl, hbel⟩
    ·have t1 : decide (dg ds k < dg es k) = false := by simp; omega
     have t2 : decide (dg es k < dg ds k) = false := by simp; omega
     have hs' : Hid (ds.drop k = es.drop k) := nZ (by rw [HM.out, HN.out]) k (by have := HM.out; omega) hsame.out (by unfold dg at heq; omega)
     have HQ : Hid (dg ds k = dg es k) := heq
     clear heq
     go_wp2_with fail
     go_quiet (fail)
     have hcell' : (wr.drewN nq).cell? ⟨b, off + k, none⟩ = some (.int .u64 (dg ds k)) := hcell
     have hcell2' : (wr.drewN nq).cell? ⟨b2, off2 + k, none⟩ = some (.int .u64 (dg es k)) := hcell2
     have hbel := aM hbel nq
     clear hcell hcell2
     generalize wr.drewN nq = wq at *
     go_wp2_with fail
     go_quiet (fail)
     have hbel := aM hbel nq
     generalize wq.drewN nq = wp at *
     clear hcell' hcell2'
     go_wp2_with fail
     exact ⟨⟨k, by omega, rfl, hbel, hs'⟩, by simp [intOf]⟩
 ·have hl' : ((ds.length : Int) == (es.length : Int)) = false := by rw [beq_eq_false_iff_ne]; omega
  rcases (show ds.length < es.length ∨ es.length < ds.length by omega) with hlt | hgt
  ·have F : Hid _ := jk (HD.out.len_lt HE.out hlt)
   generalize ds.length = n at *
   generalize es.length = m at *
   go_enter func45, ntmps45
   go_wp2_with fail
   go_ret
   exact ⟨by rw [F.out]; rfl, Below.refl _ _⟩
  ·have F : Hid _ := jj (HE.out.len_lt HD.out hgt)
   generalize ds.length = n at *
   generalize es.length = m at *
   go_enter func45, ntmps45
   go_wp2_with fail
   go_ret
   exact ⟨by rw [F.out]; rfl, Below.refl _ _⟩
theorem gM (v u : Value) (x y : Nat) (w : World) (h : Nm w v x) (h2 : Nm w u y) :
  Calls prog 45 #[v, u] w fun e w' => e = .returned (.int .i64 (cmpN x y)) ∧ Below w.heap.size w w' := by
 obtain ⟨ds, r, n, rfl⟩ := h
 obtain ⟨es, r2, n2, rfl⟩ := h2
 exact jn v u ds es w r r2 n n2
theorem qm : (prog.info? 23).map (fun i => (i.zero, i.size, i.bytes)) = some (some (.int .u64 0), 1, 8) := by kernel_rfl
def cl (cs : List Nat) : List Value := cs.map fun (d : Nat) => Value.int .u64 (d : Int)
theorem sN (cs : List Nat) (d : Nat) : cl cs ++ [.int .u64 (d : Int)] = cl (cs ++ [d]) := by simp [cl]
theorem pW (cs : List Nat) (k : Nat) (h : k < cs.length) : (cl cs)[k]? = some (.int .u64 (dg cs k)) := by simp [cl, dg, h]
structure Owns (w : World) (B : Nat) (v : Value) (cs : List Nat) : Prop where
 own : w.ownsRow B 23 1 v cs.length (cl cs)
theorem qP (w : World) (B : Nat) : Owns w B (.slice none 0 0) [] := ⟨World.ownsRow_nil _ _ _ _⟩
theorem Owns.row {w : World} {B : Nat} {v : Value} {cs : List Nat} (h : Owns w B v cs) (hm : cs.length ≤ 200) : Row w v cs := by
 obtain ⟨hl, h2⟩ := h.own
 rcases h2 with ⟨rfl, h0⟩ | ⟨g, cap, cur, rfl, hb, hg, hcap, hcm, hcs, htk⟩
 ·exact ⟨hm, none, 0, by rw [h0], by omega, fun h => by omega⟩
 ·refine ⟨hm, _, cap, rfl, hcap, fun h0 => ⟨g, 0, rfl, ⟨?_, cur, _, hg⟩, fun k hk => ?_⟩⟩
  ·rcases Nat.lt_or_ge g w.heap.size with hlt | hge
   ·exact hlt
   ·rw [Array.getElem?_eq_none hge] at hg; cases hg
  ·have ho : w.ownsRow B 23 1 (.slice (some ⟨g, 0, none⟩) cs.length cap) cs.length (cl cs) := ⟨hl, Or.inr ⟨g, cap, cur, rfl, hb, hg, hcap, hcm, hcs, htk⟩⟩
   rw [Nat.zero_add, ho.cellAt k (by omega), pW cs k hk]
theorem Owns.block {w : World} {B : Nat} {v : Value} {cs : List Nat} (h : Owns w B v cs) : ∀ k, v.ownBlock = some k → B ≤ k := by
 obtain ⟨hl, h2⟩ := h.own
 rcases h2 with ⟨rfl, h0⟩ | ⟨g, cap, cur, rfl, hb, _⟩
 ·intro k hk; simp [Value.ownBlock] at hk
 ·intro k hk; simp [Value.ownBlock] at hk; omega
theorem nH {w : World} {ops : Array Oper} {rest : List Oper} {o : Oper} {a : Act} {Q : Exit → Act → World → Prop} {T : TypeId} (hgd : o.guard = none) (s x : Operand)
  (ho : o.op = .call { callee := .builtin .append, args := #[s, x], argTypes := #[58, 58] })
  (B : Nat) (cs : List Nat) (v : Value) (d : Int) (hs : a.eval s = v) (hx : a.eval x = .slice (some ⟨w.heap.size, 0, none⟩) 1 1) (hd : 0 ≤ d)
  (hown : Owns w B v cs) (hB : B ≤ w.heap.size) (hl : cs.length ≤ 300)
  (h : ∀ v' w', Owns w' B v' (cs ++ [d.toNat]) → Below B w w' → wpList prog ops Q rest (a.put o.dst v') w') :
  wpList prog ops Q (o :: rest) a (w.alloc (.cells #[.int .u64 d] T)) := by
 obtain ⟨i0, hi, hz0, hz1, hz2⟩ := info_parts qm
 refine wpList_append_own _ hgd s x 58 ho B 23 i0 (.int .u64 0) 1 8 underlying58 hi hz0 hz1 hz2 rfl (by decide) v cs.length (cl cs) hs (hown.own.alloc _) ⟨w.heap.size, 0, none⟩ 1 1 [.int .u64 d] hx rfl ?_ ?_ ?_ ?_ ?_ ?_
 ·intro j u hj
  match j, hj with
  | 0, hj => simp at hj; subst hj; simp [Addr.add]
 ·intro u hu; simp at hu; subst hu; rfl
 ·unfold maxLen; omega
 ·omega
 ·simp; omega
 ·intro v' w' hown' hgrow _
  refine h v' w' ?_ ?_
  ·have e : cl cs ++ [.int .u64 d] = cl (cs ++ [d.toNat]) := by rw [← sN, Int.toNat_of_nonneg hd]
   refine ⟨?_⟩
   rw [List.length_append, List.length_singleton, ← e]
   exact hown'
  ·exact ((Below.refl _ _).alloc hB _).grown hgrow (by simp; omega) hown.block
theorem cD {ds : List Nat} {k : Nat} (h : ds.length ≤ k) : ds.getD k 0 = 0 := by simp [h]
theorem dE (q x y : Nat) (hq : q ≤ 1) (hx : x < 4294967296) (hy : y < 4294967296) : (q + x + y) / 4294967296 ≤ 1 := by omega
theorem oO (v u : Value) (ds es : List Nat) (w : World) (h : Row w v ds) (h2 : Row w u es) (hd : Sm ds) (he : Sm es) (h100 : ds.length ≤ 100) (h101 : es.length ≤ 100) :
  Calls prog 47 #[v, u] w fun e w' => (∃ r, e = .returned r ∧ Nm w' r (val ds + val es)) ∧ Below w.heap.size w w' := by
 obtain ⟨hm, a, c, rfl, hlc, hx⟩ := h
 obtain ⟨hm2, a2, c2, rfl, hlc2, hx2⟩ := h2
 have HX : Hid _ := hx
 have HX2 : Hid _ := hx2
 have HD : Hid (Sm ds) := hd
 have HE : Hid (Sm es) := he
 clear hx hx2 hd he
 obtain ⟨n, hn⟩ : ∃ n, n = ds.length := ⟨_, rfl⟩
 obtain ⟨m, hmm⟩ : ∃ m, m = es.length := ⟨_, rfl⟩
 have HN : Hid (n = ds.length) := hn
 have HM : Hid (m = es.length) := hmm
 rw [← hn] at hm hlc h100
 rw [← hmm] at hm2 hlc2 h101
 rw [← hn, ← hmm]
 clear hn hmm
 go_enter func47, ntmps47
 go_wp2_with fail
 go_loopw [5, 6, 7] (fun r s i wr => ∃ k q : Nat, k ≤ 101 ∧ (n < k ∧ m < k → q = 0) ∧ i = .int .i64 k ∧ s = .int .u64 q ∧ q ≤ 1 ∧ (k ≤ n ∨ k ≤ m ∨ (k = n + 1 ∨ k = m + 1)) ∧ Below w.heap.size w wr ∧ Hid (∃ cs, Owns wr w.heap.size r cs ∧ cs.length = k ∧ Sm cs ∧ val cs + pw k * q = val (ds.take k) + val (es.take k))) (fun _ _ i _ => 200 - (intOf i).toNat)
 case atStart => exact ⟨0, 0, by omega, fun _ => rfl, rfl, rfl, by omega, by omega, Below.refl _ _, [], qP _ _, rfl, ww, by simp [val, pw]⟩
 case round =>
  obtain ⟨k, q, hk, hq0, rfl, rfl, hq, hkk, hbel, hcs⟩ := hrel
  have hsz := hbel.size
  by_cases hA : k < n
  ·by_cases hB : k < m
   ·have hkn : k < n := by omega
    obtain ⟨b, off, rfl, ⟨hb, _⟩, hc⟩ := HX.out (by have := HN.out; omega)
    have hcell := (hbel.cell (p := ⟨b, off + k, none⟩) hb).trans (hc k (by have := HN.out; omega))
    clear hc HX
    have hkm : k < m := by omega
    obtain ⟨b2, off2, rfl, ⟨hb2, _⟩, hc2⟩ := HX2.out (by have := HM.out; omega)
    have hcell2 := (hbel.cell (p := ⟨b2, off2 + k, none⟩) hb2).trans (hc2 k (by have := HM.out; omega))
    clear hc2 HX2
    have b1 := bW HD.out k
    have b2' := bW HE.out k
    obtain ⟨cs, hown, hlen, hsm, hval⟩ := hcs.out
    have H1 : Hid _ := hlen
    have H2 : Hid _ := hsm
    have H3 : Hid _ := hval
    have H4 : Hid _ := hown
    clear hlen hsm hval hcs hown
    go_wp2_with (at_builtin; refine nH rfl _ _ rfl w.heap.size cs _ (((q : Int) + dg ds k + dg es k) % 4294967296) (by rfl) (by rfl) (by omega) H4.out hsz (by have := H1.out; omega) ?_; intro v' w1 hown' hbel')
    have R := dF (pw k) (val (ds.take k)) (val (es.take k)) q (ds.getD k 0) (es.getD k 0) (val cs) H3.out
    rw [← aH, ← aH, ← cy] at R
    have e1 : (((q : Int) + dg ds k + dg es k) % 4294967296).toNat = (q + ds.getD k 0 + es.getD k 0) % 4294967296 := by
     unfold dg; omega
    have e2 : ((q : Int) + dg ds k + dg es k) / 4294967296 = (((q + ds.getD k 0 + es.getD k 0) / 4294967296 : Nat) : Int) := by
     unfold dg; omega
    have hq' := dE q _ _ hq (be k HD.out) (be k HE.out)
    have hlast : n < k + 1 ∧ m < k + 1 → (q + ds.getD k 0 + es.getD k 0) / 4294967296 = 0 := by intro h; omega
    rw [e1] at hown'
    have HF : Hid (∃ cs, Owns w1 w.heap.size v' cs ∧ cs.length = k + 1 ∧ Sm cs ∧ val cs + pw (k + 1) * ((q + ds.getD k 0 + es.getD k 0) / 4294967296) = val (ds.take (k + 1)) + val (es.take (k + 1))) :=
     ⟨_, hown', by simp [H1.out], eI H2.out (Nat.mod_lt _ (by decide)), by rw [cL, H1.out]; exact R⟩
    clear hown' R e1 H4
    generalize (q + ds.getD k 0 + es.getD k 0) / 4294967296 = q' at *
    have hbel1 : Below w.heap.size w w1 := hbel.trans hbel'
    clear hbel hbel'
    have E2 : Hid _ := e2
    clear e2
    go_wp2_with fail
    go_roundw
    case rel => exact ⟨k + 1, q', by omega, by omega, by go_num, by rw [E2.out], hq', by omega, hbel1, HF⟩
    case measure => simp [intOf]; omega
   ·have hkn : k < n := by omega
    obtain ⟨b, off, rfl, ⟨hb, _⟩, hc⟩ := HX.out (by have := HN.out; omega)
    have hcell := (hbel.cell (p := ⟨b, off + k, none⟩) hb).trans (hc k (by have := HN.out; omega))
    clear hc HX
    have hz2 : Hid (es.getD k 0 = 0) := cD (by have := HM.out; omega)
    have b1 := bW HD.out k
    have b2' := bW HE.out k
    obtain ⟨cs, hown, hlen, hsm, hval⟩ := hcs.out
    have H1 : Hid _ := hlen
    have H2 : Hid _ := hsm
    have H3 : Hid _ := hval
    have H4 : Hid _ := hown
    clear hlen hsm hval hcs hown
    go_wp2_with (at_builtin; refine nH rfl _ _ rfl w.heap.size cs _ (((q : Int) + dg ds k) % 4294967296) (by rfl) (by rfl) (by omega) H4.out hsz (by have := H1.out; omega) ?_; intro v' w1 hown' hbel')
    have R := dF (pw k) (val (ds.take k)) (val (es.take k)) q (ds.getD k 0) (es.getD k 0) (val cs) H3.out
    rw [← aH, ← aH, ← cy] at R
    have e1 : (((q : Int) + dg ds k) % 4294967296).toNat = (q + ds.getD k 0 + es.getD k 0) % 4294967296 := by
     have := hz2.out; unfold dg; omega
    have e2 : ((q : Int) + dg ds k) / 4294967296 = (((q + ds.getD k 0 + es.getD k 0) / 4294967296 : Nat) : Int) := by
     have := hz2.out; unfold dg; omega
    have hq' := dE q _ _ hq (be k HD.out) (be k HE.out)
    have hlast : n < k + 1 ∧ m < k + 1 → (q + ds.getD k 0 + es.getD k 0) / 4294967296 = 0 := by intro h; omega
    rw [e1] at hown'
    have HF : Hid (∃ cs, Owns w1 w.heap.size v' cs ∧ cs.length = k + 1 ∧ Sm cs ∧ val cs + pw (k + 1) * ((q + ds.getD k 0 + es.getD k 0) / 4294967296) = val (ds.take (k + 1)) + val (es.take (k + 1))) :=
     ⟨_, hown', by simp [H1.out], eI H2.out (Nat.mod_lt _ (by decide)), by rw [cL, H1.out]; exact R⟩
    clear hown' R e1 H4
    generalize (q + ds.getD k 0 + es.getD k 0) / 4294967296 = q' at *
    have hbel1 : Below w.heap.size w w1 := hbel.trans hbel'
    clear hbel hbel'
    have E2 : Hid _ := e2
    clear e2
    go_wp2_with fail
    go_roundw
    case rel => exact ⟨k + 1, q', by omega, by omega, by go_num, by rw [E2.out], hq', by omega, hbel1, HF⟩
    case measure => simp [intOf]; omega
  ·by_cases hB : k < m
   ·have hz1 : Hid (ds.getD k 0 = 0) := cD (by have := HN.out; omega)
    have hkm : k < m := by omega
    obtain ⟨b2, off2, rfl, ⟨hb2, _⟩, hc2⟩ := HX2.out (by have := HM.out; omega)
    have hcell2 := (hbel.cell (p := ⟨b2, off2 + k, none⟩) hb2).trans (hc2 k (by have := HM.out; omega))
    clear hc2 HX2
    have b1 := bW HD.out k
    have b2' := bW HE.out k
    obtain ⟨cs, hown, hlen, hsm, hval⟩ := hcs.out
    have H1 : Hid _ := hlen
    have H2 : Hid _ := hsm
    have H3 : Hid _ := hval
    have H4 : Hid _ := hown
    clear hlen hsm hval hcs hown
    go_wp2_with (at_builtin; refine nH rfl _ _ rfl w.heap.size cs _ (((q : Int) + dg es k) % 4294967296) (by rfl) (by rfl) (by omega) H4.out hsz (by have := H1.out; omega) ?_; intro v' w1 hown' hbel')
    have R := dF (pw k) (val (ds.take k)) (val (es.take k)) q (ds.getD k 0) (es.getD k 0) (val cs) H3.out
    rw [← aH, ← aH, ← cy] at R
    have e1 : (((q : Int) + dg es k) % 4294967296).toNat = (q + ds.getD k 0 + es.getD k 0) % 4294967296 := by
     have := hz1.out; unfold dg; omega
    have e2 : ((q : Int) + dg es k) / 4294967296 = (((q + ds.getD k 0 + es.getD k 0) / 4294967296 : Nat) : Int) := by
     have := hz1.out; unfold dg; omega
    have hq' := dE q _ _ hq (be k HD.out) (be k HE.out)
    have hlast : n < k + 1 ∧ m < k + 1 → (q + ds.getD k 0 + es.getD k 0) / 4294967296 = 0 := by intro h; omega
    rw [e1] at hown'
    have HF : Hid (∃ cs, Owns w1 w.heap.size v' cs ∧ cs.length = k + 1 ∧ Sm cs ∧ val cs + pw (k + 1) * ((q + ds.getD k 0 + es.getD k 0) / 4294967296) = val (ds.take (k + 1)) + val (es.take (k + 1))) :=
     ⟨_, hown', by simp [H1.out], eI H2.out (Nat.mod_lt _ (by decide)), by rw [cL, H1.out]; exact R⟩
    clear hown' R e1 H4
    generalize (q + ds.getD k 0 + es.getD k 0) / 4294967296 = q' at *
    have hbel1 : Below w.heap.size w w1 := hbel.trans hbel'
    clear hbel hbel'
    have E2 : Hid _ := e2
    clear e2
    go_wp2_with fail
    go_roundw
    case rel => exact ⟨k + 1, q', by omega, by omega, by go_num, by rw [E2.out], hq', by omega, hbel1, HF⟩
    case measure => simp [intOf]; omega
   ·by_cases hq1 : 0 < q
    ·have hz1 : Hid (ds.getD k 0 = 0) := cD (by have := HN.out; omega)
     have hz2 : Hid (es.getD k 0 = 0) := cD (by have := HM.out; omega)
     have b1 := bW HD.out k
     have b2' := bW HE.out k
     obtain ⟨cs, hown, hlen, hsm, hval⟩ := hcs.out
     have H1 : Hid _ := hlen
     have H2 : Hid _ := hsm
     have H3 : Hid _ := hval
     have H4 : Hid _ := hown
     clear hlen hsm hval hcs hown
     go_wp2_with (at_builtin; refine nH rfl _ _ rfl w.heap.size cs _ (((q : Int)) % 4294967296) (by rfl) (by rfl) (by omega) H4.out hsz (by have := H1.out; omega) ?_; intro v' w1 hown' hbel')
     have R := dF (pw k) (val (ds.take k)) (val (es.take k)) q (ds.getD k 0) (es.getD k 0) (val cs) H3.out
     rw [← aH, ← aH, ← cy] at R
     have e1 : (((q : Int)) % 4294967296).toNat = (q + ds.getD k 0 + es.getD k 0) % 4294967296 := by
      have := hz1.out; have := hz2.out; omega
     have e2 : ((q : Int)) / 4294967296 = (((q + ds.getD k 0 + es.getD k 0) / 4294967296 : Nat) : Int) := by
      have := hz1.out; have := hz2.out; omega
     have hq' := dE q _ _ hq (be k HD.out) (be k HE.out)
     have hlast : n < k + 1 ∧ m < k + 1 → (q + ds.getD k 0 + es.getD k 0) / 4294967296 = 0 := by intro h; have := hz1.out; have := hz2.out; omega
     rw [e1] at hown'
     have HF : Hid (∃ cs, Owns w1 w.heap.size v' cs ∧ cs.length = k + 1 ∧ Sm cs ∧ val cs + pw (k + 1) * ((q + ds.getD k 0 + es.getD k 0) / 4294967296) = val (ds.take (k + 1)) + val (es.take (k + 1))) :=
      ⟨_, hown', by simp [H1.out], eI H2.out (Nat.mod_lt _ (by decide)), by rw [cL, H1.out]; exact R⟩
     clear hown' R e1 H4
     generalize (q + ds.getD k 0 + es.getD k 0) / 4294967296 = q' at *
     have hbel1 : Below w.heap.size w w1 := hbel.trans hbel'
     clear hbel hbel'
     have E2 : Hid _ := e2
     clear e2
     go_wp2_with fail
     go_roundw
     case rel => exact ⟨k + 1, q', by omega, by omega, by go_num, by rw [E2.out], hq', by omega, hbel1, HF⟩
     case measure => simp [intOf]; omega
    ·obtain rfl : q = 0 := by omega
     obtain ⟨cs, hown, hlen, hsm, hval⟩ := hcs.out
     have H0 : Hid (Row wr _ cs) := hown.row (by omega)
     have H2 : Hid _ := hsm
     have H3 : Hid (val cs = val ds + val es) := by
      rw [aK ds k (by have := HN.out; omega), aK es k (by have := HM.out; omega)] at hval
      show val cs = val ds + val es
      omega
     clear hlen hsm hval hown hcs
     go_wp2_with fail
     refine (fy _ cs _ H0.out H2.out).mono ?_
     rintro e w1 ⟨⟨u, rfl, hn⟩, rfl⟩
     rw [H3.out] at hn
     have HR : Hid _ := hn
     clear hn
     go_wp2_with fail
     go_ret
     exact ⟨⟨_, rfl, HR.out⟩, hbel⟩
theorem mk1 {w : World} {ops : Array Oper} {rest : List Oper} {o : Oper} {a : Act} {Q : Exit → Act → World → Prop} (hgd : o.guard = none) (l c : Operand) (ho : o.op = Op.makeSlice 58 l c)
  (n : Nat) (L C : Int) (hl : a.eval l = .int .i64 L) (hc : a.eval c = .int .i64 C) (hL : L = n) (hC : C = n) (hn : n ≤ 300)
  (h : ∀ w', Owns w' w.heap.size (.slice (some ⟨w.heap.size, 0, none⟩) n n) (List.replicate n 0) → Below w.heap.size w w' → wpList prog ops Q rest (a.put o.dst (.slice (some ⟨w.heap.size, 0, none⟩) n n)) w') :
  wpList prog ops Q (o :: rest) a w := by
 obtain ⟨i0, hi, hz0, hz1, hz2⟩ := info_parts qm
 refine wpList_make_full w hgd l c 58 ho w.heap.size 23 i0 (.int .u64 0) 1 underlying58 hi hz0 hz1 .i64 .i64 L C n hl hc hL hC (by rw [hz2]; omega) (by unfold maxLen; omega) (Nat.le_refl _) ?_
 intro w' hown hg
 refine h w' ?_ ((Below.refl _ _).grown hg (Nat.le_refl _) (fun k hk => by cases hk))
 have e : (madeCells (Value.int .u64 0).cells (n * 1)).toList = cl (List.replicate n 0) := by
  rw [Nat.mul_one]
  show (madeCells #[Value.int .u64 0] n).toList = _
  rw [toList_madeCells_one]
  simp [cl]
 refine ⟨?_⟩
 rw [List.length_replicate, ← e]
 exact hown
theorem Owns.set {w : World} {B g n : Nat} {cs : List Nat} (h : Owns w B (.slice (some ⟨g, 0, none⟩) n n) cs) (hl : cs.length = n) (j : Nat) (d : Int) (hd : 0 ≤ d) :
  Owns (w.setCell ⟨g, j, none⟩ (.int .u64 d)) B (.slice (some ⟨g, 0, none⟩) n n) (cs.set j d.toNat) := by
 subst hl
 have := (World.ownsRow.stored h.own j (.int .u64 d)).1
 refine ⟨?_⟩
 rw [List.length_set]
 have e : cl (cs.set j d.toNat) = (cl cs).set j (.int .u64 d) := by simp [cl, List.map_set, Int.toNat_of_nonneg hd]
 rw [e]
 exact this
theorem Owns.cell {w : World} {B g n : Nat} {cs : List Nat} (h : Owns w B (.slice (some ⟨g, 0, none⟩) n n) cs) (hl : cs.length = n) (j : Nat) (hj : j < n) : w.cell? ⟨g, j, none⟩ = some (.int .u64 (dg cs j)) := by
 subst hl
 rw [World.ownsRow.cellAt h.own j (by omega), pW cs j hj]
theorem Owns.free {w : World} {B g n : Nat} {cs : List Nat} (h : Owns w B (.slice (some ⟨g, 0, none⟩) n n) cs) (hl : cs.length = n) (j : Nat) : w.frozen? ⟨g, j, none⟩ = false := by
 subst hl
 exact World.ownsRow.frozenAt h.own j
theorem jV (cs : List Nat) (k d : Nat) (h : k < cs.length) : val ((cs.set k d).take (k + 1)) = val (cs.take k) + pw k * d := by
 rw [aL _ k (by simpa using h)]
 have e1 : (cs.set k d).take k = cs.take k := by rw [List.take_set]; exact List.set_eq_of_length_le (by rw [List.length_take]; omega)
 have e2 : (cs.set k d).getD k 0 = d := by simp [h]
 rw [e1, e2]
theorem Owns.len {w : World} {B g n c : Nat} {cs : List Nat} (h : Owns w B (.slice (some ⟨g, 0, none⟩) n c) cs) : cs.length = n := by
 obtain ⟨_, h2⟩ := h.own
 rcases h2 with ⟨h, _⟩ | ⟨g', cap, cur, h, _⟩
 ·cases h
 ·injection h with _ h _; exact h.symm
theorem oI (p A C b x y s X : Nat) (hX : X + b + y = x + 4294967296) (h : s + C = A + p * b) :
  s + p * (X % 4294967296) + (C + p * y) + (4294967296 * p) * (X / 4294967296) = (A + p * x) + 4294967296 * p := by
 have e := Nat.div_add_mod X 4294967296
 generalize X % 4294967296 = m at *
 generalize X / 4294967296 = q at *
 subst e
 have h1 : p * (4294967296 * q + m + b + y) = p * (x + 4294967296) := by rw [hX]
 simp only [Nat.mul_add] at h1
 rw [Nat.mul_comm 4294967296 p, Nat.mul_assoc]
 omega
theorem mh (S q' z P V E D : Nat) (hz : z ≤ 1) (hq : q' + z = 1) (R : S + E + P * z = D + P) : S + E = D + P * q' := by
 rcases (show z = 0 ∨ z = 1 by omega) with rfl | rfl
 ·obtain rfl : q' = 1 := by omega
  omega
 ·obtain rfl : q' = 0 := by omega
  omega
theorem jy (x y : Int) (q X : Nat) (hX : (X : Int) + q + y = x + 4294967296) : (x + 4294967296 - (q : Int) - y) % 4294967296 = ((X % 4294967296 : Nat) : Int) ∧ (x + 4294967296 - (q : Int) - y) / 4294967296 = ((X / 4294967296 : Nat) : Int) := by
 have : x + 4294967296 - (q : Int) - y = X := by omega
 rw [this]
 exact ⟨rfl, rfl⟩
theorem iV (ds es cs : List Nat) (k q : Nat) (hq : q ≤ 1) (hd : Sm ds) (he : Sm es) (hk : k < cs.length) (h : val (cs.take k) + val (es.take k) = val (ds.take k) + pw k * q) :
  ∃ d q' : Nat, d < 4294967296 ∧ q' ≤ 1 ∧ (dg ds k + 4294967296 - (q : Int) - dg es k) % 4294967296 = d ∧ 1 - (dg ds k + 4294967296 - (q : Int) - dg es k) / 4294967296 = q' ∧
   val ((cs.set k d).take (k + 1)) + val (es.take (k + 1)) = val (ds.take (k + 1)) + pw (k + 1) * q' := by
 have s1 := be k hd
 have s2 := be k he
 obtain ⟨X, hX⟩ : ∃ X, X + q + es.getD k 0 = ds.getD k 0 + 4294967296 := by
  obtain ⟨X, hX⟩ := Nat.exists_eq_add_of_le (show q + es.getD k 0 ≤ ds.getD k 0 + 4294967296 by omega)
  exact ⟨X, by omega⟩
 have R := oI (pw k) (val (ds.take k)) (val (es.take k)) q (ds.getD k 0) (es.getD k 0) (val (cs.take k)) X hX h
 rw [← aH, ← aH, ← cy] at R
 have hz : X / 4294967296 ≤ 1 := by omega
 obtain ⟨q', hq'⟩ : ∃ q', q' + X / 4294967296 = 1 := by
  rcases (show X / 4294967296 = 0 ∨ X / 4294967296 = 1 by omega) with e | e
  ·exact ⟨1, by omega⟩
  ·exact ⟨0, by omega⟩
 obtain ⟨e1, e2⟩ := jy (dg ds k) (dg es k) q X (by unfold dg; omega)
 refine ⟨X % 4294967296, q', by omega, by omega, e1, by rw [e2]; omega, ?_⟩
 rw [jV cs k _ hk]
 exact mh _ q' (X / 4294967296) _ 0 _ _ hz hq' R
theorem mg (ds es cs : List Nat) (k q : Nat) (hq : q ≤ 1) (hd : Sm ds) (he : Sm es) (hk : k < cs.length) (hz : es.length ≤ k) (h : val (cs.take k) + val (es.take k) = val (ds.take k) + pw k * q) :
  ∃ d q' : Nat, d < 4294967296 ∧ q' ≤ 1 ∧ (dg ds k + 4294967296 - (q : Int)) % 4294967296 = d ∧ 1 - (dg ds k + 4294967296 - (q : Int)) / 4294967296 = q' ∧
   val ((cs.set k d).take (k + 1)) + val (es.take (k + 1)) = val (ds.take (k + 1)) + pw (k + 1) * q' := by
 have := iV ds es cs k q hq hd he hk h
 have e : dg es k = 0 := by unfold dg; rw [cD hz]; rfl
 rw [e, Int.sub_zero] at this
 exact this
theorem mi (v u : Value) (ds es : List Nat) (w : World) (h : Row w v ds) (h2 : Row w u es) (hd : Sm ds) (he : Sm es) (h100 : ds.length ≤ 200) (h101 : es.length ≤ 200) (hll : es.length ≤ ds.length) (hle : val es ≤ val ds) :
  Calls prog 46 #[v, u] w fun e w' => (∃ r, e = .returned r ∧ Nm w' r (val ds - val es)) ∧ Below w.heap.size w w' := by
 have HLL : Hid (es.length ≤ ds.length) := hll
 have HLE : Hid (val es ≤ val ds) := hle
 clear hll hle
 obtain ⟨hm, a, c, rfl, hlc, hx⟩ := h
 obtain ⟨hm2, a2, c2, rfl, hlc2, hx2⟩ := h2
 have HX : Hid _ := hx
 have HX2 : Hid _ := hx2
 have HD : Hid (Sm ds) := hd
 have HE : Hid (Sm es) := he
 clear hx hx2 hd he
 obtain ⟨n, hn⟩ : ∃ n, n = ds.length := ⟨_, rfl⟩
 obtain ⟨m, hmm⟩ : ∃ m, m = es.length := ⟨_, rfl⟩
 have HN : Hid (n = ds.length) := hn
 have HM : Hid (m = es.length) := hmm
 rw [← hn] at hm hlc h100
 rw [← hmm] at hm2 hlc2 h101
 rw [← hn, ← hmm]
 clear hn hmm
 go_enter func46, ntmps46
 go_wp2_with (at_make; refine mk1 rfl _ _ rfl n _ _ (by rfl) (by rfl) rfl rfl (by omega) ?_; intro w1 hown hbel)
 obtain ⟨B, hB⟩ : ∃ B, B = w.heap.size := ⟨_, rfl⟩
 rw [← hB] at hown hbel
 rw [← hB]
 have HB : Hid (B = w.heap.size) := hB
 have hown' := (show Hid _ from hown)
 clear hB hown
 go_loopw [6, 14] (fun s i wr => ∃ k q : Nat, k ≤ n ∧ i = .int .i64 k ∧ s = .int .u64 q ∧ q ≤ 1 ∧ Below B w wr ∧ Hid (∃ cs, Owns wr B (.slice (some ⟨B, 0, none⟩) n n) cs ∧ Sm cs ∧ val (cs.take k) + val (es.take k) = val (ds.take k) + pw k * q)) (fun _ i _ => n - (intOf i).toNat)
 case atStart => exact ⟨0, 0, by omega, rfl, rfl, by omega, hbel, _, hown'.out, dK _, by simp [val, pw]⟩
 case round =>
  clear hown' hbel
  obtain ⟨k, q, hk, rfl, rfl, hq, hbel, hcs⟩ := hrel
  obtain ⟨cs, hown, hsm, hval⟩ := hcs.out
  have H1 : Hid (cs.length = n) := hown.len
  have H2 : Hid _ := hsm
  have H3 : Hid _ := hval
  have H4 : Hid _ := hown
  clear hcs hsm hval
  by_cases hkn : k < n
  ·by_cases hB : k < m
   ·have hkn : k < n := by omega
    obtain ⟨b, off, rfl, ⟨hb, _⟩, hc⟩ := HX.out (by have := HN.out; omega)
    have hcell := (hbel.cell (p := ⟨b, off + k, none⟩) (by rw [HB.out]; exact hb)).trans (hc k (by have := HN.out; omega))
    have hc0 := hown.cell H1.out k hkn
    have hf0 := hown.free H1.out k
    clear hc HX hown
    obtain ⟨b2, off2, rfl, ⟨hb2, _⟩, hc2⟩ := HX2.out (by have := HM.out; omega)
    have hcell2 := (hbel.cell (p := ⟨b2, off2 + k, none⟩) (by rw [HB.out]; exact hb2)).trans (hc2 k (by have := HM.out; omega))
    clear hc2 HX2
    have b1 := bW HD.out k
    have b2' := bW HE.out k
    obtain ⟨d, q', hd', hq', e1, e2, hv⟩ := iV ds es cs k q hq HD.out HE.out (by have := H1.out; omega) H3.out
    have E1 : Hid _ := e1
    have E2 : Hid _ := e2
    have O : Hid (Owns (wr.setCell ⟨B, k, none⟩ (.int .u64 d)) B (.slice (some ⟨B, 0, none⟩) n n) (cs.set k d)) := by
     have := H4.out.set H1.out k (d : Int) (Int.natCast_nonneg _)
     rw [Int.toNat_natCast] at this
     exact this
    have HF : Hid (∃ cs', Owns (wr.setCell ⟨B, k, none⟩ (.int .u64 d)) B (.slice (some ⟨B, 0, none⟩) n n) cs' ∧ Sm cs' ∧ val (cs'.take (k + 1)) + val (es.take (k + 1)) = val (ds.take (k + 1)) + pw (k + 1) * q') :=
     ⟨_, O.out, jN H2.out hd', hv⟩
    have HB1 : Hid (Below B w (wr.setCell ⟨B, k, none⟩ (.int .u64 d))) := hbel.setCell (p := ⟨B, k, none⟩) (Nat.le_refl _) (.int .u64 d)
    clear e1 e2 O H3 H4 hv
    go_wp2_with fail
    rw [E1.out, E2.out]
    exact ⟨⟨k + 1, q', by omega, by go_num, rfl, by omega, HB1.out, HF⟩, by simp [intOf]; omega⟩
   ·have hkn : k < n := by omega
    obtain ⟨b, off, rfl, ⟨hb, _⟩, hc⟩ := HX.out (by have := HN.out; omega)
    have hcell := (hbel.cell (p := ⟨b, off + k, none⟩) (by rw [HB.out]; exact hb)).trans (hc k (by have := HN.out; omega))
    have hc0 := hown.cell H1.out k hkn
    have hf0 := hown.free H1.out k
    clear hc HX hown
    have hz2 : Hid (es.getD k 0 = 0) := cD (by have := HM.out; omega)
    have b1 := bW HD.out k
    have b2' := bW HE.out k
    obtain ⟨d, q', hd', hq', e1, e2, hv⟩ := mg ds es cs k q hq HD.out HE.out (by have := H1.out; omega) (by have := HM.out; omega) H3.out
    have E1 : Hid _ := e1
    have E2 : Hid _ := e2
    have O : Hid (Owns (wr.setCell ⟨B, k, none⟩ (.int .u64 d)) B (.slice (some ⟨B, 0, none⟩) n n) (cs.set k d)) := by
     have := H4.out.set H1.out k (d : Int) (Int.natCast_nonneg _)
     rw [Int.toNat_natCast] at this
     exact this
    have HF : Hid (∃ cs', Owns (wr.setCell ⟨B, k, none⟩ (.int .u64 d)) B (.slice (some ⟨B, 0, none⟩) n n) cs' ∧ Sm cs' ∧ val (cs'.take (k + 1)) + val (es.take (k + 1)) = val (ds.take (k + 1)) + pw (k + 1) * q') :=
     ⟨_, O.out, jN H2.out hd', hv⟩
    have HB1 : Hid (Below B w (wr.setCell ⟨B, k, none⟩ (.int .u64 d))) := hbel.setCell (p := ⟨B, k, none⟩) (Nat.le_refl _) (.int .u64 d)
    clear e1 e2 O H3 H4 hv
    go_wp2_with fail
    rw [E1.out, E2.out]
    exact ⟨⟨k + 1, q', by omega, by go_num, rfl, by omega, HB1.out, HF⟩, by simp [intOf]; omega⟩
  ·obtain rfl : k = n := by omega
   have H0 : Hid (Row wr _ cs) := H4.out.row (by have := H1.out; omega)
   have H3 : Hid (val cs = val ds - val es) := by
    have hv := H3.out
    rw [aK ds k (by have := HN.out; omega), aK es k (by have := HN.out; have := HLL.out; omega), aK cs k (by have := H1.out; omega)] at hv
    have hl := jU H2.out
    rw [H1.out] at hl
    have := HLE.out
    rcases (show q = 0 ∨ q = 1 by omega) with rfl | rfl
    ·show val cs = val ds - val es
     omega
    ·omega
   have hbel : Below w.heap.size w wr := by rw [← HB.out]; exact hbel
   clear hown
   go_wp2_with fail
   refine (fy _ cs _ H0.out H2.out).mono ?_
   rintro e w1 ⟨⟨u, rfl, hn⟩, rfl⟩
   rw [H3.out] at hn
   have HR : Hid _ := hn
   clear hn
   go_wp2_with fail
   go_ret
   exact ⟨⟨_, rfl, HR.out⟩, hbel⟩
theorem kJ (v u : Value) (x y : Nat) (w : World) (h : Nm w v x) (h2 : Nm w u y) (hle : y ≤ x) :
  Calls prog 46 #[v, u] w fun e w' => (∃ r, e = .returned r ∧ Nm w' r (x - y)) ∧ Below w.heap.size w w' := by
 obtain ⟨ds, r, n, rfl⟩ := h
 obtain ⟨es, r2, n2, rfl⟩ := h2
 exact mi v u ds es w r r2 n.sm n2.sm r.short r2.short (n2.len_le n hle) hle
def Zf (cs : List Nat) (k : Nat) : Prop := ∀ j, k ≤ j → cs.getD j 0 = 0
theorem jY (n k : Nat) : Zf (List.replicate n 0) k := fun j _ => by
 by_cases h : j < n <;> simp [h]
theorem sj {cs : List Nat} {k i d : Nat} (h : Zf cs k) (hi : i < k) : Zf (cs.set i d) k := fun j hj => by
 have := h j hj
 simp only [List.getD_eq_getElem?_getD, List.getElem?_set] at *
 rw [if_neg (by omega)]; exact this
theorem uB {cs : List Nat} {k i : Nat} (h : Zf cs k) (hi : k ≤ i) : Zf cs i := fun j hj => h j (by omega)
theorem kO {x y : Nat} (hx : x < 4294967296) (hy : y < 4294967296) : x * y ≤ 18446744065119617025 := by
 have := Nat.mul_le_mul (show x ≤ 4294967295 by omega) (show y ≤ 4294967295 by omega)
 omega
theorem rP (ds es cs : List Nat) (k l q T A : Nat) (hl : l < es.length) (hk : k + l < cs.length) (hd : Sm ds) (he : Sm es) (hc : Sm cs) (hq : q < 4294967296)
  (hT : T = q + (ds.getD k 0 * es.getD l 0 + cs.getD (k + l) 0)) (h : val cs + pw (k + l) * q = A + pw k * (ds.getD k 0 * val (es.take l))) :
  T / 4294967296 < 4294967296 ∧ val (cs.set (k + l) (T % 4294967296)) + pw (k + (l + 1)) * (T / 4294967296) = A + pw k * (ds.getD k 0 * val (es.take (l + 1))) := by
 have s3 := be (k + l) hc
 have hm := kO (be k hd) (be l he)
 constructor
 ·rw [hT]; omega
 ·have hs := nB cs (k + l) (T % 4294967296) hk
  have e := Nat.div_add_mod T 4294967296
  rw [aL es l hl, show k + (l + 1) = k + l + 1 by omega, cy]
  have hp : pw (k + l) * T = pw (k + l) * q + pw (k + l) * (ds.getD k 0 * es.getD l 0) + pw (k + l) * cs.getD (k + l) 0 := by rw [hT, Nat.mul_add, Nat.mul_add]; omega
  have hp2 : pw (k + l) * T = pw (k + l) * (T % 4294967296) + 4294967296 * pw (k + l) * (T / 4294967296) := by
   conv => lhs; rw [← e]
   rw [Nat.mul_add, Nat.mul_comm 4294967296 (pw (k + l)), Nat.mul_assoc]; omega
  have hp3 : pw k * (ds.getD k 0 * (val (es.take l) + pw l * es.getD l 0)) = pw k * (ds.getD k 0 * val (es.take l)) + pw (k + l) * (ds.getD k 0 * es.getD l 0) := by
   rw [Nat.mul_add, Nat.mul_add, r7, Nat.mul_left_comm (ds.getD k 0) (pw l), Nat.mul_assoc]
  omega
theorem p6 (ds es cs : List Nat) (k q : Nat) (hk : k + es.length < cs.length) (hkd : k < ds.length) (hz : cs.getD (k + es.length) 0 = 0)
  (h : val cs + pw (k + es.length) * q = val (ds.take k) * val es + pw k * (ds.getD k 0 * val (es.take es.length))) : val (cs.set (k + es.length) q) = val (ds.take (k + 1)) * val es := by
 have hs := nB cs (k + es.length) q hk
 rw [hz, Nat.mul_zero, Nat.add_zero, h, List.take_length] at hs
 rw [hs, aL ds k hkd, Nat.add_mul, Nat.mul_assoc]
theorem xB {cs : List Nat} {k : Nat} (h : Zf cs k) : dg cs k = 0 := by unfold dg; rw [h k (Nat.le_refl _)]; rfl
theorem lf (ds es cs : List Nat) (k l q : Nat) (hd : Sm ds) (he : Sm es) (hc : Sm cs) (hq : q ≤ 4294967295) : ∃ T : Nat, T = q + (ds.getD k 0 * es.getD l 0 + cs.getD (k + l) 0) ∧ T ≤ 18446744073709551615 ∧
  IntKind.u64.wrap (dg ds k * dg es l) = dg ds k * dg es l ∧ IntKind.u64.wrap (dg ds k * dg es l + dg cs (k + l)) = dg ds k * dg es l + dg cs (k + l) ∧
  IntKind.u64.wrap ((q : Int) + (dg ds k * dg es l + dg cs (k + l))) = (T : Int) := by
 have s3 := be (k + l) hc
 have hm := kO (be k hd) (be l he)
 have e : dg ds k * dg es l = ((ds.getD k 0 * es.getD l 0 : Nat) : Int) := by unfold dg; rw [Int.natCast_mul]
 refine ⟨_, rfl, by omega, ?_, ?_, ?_⟩
 ·rw [e, IntKind.wrap_u64]; omega
 ·rw [e, IntKind.wrap_u64]; unfold dg; omega
 ·rw [e, IntKind.wrap_u64]; unfold dg; omega
theorem sd (k l : Nat) (hk : k ≤ 1000) (hl : l ≤ 1000) : IntKind.i64.wrap ((k : Int) + (l : Int)) = (k : Int) + (l : Int) := by rw [IntKind.wrap_i64]; omega
theorem mw (v u : Value) (ds es : List Nat) (w : World) (h : Row w v ds) (h2 : Row w u es) (hd : Sm ds) (he : Sm es) (h100 : ds.length ≤ 100) (h101 : es.length ≤ 100) :
  Calls prog 23 #[v, u] w fun e w' => (∃ r, e = .returned r ∧ Nm w' r (val ds * val es)) ∧ Below w.heap.size w w' := by
 obtain ⟨hm, a, c, rfl, hlc, hx⟩ := h
 obtain ⟨hm2, a2, c2, rfl, hlc2, hx2⟩ := h2
 have HX : Hid _ := hx
 have HX2 : Hid _ := hx2
 have HD : Hid (Sm ds) := hd
 have HE : Hid (Sm es) := he
 clear hx hx2 hd he
 obtain ⟨n, hn⟩ : ∃ n, n = ds.length := ⟨_, rfl⟩
 obtain ⟨m, hmm⟩ : ∃ m, m = es.length := ⟨_, rfl⟩
 have HN : Hid (n = ds.length) := hn
 have HM : Hid (m = es.length) := hmm
 rw [← hn] at hm hlc h100
 rw [← hmm] at hm2 hlc2 h101
 rw [← hn, ← hmm]
 clear hn hmm
 go_enter func23, ntmps23
 go_wp2_with (at_make; refine mk1 rfl _ _ rfl (n + m) _ _ (by rfl) (by rfl) (by omega) (by omega) (by omega) ?_; intro w1 hown hbel)
 obtain ⟨B, hB⟩ : ∃ B, B = w.heap.size := ⟨_, rfl⟩
 rw [← hB] at hown hbel
 rw [← hB]
 have HB : Hid (B = w.heap.size) := hB
 have hown' := (show Hid _ from hown)
 clear hB hown
 go_loopw [17] (fun i wr => ∃ k : Nat, k ≤ n ∧ i = .int .i64 k ∧ Below B w wr ∧ Hid (∃ cs, Owns wr B (.slice (some ⟨B, 0, none⟩) (n + m) (n + m)) cs ∧ Sm cs ∧ val cs = val (ds.take k) * val es ∧ Zf cs (k + m))) (fun i _ => n - (intOf i).toNat)
 case atStart => exact ⟨0, by omega, rfl, hbel, _, hown'.out, dK _, by simp [val, eV], jY _ _⟩
 case round =>
  clear hown' hbel
  obtain ⟨k, hk, rfl, hbel, hcs⟩ := hrel
  by_cases hkn : k < n
  ·obtain ⟨b, off, rfl, ⟨hb, _⟩, hc⟩ := HX.out (by have := HN.out; omega)
   have HC : Hid (w.cell? ⟨b, off + k, none⟩ = some (.int .u64 (dg ds k))) := hc k (by have := HN.out; omega)
   have b1 := bW HD.out k
   clear hc HX
   go_wp2_with fail
   go_loopw [7, 22] (fun s i wi => ∃ l q : Nat, l ≤ m ∧ i = .int .i64 l ∧ s = .int .u64 q ∧ q ≤ 4294967295 ∧ Below B w wi ∧ Hid (∃ cs, Owns wi B (.slice (some ⟨B, 0, none⟩) (n + m) (n + m)) cs ∧ Sm cs ∧ val cs + pw (k + l) * q = val (ds.take k) * val es + pw k * (ds.getD k 0 * val (es.take l)) ∧ Zf cs (k + m))) (fun _ i _ => m - (intOf i).toNat)
   case atStart => exact ⟨0, 0, by omega, rfl, rfl, by omega, hbel, by obtain ⟨cs, a1, a2, a3, a4⟩ := hcs.out; exact ⟨cs, a1, a2, by simp [val, a3], a4⟩⟩
   case round =>
    clear hcs hbel
    obtain ⟨l, q, hl, rfl, rfl, hq, hbel, hcs⟩ := hrel
    obtain ⟨cs, hown, hsm, hval, hzf⟩ := hcs.out
    have H1 : Hid (cs.length = n + m) := hown.len
    have H2 : Hid (Sm cs) := hsm
    have H3 : Hid _ := hval
    have H4 : Hid (Owns _ _ _ cs) := hown
    have H5 : Hid (Zf cs (k + m)) := hzf
    clear hcs hsm hval hzf
    have hcell := (hbel.cell (p := ⟨b, off + k, none⟩) (by rw [HB.out]; exact hb)).trans HC.out
    by_cases hlm : l < m
    ·obtain ⟨b2, off2, rfl, ⟨hb2, _⟩, hc2⟩ := HX2.out (by have := HM.out; omega)
     have hcell2 := (hbel.cell (p := ⟨b2, off2 + l, none⟩) (by rw [HB.out]; exact hb2)).trans (hc2 l (by have := HM.out; omega))
     clear hc2 HX2
     have hc0 := hown.cell H1.out (k + l) (by omega)
     have hf0 := hown.free H1.out (k + l)
     clear hown
     have b2' := bW HE.out l
     have b3 := bW H2.out (k + l)
     obtain ⟨T, hT, hT2, x2, x3, x4⟩ := lf ds es cs k l q HD.out HE.out H2.out hq
     have HT : Hid _ := hT
     have x1 := sd k l (by omega) (by omega)
     have i1 : (0 : Int) ≤ (k : Int) + (l : Int) := by omega
     have i2 : (k : Int) + (l : Int) < (n : Int) + (m : Int) := by omega
     clear hT
     go_wp2_with fail
     go_quiet (fail)
     have hbel' := aM hbel nq
     have H4' : Hid (Owns (wr.drewN nq) B _ cs) := ⟨H4.out.own⟩
     have hf0' : (wr.drewN nq).frozen? ⟨B, k + l, none⟩ = false := hf0
     have hc0' : (wr.drewN nq).cell? ⟨B, k + l, none⟩ = some (.int .u64 (dg cs (k + l))) := hc0
     clear hbel H4 hf0 hc0 hcell hcell2 x1 x2 x3 x4 b1 b2' b3
     generalize wr.drewN nq = wq at *
     obtain ⟨hq2, hv⟩ := rP ds es cs k l q T (val (ds.take k) * val es) (by have := HM.out; omega) (by have := H1.out; omega) HD.out HE.out H2.out (by omega) HT.out H3.out
     have e1 : (T : Int) % 4294967296 = ((T % 4294967296 : Nat) : Int) := rfl
     have e2 : (T : Int) / 4294967296 = ((T / 4294967296 : Nat) : Int) := rfl
     have O : Hid (Owns (wq.setCell ⟨B, k + l, none⟩ (.int .u64 ((T % 4294967296 : Nat) : Int))) B (.slice (some ⟨B, 0, none⟩) (n + m) (n + m)) (cs.set (k + l) (T % 4294967296))) := by
      have := H4'.out.set H1.out (k + l) ((T % 4294967296 : Nat) : Int) (Int.natCast_nonneg _)
      rw [Int.toNat_natCast] at this
      exact this
     have HF : Hid (∃ cs', Owns (wq.setCell ⟨B, k + l, none⟩ (.int .u64 ((T % 4294967296 : Nat) : Int))) B (.slice (some ⟨B, 0, none⟩) (n + m) (n + m)) cs' ∧ Sm cs' ∧ val cs' + pw (k + (l + 1)) * (T / 4294967296) = val (ds.take k) * val es + pw k * (ds.getD k 0 * val (es.take (l + 1))) ∧ Zf cs' (k + m)) :=
      ⟨_, O.out, jN H2.out (Nat.mod_lt _ (by decide)), hv, sj H5.out (by omega)⟩
     have HB1 : Hid (Below B w (wq.setCell ⟨B, k + l, none⟩ (.int .u64 ((T % 4294967296 : Nat) : Int)))) := hbel'.setCell (p := ⟨B, k + l, none⟩) (Nat.le_refl _) _
     have E1 : Hid _ := e1
     have E2 : Hid _ := e2
     clear e1 e2 O H3 H4' hv
     go_wp2_with fail
     rw [E1.out, E2.out]
     exact ⟨⟨l + 1, T / 4294967296, by omega, by go_num, rfl, by omega, HB1.out, HF⟩, by simp [intOf]; omega⟩
    ·obtain rfl : l = m := by omega
     have hc0 := hown.cell H1.out (k + l) (by omega)
     rw [xB H5.out] at hc0
     have hf0 := hown.free H1.out (k + l)
     clear hown hcell
     have hv : val (cs.set (k + l) q) = val (ds.take (k + 1)) * val es := by
      have e := HM.out
      subst e
      exact p6 ds es cs k q (by have := H1.out; omega) (by have := HN.out; omega) (H5.out _ (Nat.le_refl _)) H3.out
     have O : Hid (Owns (wr.setCell ⟨B, k + l, none⟩ (.int .u64 (q : Int))) B (.slice (some ⟨B, 0, none⟩) (n + l) (n + l)) (cs.set (k + l) q)) := by
      have := H4.out.set H1.out (k + l) (q : Int) (Int.natCast_nonneg _)
      rw [Int.toNat_natCast] at this
      exact this
     have HF : Hid (∃ cs', Owns (wr.setCell ⟨B, k + l, none⟩ (.int .u64 (q : Int))) B (.slice (some ⟨B, 0, none⟩) (n + l) (n + l)) cs' ∧ Sm cs' ∧ val cs' = val (ds.take (k + 1)) * val es ∧ Zf cs' (k + 1 + l)) :=
      ⟨_, O.out, jN H2.out (by omega), hv, sj (uB H5.out (by omega)) (by omega)⟩
     have HB1 : Hid (Below B w (wr.setCell ⟨B, k + l, none⟩ (.int .u64 (q : Int)))) := hbel.setCell (p := ⟨B, k + l, none⟩) (Nat.le_refl _) _
     clear O H3 H4 hv
     go_wp2_with fail
     exact ⟨⟨k + 1, by omega, by go_num, HB1.out, HF⟩, by simp [intOf]; omega⟩
  ·obtain rfl : k = n := by omega
   obtain ⟨cs, hown, hsm, hval, hzf⟩ := hcs.out
   have H0 : Hid (Row wr _ cs) := hown.row (by have := hown.len; omega)
   have H2 : Hid (Sm cs) := hsm
   have H3 : Hid (val cs = val ds * val es) := by rw [aK ds k (by have := HN.out; omega)] at hval; exact hval
   have hbel : Below w.heap.size w wr := by rw [← HB.out]; exact hbel
   clear hcs hsm hval hzf hown
   go_wp2_with fail
   refine (fy _ cs _ H0.out H2.out).mono ?_
   rintro e w1 ⟨⟨u, rfl, hn⟩, rfl⟩
   rw [H3.out] at hn
   have HR : Hid _ := hn
   clear hn
   go_wp2_with fail
   go_ret
   exact ⟨⟨_, rfl, HR.out⟩, hbel⟩
def Md (x : Nat) : Prop := x < pw 32
theorem xN {x k : Nat} (h : x < 2 ^ k) (j : Nat) (hk : k ≤ 32 * j) : x < pw j := by
 rw [r8]
 exact Nat.lt_of_lt_of_le h (Nat.pow_le_pow_right (by decide) hk)
theorem xO {x k : Nat} (h : x < 2 ^ k) (hk : k ≤ 1024) : Md x := xN h 32 (by omega)
theorem hZ {ds : List Nat} (h : Nd ds) (hx : Md (val ds)) : ds.length ≤ 32 := by
 by_cases hl : 32 < ds.length
 ·have h1 := h.top (by omega)
  have h2 := ni (show 32 ≤ ds.length - 1 by omega)
  unfold Md at hx
  omega
 ·omega
theorem xY (v u : Value) (x y : Nat) (w : World) (h : Nm w v x) (h2 : Nm w u y) (hx : Md x) (hy : Md y) :
  Calls prog 23 #[v, u] w fun e w' => (∃ r, e = .returned r ∧ Nm w' r (x * y)) ∧ Below w.heap.size w w' := by
 obtain ⟨ds, r, n, rfl⟩ := h
 obtain ⟨es, r2, n2, rfl⟩ := h2
 exact mw v u ds es w r r2 n.sm n2.sm (by have := hZ n hx; omega) (by have := hZ n2 hy; omega)
theorem tX (v u : Value) (x y : Nat) (w : World) (h : Nm w v x) (h2 : Nm w u y) (hx : Md x) (hy : Md y) :
  Calls prog 47 #[v, u] w fun e w' => (∃ r, e = .returned r ∧ Nm w' r (x + y)) ∧ Below w.heap.size w w' := by
 obtain ⟨ds, r, n, rfl⟩ := h
 obtain ⟨es, r2, n2, rfl⟩ := h2
 exact oO v u ds es w r r2 n.sm n2.sm (by have := hZ n hx; omega) (by have := hZ n2 hy; omega)
theorem oq (ds cs : List Nat) (k q Q R T : Nat) (hk : k < ds.length) (hl : cs.length = Q + k) (hT : T = ds.getD k 0 * 2 ^ R + q) (h : val cs + pw (Q + k) * q = pw Q * (2 ^ R * val (ds.take k))) :
  val (cs ++ [T % 4294967296]) + pw (Q + (k + 1)) * (T / 4294967296) = pw Q * (2 ^ R * val (ds.take (k + 1))) := by
 have e := Nat.div_add_mod T 4294967296
 rw [cL, hl, aL ds k hk, show Q + (k + 1) = Q + k + 1 by omega, cy]
 have hp2 : pw (Q + k) * T = pw (Q + k) * (T % 4294967296) + 4294967296 * pw (Q + k) * (T / 4294967296) := by
  conv => lhs; rw [← e]
  rw [Nat.mul_add, Nat.mul_comm 4294967296 (pw (Q + k)), Nat.mul_assoc]; omega
 have hp : pw (Q + k) * T = pw (Q + k) * (ds.getD k 0 * 2 ^ R) + pw (Q + k) * q := by rw [hT, Nat.mul_add]
 have hp3 : pw Q * (2 ^ R * (val (ds.take k) + pw k * ds.getD k 0)) = pw Q * (2 ^ R * val (ds.take k)) + pw (Q + k) * (ds.getD k 0 * 2 ^ R) := by
  rw [Nat.mul_add, Nat.mul_add, r7, Nat.mul_assoc, Nat.mul_left_comm (2 ^ R) (pw k), Nat.mul_comm (2 ^ R) (ds.getD k 0)]
 omega
theorem te {x q R : Nat} (hx : x < 4294967296) (hq : q < 4294967296) (hR : R < 32) : x * 2 ^ R + q < 18446744073709551616 ∧ (q < 2 ^ R → (x * 2 ^ R + q) / 4294967296 < 2 ^ R) := by
 have h2 : (2 : Nat) ^ R ≤ 2147483648 := by
  have := Nat.pow_le_pow_right (show 0 < 2 by decide) (show R ≤ 31 by omega)
  simpa using this
 have h1 : x * 2 ^ R ≤ 4294967295 * 2 ^ R := Nat.mul_le_mul_right _ (by omega)
 constructor
 ·omega
 ·intro h; omega
theorem qW {R : Nat} (hR : R < 32) : (2 : Nat) ^ R ≤ 2147483648 := by
 have := Nat.pow_le_pow_right (show 0 < 2 by decide) (show R ≤ 31 by omega)
 simpa using this
theorem ow (ds : List Nat) (k q N : Nat) (hd : Sm ds) (hq : q < 2 ^ (N % 32)) : ∃ T : Nat, T = ds.getD k 0 * 2 ^ (N % 32) + q ∧ T ≤ 18446744073709551615 ∧ T / 4294967296 < 2 ^ (N % 32) ∧
  IntKind.u64.wrap (IntKind.u64.wrap (dg ds k * 2 ^ (N % 32)) + (q : Int)) = (T : Int) := by
 have hR : N % 32 < 32 := Nat.mod_lt _ (by decide)
 have hp := qW hR
 have hs := be k hd
 obtain ⟨h1, h2⟩ := te (q := q) hs (by omega) hR
 refine ⟨_, rfl, by omega, h2 hq, ?_⟩
 have e : dg ds k * 2 ^ (N % 32) = ((ds.getD k 0 * 2 ^ (N % 32) : Nat) : Int) := by unfold dg; rw [Int.natCast_mul, Int.natCast_pow]; rfl
 rw [e, IntKind.wrap_u64, IntKind.wrap_u64]
 generalize ds.getD k 0 * 2 ^ (N % 32) = X at *
 omega
theorem oo (v : Value) (ds : List Nat) (N : Nat) (w : World) (h : Row w v ds) (hd : Sm ds) (h100 : ds.length ≤ 100) (hN : N ≤ 1500) :
  Calls prog 44 #[v, .int .i64 N] w fun e w' => (∃ r, e = .returned r ∧ Nm w' r (val ds * 2 ^ N)) ∧ Below w.heap.size w w' := by
 obtain ⟨hm, a, c, rfl, hlc, hx⟩ := h
 have HX : Hid _ := hx
 have HD : Hid (Sm ds) := hd
 clear hx hd
 obtain ⟨n, hn⟩ : ∃ n, n = ds.length := ⟨_, rfl⟩
 have HN : Hid (n = ds.length) := hn
 rw [← hn] at hm hlc h100
 rw [← hn]
 clear hn
 go_enter func44, ntmps44
 go_wp2_with (at_make; refine mk1 rfl _ _ rfl (N / 32) _ _ (by rfl) (by rfl) (by omega) (by omega) (by omega) ?_; intro w1 hown hbel)
 obtain ⟨B, hB⟩ : ∃ B, B = w.heap.size := ⟨_, rfl⟩
 rw [← hB] at hown hbel
 rw [← hB]
 have HB : Hid (B = w.heap.size) := hB
 have hown' := (show Hid _ from hown)
 have hsz0 : B ≤ w.heap.size := by omega
 clear hB hown
 obtain ⟨R, hR⟩ : ∃ R, R = N % 32 := ⟨_, rfl⟩
 have HR : Hid (R = N % 32) := hR
 have hR2 : R < 32 := by omega
 clear hR
 go_loopw [5, 6, 14] (fun r s i wr => ∃ k q : Nat, k ≤ n ∧ i = .int .i64 k ∧ s = .int .u64 q ∧ Hid (q < 2 ^ R) ∧ Below B w wr ∧ Hid (∃ cs, Owns wr B r cs ∧ cs.length = N / 32 + k ∧ Sm cs ∧ val cs + pw (N / 32 + k) * q = pw (N / 32) * (2 ^ R * val (ds.take k)))) (fun _ _ i _ => n - (intOf i).toNat)
 case atStart => exact ⟨0, 0, by omega, rfl, rfl, Nat.pow_pos (by decide), hbel, _, hown'.out, by simp, dK _, by simp [val, eV]⟩
 case round =>
  clear hown' hbel
  obtain ⟨k, q, hk, rfl, rfl, hq, hbel, hcs⟩ := hrel
  have hsz : B ≤ wr.heap.size := Nat.le_trans hsz0 hbel.size
  obtain ⟨cs, hown, hlen, hsm, hval⟩ := hcs.out
  have H1 : Hid _ := hlen
  have H2 : Hid (Sm cs) := hsm
  have H3 : Hid _ := hval
  have H4 : Hid (Owns _ _ _ cs) := hown
  have hqb : q ≤ 2147483648 := by have := hq.out; have := qW hR2; omega
  clear hcs hsm hval hlen hown
  by_cases hkn : k < n
  ·obtain ⟨b, off, rfl, ⟨hb, _⟩, hc⟩ := HX.out (by have := HN.out; omega)
   have hcell := (hbel.cell (p := ⟨b, off + k, none⟩) (by rw [HB.out]; exact hb)).trans (hc k (by have := HN.out; omega))
   have b1 := bW HD.out k
   clear hc HX
   obtain ⟨T, hT, hT2, hT3, hw⟩ := ow ds k q N HD.out (by rw [← HR.out]; exact hq.out)
   have HT : Hid (T = ds.getD k 0 * 2 ^ R + q) := by rw [HR.out]; exact hT
   have HT3 : Hid (T / 4294967296 < 2 ^ R) := by rw [HR.out]; exact hT3
   clear hT hT3 hq
   go_wp2_with (at_builtin; refine nH rfl _ _ rfl B cs _ ((T : Int) % 4294967296) (by rfl) (by rfl) (by omega) H4.out hsz (by have := H1.out; omega) ?_; intro v' w1 hown' hbel')
   have e1 : ((T : Int) % 4294967296).toNat = T % 4294967296 := by omega
   rw [e1] at hown'
   have HF : Hid (∃ cs, Owns w1 B v' cs ∧ cs.length = N / 32 + (k + 1) ∧ Sm cs ∧ val cs + pw (N / 32 + (k + 1)) * (T / 4294967296) = pw (N / 32) * (2 ^ R * val (ds.take (k + 1)))) :=
    ⟨_, hown', by rw [List.length_append, H1.out]; rfl, eI H2.out (Nat.mod_lt _ (by decide)), oq ds cs k q (N / 32) R T (by have := HN.out; omega) H1.out HT.out H3.out⟩
   have hbel1 : Below B w w1 := hbel.trans hbel'
   have E2 : Hid ((T : Int) / 4294967296 = ((T / 4294967296 : Nat) : Int)) := rfl
   clear hown' e1 H4 hbel hbel' hw hcell
   go_wp2_with fail
   rw [E2.out]
   exact ⟨⟨k + 1, T / 4294967296, by omega, by go_num, rfl, HT3, hbel1, HF⟩, by simp [intOf]; omega⟩
  ·obtain rfl : k = n := by omega
   go_wp2_with (at_builtin; refine nH rfl _ _ rfl B cs _ (q : Int) (by rfl) (by rfl) (by omega) H4.out hsz (by have := H1.out; omega) ?_; intro v' w1 hown' hbel')
   rw [Int.toNat_natCast] at hown'
   have HV : Hid (val (cs ++ [q]) = val ds * 2 ^ N) := by
    have hv := H3.out
    rw [aK ds k (by have := HN.out; omega)] at hv
    show val (cs ++ [q]) = val ds * 2 ^ N
    have e : N = 32 * (N / 32) + R := by have := HR.out; omega
    rw [cL, H1.out, hv, r8, ← Nat.mul_assoc, ← Nat.pow_add, ← e, Nat.mul_comm]
   have H2' : Hid (Sm (cs ++ [q])) := eI H2.out (by omega)
   have H0 : Hid (Row w1 v' (cs ++ [q])) := hown'.row (by rw [List.length_append, H1.out]; simp; omega)
   have hbel1 : Below w.heap.size w w1 := by rw [← HB.out]; exact hbel.trans hbel'
   clear hown' H4 hbel hbel'
   refine (fy _ _ _ H0.out H2'.out).mono ?_
   rintro e w2 ⟨⟨u, rfl, hn⟩, rfl⟩
   rw [HV.out] at hn
   have HR2 : Hid _ := hn
   clear hn
   go_wp2_with fail
   go_ret
   exact ⟨⟨_, rfl, HR2.out⟩, hbel1⟩
theorem tg (v : Value) (x N : Nat) (w : World) (h : Nm w v x) (hx : Md x) (hN : N ≤ 1500) :
  Calls prog 44 #[v, .int .i64 N] w fun e w' => (∃ r, e = .returned r ∧ Nm w' r (x * 2 ^ N)) ∧ Below w.heap.size w w' := by
 obtain ⟨ds, r, n, rfl⟩ := h
 exact oo v ds N w r n.sm (by have := hZ n hx; omega) hN
end Go.Proofs.YtjkiplndbcmmbaaGreatDoor
namespace Go.Proofs.YtjkiplndbcmmbaaGreatDoor
open Go.RowKit
theorem sO {x y : Nat} (h : y ≤ x) : 0 ≤ cmpN x y := by
 rcases (show y < x ∨ y = x by omega) with h | rfl
 ·rw [jj h]; decide
 ·rw [mI]; decide
end Go.Proofs.YtjkiplndbcmmbaaGreatDoor