/- The contracts of the checks (package dec). -/
import Derived.Test.YtbgglghapjfdeaaDoorM4
import Derived.Test.YtbgglghapjfdeaaDoorEy
namespace Go.Proofs.YtbgglghapjfdeaaDoor
open Go.RowKit
set_option linter.unusedVariables false
attribute [local go_sem] ext_cell ext_frozen ext_drew ext_of_drew ext_of_drewN ext_setCell ext_lt ext_lt1 ext_lt2 ext_lt3 lt_n2 lt_n3 lt_n4 lt_n5 lt_n6

set_option maxHeartbeats 400000 in
theorem isScale_yes (s : Int) (w : World) (h0 : 0 ≤ s) (h1 : s ≤ 18) :
    Calls Tryd.prog 46 #[.int .i64 s] w fun e w' => e = .returned (.bool true) ∧ w' = w := by
  go_enter Tryd.func46, Tryd.ntmps46
  go_wp2
  go_ret
  exact ⟨rfl, rfl⟩
set_option maxHeartbeats 400000 in
theorem isScale_no (s : Int) (w : World) (h : s < 0 ∨ 18 < s) :
    Calls Tryd.prog 46 #[.int .i64 s] w fun e w' => e = .returned (.bool false) ∧ w' = w := by
  rcases h with h | h
  · have hd : decide (0 ≤ s) = false := decide_eq_false (by omega)
    go_enter Tryd.func46, Tryd.ntmps46
    go_wp2
    go_ret
    exact ⟨rfl, rfl⟩
  · have h0 : 0 ≤ s := by omega
    have hd : decide (s ≤ 18) = false := decide_eq_false (by omega)
    go_enter Tryd.func46, Tryd.ntmps46
    go_wp2
    go_ret
    exact ⟨rfl, rfl⟩

/-! Check -/
theorem least_no {c : Int} (hc : InR c) : (dhi c == -9223372036854775808) = false ∨ ((dhi c == -9223372036854775808) = true ∧ (dlo c == 0) = false) := by
  have h1 := hc.lo
  rw [M127_eq] at h1
  by_cases h : dhi c = -9223372036854775808
  · refine Or.inr ⟨by rw [h]; rfl, beq_eq_false_iff_ne.2 fun h2 => ?_⟩
    unfold dhi at h; unfold dlo at h2; omega
  · exact Or.inl (beq_eq_false_iff_ne.2 h)
set_option maxHeartbeats 400000 in
set_option maxRecDepth 100000 in
theorem check_ok (c h l : Int) (s : Nat) (w : World) (hd : IsD c h l) (hc : InR c) (hs : (s : Int) ≤ 18) :
    Calls Tryd.prog 47 #[.agg #[.int .i64 h, .int .u64 l, .int .i64 s]] w fun e w' => e = .returned (.int .i64 0) ∧ Below w.heap.size w w' := by
  obtain ⟨rfl, rfl⟩ := hd
  rcases least_no hc with e1 | ⟨e1, e2⟩
  · clear hc
    go_enter Tryd.func47, Tryd.ntmps47
    go_wp2_with (go_at_call 46; refine (isScale_yes _ _ (by omega) hs).mono ?_; rintro e w' ⟨rfl, rfl⟩)
    go_ret
    refine ⟨rfl, ?_⟩
    repeat (first | exact Below.refl _ _ | refine Below.drew ?_ | refine below_drewN ?_ _ | refine bel_alloc ?_ _ | refine bel_ext ?_ _ | (refine Below.setCell ?_ ?_ _; rotate_left; (simp <;> omega)))
  · clear hc
    go_enter Tryd.func47, Tryd.ntmps47
    go_wp2_with (go_at_call 46; refine (isScale_yes _ _ (by omega) hs).mono ?_; rintro e w' ⟨rfl, rfl⟩)
    go_ret
    refine ⟨rfl, ?_⟩
    repeat (first | exact Below.refl _ _ | refine Below.drew ?_ | refine below_drewN ?_ _ | refine bel_alloc ?_ _ | refine bel_ext ?_ _ | (refine Below.setCell ?_ ?_ _; rotate_left; (simp <;> omega)))
set_option maxHeartbeats 400000 in
set_option maxRecDepth 100000 in
theorem check_bad (h l s : Int) (w : World) (hb : (s < 0 ∨ 18 < s) ∨ (h = -9223372036854775808 ∧ l = 0)) :
    Calls Tryd.prog 47 #[.agg #[.int .i64 h, .int .u64 l, .int .i64 s]] w fun e w' => e = .returned (.int .i64 3) ∧ Below w.heap.size w w' := by
  by_cases hs : s < 0 ∨ 18 < s
  · clear hb
    go_enter Tryd.func47, Tryd.ntmps47
    go_wp2_with (go_at_call 46; refine (isScale_no _ _ hs).mono ?_; rintro e w' ⟨rfl, rfl⟩)
    go_ret
    refine ⟨rfl, ?_⟩
    repeat (first | exact Below.refl _ _ | refine Below.drew ?_ | refine below_drewN ?_ _ | refine bel_alloc ?_ _ | refine bel_ext ?_ _ | (refine Below.setCell ?_ ?_ _; rotate_left; (simp <;> omega)))
  · obtain ⟨rfl, rfl⟩ := hb.resolve_left hs
    have h0 : 0 ≤ s := by omega
    have h1 : s ≤ 18 := by omega
    clear hb hs
    go_enter Tryd.func47, Tryd.ntmps47
    go_wp2_with (go_at_call 46; refine (isScale_yes _ _ h0 h1).mono ?_; rintro e w' ⟨rfl, rfl⟩)
    go_ret
    refine ⟨rfl, ?_⟩
    repeat (first | exact Below.refl _ _ | refine Below.drew ?_ | refine below_drewN ?_ _ | refine bel_alloc ?_ _ | refine bel_ext ?_ _ | (refine Below.setCell ?_ ?_ _; rotate_left; (simp <;> omega)))

end Go.Proofs.YtbgglghapjfdeaaDoor
/- The contracts of Neg, Sign, Add (package dec). -/
namespace Go.Proofs.YtbgglghapjfdeaaDoor
open Go.RowKit
set_option linter.unusedVariables false
attribute [local go_sem] ext_cell ext_frozen ext_drew ext_of_drew ext_of_drewN ext_setCell ext_lt ext_lt1 ext_lt2 ext_lt3 lt_n2 lt_n3 lt_n4 lt_n5 lt_n6 ext_ext

theorem InR.neg {c : Int} (h : InR c) : InR (-c) := ⟨by have := h.hi; omega, by have := h.lo; omega⟩
theorem tot_lt (ca : Int) (sa : Nat) (cb : Int) (sb : Nat) (ia : InR ca) (ib : InR cb) (hsa : (sa : Int) ≤ 18) (hsb : (sb : Int) ≤ 18) : (tot ca sa cb sb).2 < B ^ 5 := by
  have h1 : up10 ca.natAbs sa (max sa sb) < B ^ 4 := ten_lt (natAbs_lt ia) (show max sa sb - sa ≤ 18 by omega)
  have h2 : up10 cb.natAbs sb (max sa sb) < B ^ 4 := ten_lt (natAbs_lt ib) (show max sa sb - sb ≤ 18 by omega)
  have h3 := padd_le (decide (ca < 0), up10 ca.natAbs sa (max sa sb)) (decide (cb < 0), up10 cb.natAbs sb (max sa sb))
  have h4 : 2 * B ^ 4 ≤ B ^ 5 := by rw [Nat.pow_succ B 4, Nat.mul_comm]; exact Nat.mul_le_mul_left _ (by decide)
  unfold tot
  simp only at h3
  omega

set_option maxHeartbeats 400000 in
set_option maxRecDepth 100000 in
theorem neg_ok (c h l : Int) (s : Nat) (w : World) (hd : IsD c h l) (hc : InR c) (hs : (s : Int) ≤ 18) :
    Calls Tryd.prog 38 #[.agg #[.int .i64 h, .int .u64 l, .int .i64 s]] w
      fun e w' => e = .returned (.tuple #[.agg #[.int .i64 (dhi (-c)), .int .u64 (dlo (-c)), .int .i64 s], .int .i64 0]) ∧ Below w.heap.size w w' := by
  obtain ⟨rfl, rfl⟩ := hd
  go_enter Tryd.func38, Tryd.ntmps38
  go_wp2_with (first | (go_at_call 47; refine (check_ok c _ _ s _ (IsD.self _) hc hs).mono ?_; rintro e w1 ⟨rfl, hb1⟩; obtain ⟨x, rfl⟩ := ext_of_below hb1; clear hb1) | (go_at_call 50; refine (opposite_any c _ _ _ _ (IsD.self _) hc).mono ?_; rintro e w1 ⟨rfl, hb1⟩; obtain ⟨y, rfl⟩ := ext_of_below hb1; clear hb1))
  refine bodyPost_ret (v := .tuple #[.agg #[.int .i64 (dhi (-c)), .int .u64 (dlo (-c)), .int .i64 s], .int .i64 0]) (by simp [results, Tryd.results38, go_sem]) rfl ⟨rfl, ?_⟩
  repeat (first | exact Below.refl _ _ | refine Below.drew ?_ | refine below_drewN ?_ _ | refine bel_alloc ?_ _ | refine bel_ext ?_ _ | (refine Below.setCell ?_ ?_ _; rotate_left; (simp <;> omega)))
set_option maxHeartbeats 400000 in
set_option maxRecDepth 100000 in
theorem neg_bad (h l s : Int) (w : World) (hb : (s < 0 ∨ 18 < s) ∨ (h = -9223372036854775808 ∧ l = 0)) :
    Calls Tryd.prog 38 #[.agg #[.int .i64 h, .int .u64 l, .int .i64 s]] w
      fun e w' => e = .returned (.tuple #[.agg #[.int .i64 0, .int .u64 0, .int .i64 0], .int .i64 3]) ∧ Below w.heap.size w w' := by
  have H := (show Hid _ from hb)
  clear hb
  go_enter Tryd.func38, Tryd.ntmps38
  go_wp2_with (go_at_call 47; refine (check_bad _ _ _ _ H.out).mono ?_; rintro e w1 ⟨rfl, hb1⟩; obtain ⟨x, rfl⟩ := ext_of_below hb1; clear hb1)
  refine bodyPost_ret (v := .tuple #[.agg #[.int .i64 0, .int .u64 0, .int .i64 0], .int .i64 3]) (by simp [results, Tryd.results38, go_sem]) rfl ⟨rfl, ?_⟩
  repeat (first | exact Below.refl _ _ | refine Below.drew ?_ | refine below_drewN ?_ _ | refine bel_alloc ?_ _ | refine bel_ext ?_ _ | (refine Below.setCell ?_ ?_ _; rotate_left; (simp <;> omega)))
theorem abs_lt {c : Int} (hc : InR c) : c.natAbs < B ^ 5 := Nat.lt_trans (natAbs_lt hc) (by decide)
set_option maxHeartbeats 400000 in
set_option maxRecDepth 100000 in
theorem sign_ok (c h l : Int) (s : Nat) (w : World) (hd : IsD c h l) (hc : InR c) (hs : (s : Int) ≤ 18) :
    Calls Tryd.prog 37 #[.agg #[.int .i64 h, .int .u64 l, .int .i64 s]] w
      fun e w' => e = .returned (.tuple #[.int .i64 (sgn c), .int .i64 0]) ∧ Below w.heap.size w w' := by
  obtain ⟨rfl, rfl⟩ := hd
  have es := sv_abs c
  rw [← es]
  have HS : Hid (sv (decide (c < 0)) c.natAbs = c) := es
  clear es
  rw [HS.out]
  have hsg : Hid (sgn (sv (decide (c < 0)) c.natAbs) = sgn c) := by rw [HS.out]; rfl
  go_enter Tryd.func37, Tryd.ntmps37
  go_wp2_with (first | (go_at_call 47; refine (check_ok c _ _ s _ (IsD.self _) hc hs).mono ?_; rintro e w1 ⟨rfl, hb1⟩; obtain ⟨x, rfl⟩ := ext_of_below hb1; clear hb1) | (go_at_call 48; refine (numberOf_any c _ _ _ _ (IsD.self _) hc).mono ?_; rintro e w1 ⟨rfl, hb1⟩; obtain ⟨y, rfl⟩ := ext_of_below hb1; clear hb1) | (go_at_call 49; refine (sign_any _ _ _ (abs_lt hc)).mono ?_; rintro e w1 ⟨rfl, hb1⟩; obtain ⟨z, rfl⟩ := ext_of_below hb1; clear hb1))
  rw [hsg.out]
  go_ret2
  refine ⟨rfl, ?_⟩
  repeat (first | exact Below.refl _ _ | refine Below.drew ?_ | refine below_drewN ?_ _ | refine bel_alloc ?_ _ | refine bel_ext ?_ _ | (refine Below.setCell ?_ ?_ _; rotate_left; (simp <;> omega)))
set_option maxHeartbeats 400000 in
set_option maxRecDepth 100000 in
theorem sign_bad (h l s : Int) (w : World) (hb : (s < 0 ∨ 18 < s) ∨ (h = -9223372036854775808 ∧ l = 0)) :
    Calls Tryd.prog 37 #[.agg #[.int .i64 h, .int .u64 l, .int .i64 s]] w
      fun e w' => e = .returned (.tuple #[.int .i64 0, .int .i64 3]) ∧ Below w.heap.size w w' := by
  have H := (show Hid _ from hb)
  clear hb
  go_enter Tryd.func37, Tryd.ntmps37
  go_wp2_with (go_at_call 47; refine (check_bad _ _ _ _ H.out).mono ?_; rintro e w1 ⟨rfl, hb1⟩; obtain ⟨x, rfl⟩ := ext_of_below hb1; clear hb1)
  go_ret2
  refine ⟨rfl, ?_⟩
  repeat (first | exact Below.refl _ _ | refine Below.drew ?_ | refine below_drewN ?_ _ | refine bel_alloc ?_ _ | refine bel_ext ?_ _ | (refine Below.setCell ?_ ?_ _; rotate_left; (simp <;> omega)))

end Go.Proofs.YtbgglghapjfdeaaDoor
/- The contract of Quo (package dec). -/
namespace Go.Proofs.YtbgglghapjfdeaaDoor
open Go.RowKit
set_option linter.unusedVariables false
attribute [local go_sem] ext_cell ext_frozen ext_drew ext_of_drew ext_of_drewN ext_setCell ext_lt ext_lt1 ext_lt2 ext_lt3 lt_n2 lt_n3 lt_n4 lt_n5 lt_n6 ext_ext

/-- Block b of w holds a number with a sign. -/
structure Num6 (w : World) (b : Nat) (neg : Bool) (n : Nat) : Prop where
  c0 : w.cell? ⟨b, 0, none⟩ = some (.bool neg)
  c1 : w.cell? ⟨b, 1, none⟩ = some (.int .u64 (wd n 0))
  c2 : w.cell? ⟨b, 2, none⟩ = some (.int .u64 (wd n 1))
  c3 : w.cell? ⟨b, 3, none⟩ = some (.int .u64 (wd n 2))
  c4 : w.cell? ⟨b, 4, none⟩ = some (.int .u64 (wd n 3))
  c5 : w.cell? ⟨b, 5, none⟩ = some (.int .u64 (wd n 4))
/-- Block b of w holds a decimal, and may be written. -/
structure Dec3 (w : World) (b : Nat) (h l s : Int) : Prop where
  c0 : w.cell? ⟨b, 0, none⟩ = some (.int .i64 h)
  c1 : w.cell? ⟨b, 1, none⟩ = some (.int .u64 l)
  c2 : w.cell? ⟨b, 2, none⟩ = some (.int .i64 s)
  f0 : w.frozen? ⟨b, 0, none⟩ = false
  f1 : w.frozen? ⟨b, 1, none⟩ = false
  f2 : w.frozen? ⟨b, 2, none⟩ = false
theorem Num6.keep {w w' : World} {b n : Nat} {neg : Bool} (h : Num6 w b neg n) (e : w'.heap[b]? = w.heap[b]?) : Num6 w' b neg n := by
  have hc : ∀ j, w'.cell? ⟨b, j, none⟩ = w.cell? ⟨b, j, none⟩ := fun j => World.cell?_of_block (w := w) (w' := w') (a := ⟨b, j, none⟩) e
  obtain ⟨c0, c1, c2, c3, c4, c5⟩ := h
  constructor <;> simp only [hc] <;> assumption
theorem Dec3.keep {w w' : World} {b : Nat} {h l s : Int} (d : Dec3 w b h l s) (e : w'.heap[b]? = w.heap[b]?) : Dec3 w' b h l s := by
  have hc : ∀ j, w'.cell? ⟨b, j, none⟩ = w.cell? ⟨b, j, none⟩ := fun j => World.cell?_of_block (w := w) (w' := w') (a := ⟨b, j, none⟩) e
  have hf : ∀ j, w'.frozen? ⟨b, j, none⟩ = w.frozen? ⟨b, j, none⟩ := fun j => World.frozen?_of_block (w := w) (w' := w') (a := ⟨b, j, none⟩) e
  obtain ⟨c0, c1, c2, f0, f1, f2⟩ := d
  constructor <;> simp only [hc, hf] <;> assumption
/-- A number laid into block b. -/
def set6 (w : World) (b : Nat) (neg : Bool) (n : Nat) : World := ((((((w.setCell ⟨b, 0, none⟩ (.bool neg)).setCell ⟨b, 1, none⟩ (.int .u64 (wd (n) 0))).setCell ⟨b, 2, none⟩ (.int .u64 (wd (n) 1))).setCell ⟨b, 3, none⟩ (.int .u64 (wd (n) 2))).setCell ⟨b, 4, none⟩ (.int .u64 (wd (n) 3))).setCell ⟨b, 5, none⟩ (.int .u64 (wd (n) 4)))
theorem set6_other (w : World) (b : Nat) (neg : Bool) (n : Nat) {k : Nat} (h : k ≠ b) : (set6 w b neg n).heap[k]? = w.heap[k]? := by
  unfold set6
  iterate 6 rw [Below.heap_setCell _ _ _ _ (by exact h)]
theorem set6_size (w : World) (b : Nat) (neg : Bool) (n : Nat) : (set6 w b neg n).heap.size = w.heap.size := by simp [set6]
theorem set6_below {k : Nat} {a w : World} (h : Below k a w) {b : Nat} (hb : k ≤ b) (neg : Bool) (n : Nat) : Below k a (set6 w b neg n) :=
  (((((h.setCell (p := ⟨b, 0, none⟩) hb _).setCell (p := ⟨b, 1, none⟩) hb _).setCell (p := ⟨b, 2, none⟩) hb _).setCell (p := ⟨b, 3, none⟩) hb _).setCell (p := ⟨b, 4, none⟩) hb _).setCell (p := ⟨b, 5, none⟩) hb _
theorem set6_num {w : World} {b : Nat} (h : w.heap[b]? = some (.cells #[.bool false, .int .u64 0, .int .u64 0, .int .u64 0, .int .u64 0, .int .u64 0] 101)) (neg : Bool) (n : Nat) : Num6 (set6 w b neg n) b neg n := by
  have c : ∀ i v, #[Value.bool false, .int .u64 0, .int .u64 0, .int .u64 0, .int .u64 0, .int .u64 0][i]? = some v → w.cell? ⟨b, i, none⟩ = some v := fun i v hv => by rw [block_cell h i]; exact hv
  have c0 := c 0 _ rfl
  have c1 := c 1 _ rfl
  have c2 := c 2 _ rfl
  have c3 := c 3 _ rfl
  have c4 := c 4 _ rfl
  have c5 := c 5 _ rfl
  have s : ∀ (u : World) (i : Nat) (v x : Value), u.cell? ⟨b, i, none⟩ = some x → (u.setCell ⟨b, i, none⟩ v).cell? ⟨b, i, none⟩ = some v := fun u i v x hx => World.cell?_setCell_same _ _ _ hx
  have t : ∀ (u : World) (i j : Nat) (v : Value), i ≠ j → (u.setCell ⟨b, i, none⟩ v).cell? ⟨b, j, none⟩ = u.cell? ⟨b, j, none⟩ := fun u i j v hij => World.cell?_setCell_other _ _ _ _ (ne_addr hij)
  unfold set6
  constructor
  · rw [t _ _ _ _ (by omega), t _ _ _ _ (by omega), t _ _ _ _ (by omega), t _ _ _ _ (by omega), t _ _ _ _ (by omega)]; exact s _ _ _ _ c0
  · rw [t _ _ _ _ (by omega), t _ _ _ _ (by omega), t _ _ _ _ (by omega), t _ _ _ _ (by omega)]; exact s _ _ _ _ (by rw [t _ _ _ _ (by omega)]; exact c1)
  · rw [t _ _ _ _ (by omega), t _ _ _ _ (by omega), t _ _ _ _ (by omega)]; exact s _ _ _ _ (by rw [t _ _ _ _ (by omega), t _ _ _ _ (by omega)]; exact c2)
  · rw [t _ _ _ _ (by omega), t _ _ _ _ (by omega)]; exact s _ _ _ _ (by rw [t _ _ _ _ (by omega), t _ _ _ _ (by omega), t _ _ _ _ (by omega)]; exact c3)
  · rw [t _ _ _ _ (by omega)]; exact s _ _ _ _ (by rw [t _ _ _ _ (by omega), t _ _ _ _ (by omega), t _ _ _ _ (by omega), t _ _ _ _ (by omega)]; exact c4)
  · exact s _ _ _ _ (by rw [t _ _ _ _ (by omega), t _ _ _ _ (by omega), t _ _ _ _ (by omega), t _ _ _ _ (by omega), t _ _ _ _ (by omega)]; exact c5)

/-- What lies there behind 'x, y := numberOf(a), numberOf(b)'. -/
structure Two (w w4 : World) (b1 b2 : Nat) (ca cb : Int) (sa sb : Nat) : Prop where
  a : Dec3 w4 w.heap.size (dhi ca) (dlo ca) sa
  b : Dec3 w4 (w.heap.size + 1) (dhi cb) (dlo cb) sb
  r : Dec3 w4 (w.heap.size + 1 + 1) 0 0 0
  x : Num6 w4 b1 (decide (ca < 0)) ca.natAbs
  y : Num6 w4 b2 (decide (cb < 0)) cb.natAbs
  n1 : w.heap.size + 1 + 1 < b1
  n2 : w.heap.size + 1 + 1 < b2
  s1 : b1 < w4.heap.size
  s2 : b2 < w4.heap.size
  bel : Below w.heap.size w w4

theorem Two.step {w w4 w5 : World} {b1 b2 : Nat} {ca cb : Int} {sa sb : Nat} (h : Two w w4 b1 b2 ca cb sa sb) (k : Below w4.heap.size w4 w5) : Two w w5 b1 b2 ca cb sa sb := by
  obtain ⟨a, b, r, x, y, n1, n2, s1, s2, bel⟩ := h
  have := k.size
  exact ⟨a.keep (k.block _ (by omega)), b.keep (k.block _ (by omega)), r.keep (k.block _ (by omega)), x.keep (k.block _ s1), y.keep (k.block _ s2), n1, n2, by omega, by omega, bel.trans (k.mono (by omega))⟩
theorem two_of {w w0 w3 : World} {b1 b2 : Nat} {ca cb : Int} {sa sb : Nat} (hz : w.heap.size + 1 + 1 < w0.heap.size) (a : Dec3 w0 w.heap.size (dhi ca) (dlo ca) sa) (b : Dec3 w0 (w.heap.size + 1) (dhi cb) (dlo cb) sb) (r : Dec3 w0 (w.heap.size + 1 + 1) 0 0 0) (bel : Below w.heap.size w w0)
    (hl : Later w0 w3) (h1 : w0.heap.size ≤ b1) (h2 : w0.heap.size ≤ b2) (hne : b1 ≠ b2) (hO1 : w3.heap[b1]? = some (.cells #[.bool false, .int .u64 0, .int .u64 0, .int .u64 0, .int .u64 0, .int .u64 0] 101)) (hO2 : w3.heap[b2]? = some (.cells #[.bool false, .int .u64 0, .int .u64 0, .int .u64 0, .int .u64 0, .int .u64 0] 101)) :
    Two w (set6 (set6 w3 b1 (decide (ca < 0)) ca.natAbs) b2 (decide (cb < 0)) cb.natAbs) b1 b2 ca cb sa sb := by
  have e : ∀ k, k < w0.heap.size → (set6 (set6 w3 b1 (decide (ca < 0)) ca.natAbs) b2 (decide (cb < 0)) cb.natAbs).heap[k]? = w0.heap[k]? := fun k hk => by
    rw [set6_other _ _ _ _ (by omega), set6_other _ _ _ _ (by omega)]; exact hl.block k hk
  have l1 := block_lt hO1
  have l2 := block_lt hO2
  refine ⟨a.keep (e _ (by omega)), b.keep (e _ (by omega)), r.keep (e _ hz), (set6_num hO1 _ _).keep (set6_other _ _ _ _ hne), set6_num (by rw [set6_other _ _ _ _ (Ne.symm hne)]; exact hO2) _ _, by omega, by omega, by rw [set6_size, set6_size]; exact l1, by rw [set6_size, set6_size]; exact l2, ?_⟩
  exact set6_below (set6_below (bel.trans (Below.mono hl (by omega))) (by omega) _ _) (by omega) _ _

theorem sgn_zero (c : Int) : sgn c = 0 ↔ c = 0 := by unfold sgn; split <;> (try split) <;> omega

theorem pow_le18 {u : Nat} (h : u ≤ 18) : 10 ^ u ≤ 10 ^ 18 := Nat.pow_le_pow_right (by decide) h
theorem pow_le36 {u : Nat} (h : u ≤ 36) : 10 ^ u ≤ 10 ^ 36 := Nat.pow_le_pow_right (by decide) h
theorem rquo_le (neg : Bool) (n d : Nat) (shift : Int) (mode : Nat) : rquo neg n d shift mode ≤ rnum n shift + 1 := by
  unfold rquo
  have := Nat.div_le_self (rnum n shift) (rden d shift)
  split <;> omega
theorem quo_bounds {ca cb : Int} {sa sb t mode : Nat} (neg : Bool) (ia : InR ca) (ib : InR cb) (hsa : (sa : Int) ≤ 18) (hsb : (sb : Int) ≤ 18) (ht : (t : Int) ≤ 18) (h0 : ¬ cb = 0) :
    rnum ca.natAbs ((t : Int) + sb - sa) < B ^ 5 ∧ 0 < rden cb.natAbs ((t : Int) + sb - sa) ∧ 2 * rden cb.natAbs ((t : Int) + sb - sa) ≤ B ^ 5 ∧ rquo neg ca.natAbs cb.natAbs ((t : Int) + sb - sa) mode < B ^ 5 := by
  have e1 : rnum ca.natAbs ((t : Int) + sb - sa) ≤ 2 ^ 127 * 10 ^ 36 := by
    unfold rnum; exact Nat.mul_le_mul (Nat.le_of_lt (natAbs_lt ia)) (pow_le36 (by omega))
  have e2 : rden cb.natAbs ((t : Int) + sb - sa) ≤ 2 ^ 127 * 10 ^ 18 := by
    unfold rden; exact Nat.mul_le_mul (Nat.le_of_lt (natAbs_lt ib)) (pow_le18 (by omega))
  refine ⟨Nat.lt_of_le_of_lt e1 (by decide), ?_, Nat.le_trans (Nat.mul_le_mul_left 2 e2) (by decide), ?_⟩
  · unfold rden; exact Nat.mul_pos (by omega) (Nat.pow_pos (by decide))
  · exact Nat.lt_of_le_of_lt (Nat.le_trans (rquo_le _ _ _ _ _) (Nat.add_le_add_right e1 1)) (by decide)

end Go.Proofs.YtbgglghapjfdeaaDoor
/- The contract of Rescale (package dec). -/
namespace Go.Proofs.YtbgglghapjfdeaaDoor
open Go.RowKit
set_option linter.unusedVariables false
attribute [local go_sem] ext_cell ext_frozen ext_drew ext_of_drew ext_of_drewN ext_setCell ext_lt ext_lt1 ext_lt2 ext_lt3 lt_n2 lt_n3 lt_n4 lt_n5 lt_n6

theorem res_bounds {c : Int} {s t mode : Nat} (neg : Bool) (ic : InR c) (hs : (s : Int) ≤ 18) (ht : (t : Int) ≤ 18) :
    rnum c.natAbs ((t : Int) - s) < B ^ 5 ∧ 0 < rden 1 ((t : Int) - s) ∧ 2 * rden 1 ((t : Int) - s) ≤ B ^ 5 ∧ rquo neg c.natAbs 1 ((t : Int) - s) mode < B ^ 5 := by
  have e1 : rnum c.natAbs ((t : Int) - s) ≤ 2 ^ 127 * 10 ^ 18 := by
    unfold rnum; exact Nat.mul_le_mul (Nat.le_of_lt (natAbs_lt ic)) (pow_le18 (by omega))
  have e2 : rden 1 ((t : Int) - s) ≤ 1 * 10 ^ 18 := by
    unfold rden; exact Nat.mul_le_mul (Nat.le_refl _) (pow_le18 (by omega))
  refine ⟨Nat.lt_of_le_of_lt e1 (by decide), ?_, Nat.le_trans (Nat.mul_le_mul_left 2 e2) (by decide), ?_⟩
  · unfold rden; exact Nat.mul_pos (by omega) (Nat.pow_pos (by decide))
  · exact Nat.lt_of_le_of_lt (Nat.le_trans (rquo_le _ _ _ _ _) (Nat.add_le_add_right e1 1)) (by decide)

end Go.Proofs.YtbgglghapjfdeaaDoor
/- The contracts of Of and Mul (package dec). -/
namespace Go.Proofs.YtbgglghapjfdeaaDoor
open Go.RowKit
set_option linter.unusedVariables false
attribute [local go_sem] ext_cell ext_frozen ext_drew ext_of_drew ext_of_drewN ext_setCell ext_lt ext_lt1 ext_lt2 ext_lt3 lt_n2 lt_n3 lt_n4 lt_n5 lt_n6 ext_ext

theorem mul_bounds {ca cb : Int} {sa sb t mode : Nat} (neg : Bool) (ia : InR ca) (ib : InR cb) (hsa : (sa : Int) ≤ 18) (hsb : (sb : Int) ≤ 18) (ht : (t : Int) ≤ 18) :
    rnum (ca.natAbs * cb.natAbs) ((t : Int) - sa - sb) < B ^ 5 ∧ 0 < rden 1 ((t : Int) - sa - sb) ∧ 2 * rden 1 ((t : Int) - sa - sb) ≤ B ^ 5 ∧ rquo neg (ca.natAbs * cb.natAbs) 1 ((t : Int) - sa - sb) mode < B ^ 5 := by
  have e1 : rnum (ca.natAbs * cb.natAbs) ((t : Int) - sa - sb) ≤ 2 ^ 127 * 2 ^ 127 * 10 ^ 18 := by
    unfold rnum; exact Nat.mul_le_mul (Nat.mul_le_mul (Nat.le_of_lt (natAbs_lt ia)) (Nat.le_of_lt (natAbs_lt ib))) (pow_le18 (by omega))
  have e2 : rden 1 ((t : Int) - sa - sb) ≤ 1 * 10 ^ 36 := by
    unfold rden; exact Nat.mul_le_mul (Nat.le_refl _) (pow_le36 (by omega))
  refine ⟨Nat.lt_of_le_of_lt e1 (by decide), ?_, Nat.le_trans (Nat.mul_le_mul_left 2 e2) (by decide), ?_⟩
  · unfold rden; exact Nat.mul_pos (by omega) (Nat.pow_pos (by decide))
  · exact Nat.lt_of_le_of_lt (Nat.le_trans (rquo_le _ _ _ _ _) (Nat.add_le_add_right e1 1)) (by decide)

theorem of_words (n : Int) (h1 : -9223372036854775808 ≤ n) (h2 : n ≤ 9223372036854775807) : n / 9223372036854775808 = dhi n ∧ IntKind.u64.wrap n = dlo n := by
  rw [IntKind.wrap_u64]; unfold dhi dlo; omega
set_option maxHeartbeats 400000 in
set_option maxRecDepth 100000 in
theorem of_ok (n : Int) (s : Nat) (w : World) (h1 : -9223372036854775808 ≤ n) (h2 : n ≤ 9223372036854775807) (hs : (s : Int) ≤ 18) :
    Calls Tryd.prog 36 #[.int .i64 n, .int .i64 s] w
      fun e w' => e = .returned (.tuple #[.agg #[.int .i64 (dhi n), .int .u64 (dlo n), .int .i64 s], .int .i64 0]) ∧ Below w.heap.size w w' := by
  obtain ⟨e1, e2⟩ := of_words n h1 h2
  rw [← e1, ← e2]
  clear e1 e2
  go_enter Tryd.func36, Tryd.ntmps36
  go_wp2_with (go_at_call 46; refine (isScale_yes _ _ (by omega) hs).mono ?_; rintro e w' ⟨rfl, rfl⟩)
  refine bodyPost_ret (v := .tuple #[.agg _, .int .i64 0]) (by simp [results, Tryd.results36, go_sem]) rfl ⟨rfl, ?_⟩
  repeat (first | exact Below.refl _ _ | refine Below.drew ?_ | refine below_drewN ?_ _ | refine bel_alloc ?_ _ | refine bel_ext ?_ _ | (refine Below.setCell ?_ ?_ _; rotate_left; (simp <;> omega)))

end Go.Proofs.YtbgglghapjfdeaaDoor
