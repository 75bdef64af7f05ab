/- chart: isAmount, check. -/
import Derived.Test.YtlgcbbnnldlooaaDoorCtb
namespace Go.Proofs.YtlgcbbnnldlooaaDoor
open Go.RowKit
set_option linter.unusedVariables false
attribute [local go_sem] ext_cell ext_frozen ext_drew ext_of_drew ext_of_drewN ext_setCell ext_lt ext_lt1 ext_lt2 ext_lt3 lt_n2 lt_n3 lt_n4 lt_n5 lt_n6

theorem p10_12 {n : Nat} (h : n ≤ 12) : (10 : Int) ^ n ≤ 10 ^ 12 := by
  have : ((10 ^ n : Nat) : Int) ≤ ((10 ^ 12 : Nat) : Int) := Int.ofNat_le.2 (Nat.pow_le_pow_right (by decide) h)
  simpa using this
set_option maxHeartbeats 1000000 in
set_option maxRecDepth 100000 in
theorem isAmount_bad (h l s : Int) (w : World) (hb : Bad h l s) :
    Calls Tryd.prog 47 #[.agg #[.int .i64 h, .int .u64 l, .int .i64 s]] w fun e w' => e = .returned (.bool false) ∧ Below w.heap.size w w' := by
  have H := (show Hid _ from hb)
  clear hb
  go_enter Tryd.func47, Tryd.ntmps47
  go_wp2_with fail
  refine (check_bad _ _ _ _ H.out).mono ?_
  rintro e w1 ⟨rfl, hb1⟩; obtain ⟨x1, rfl⟩ := ext_of_below hb1; clear hb1
  go_wp2_with fail
  go_ret
  refine ⟨rfl, ?_⟩
  repeat (first | exact Below.refl _ _ | refine Below.drew ?_ | refine below_drewN ?_ _ | refine bel_alloc ?_ _ | refine bel_ext ?_ _ | (refine Below.setCell ?_ ?_ _; rotate_left; (simp <;> omega)))
set_option maxHeartbeats 1000000 in
set_option maxRecDepth 100000 in
theorem isAmount_long (c : Int) (s : Nat) (w : World) (ic : InR c) (hs : (s : Int) ≤ 18) (h : ¬ (s : Int) ≤ 12) :
    Calls Tryd.prog 47 #[dv c s] w fun e w' => e = .returned (.bool false) ∧ Below w.heap.size w w' := by
  have C := (show Hid _ from fun w => check_ok c _ _ s w (IsD.self _) ic hs)
  clear ic hs
  unfold dv
  generalize dhi c = x at *
  generalize dlo c = y at *
  go_enter Tryd.func47, Tryd.ntmps47
  go_wp2_with fail
  refine (C.out _).mono ?_
  rintro e w1 ⟨rfl, hb1⟩; obtain ⟨x1, rfl⟩ := ext_of_below hb1; clear hb1
  go_wp2_with fail
  go_ret
  refine ⟨by simp, ?_⟩
  repeat (first | exact Below.refl _ _ | refine Below.drew ?_ | refine below_drewN ?_ _ | refine bel_alloc ?_ _ | refine bel_ext ?_ _ | (refine Below.setCell ?_ ?_ _; rotate_left; (simp <;> omega)))
set_option maxHeartbeats 1000000 in
set_option maxRecDepth 100000 in
theorem isAmount_ok (c : Int) (s : Nat) (w : World) (L : Lim w) (ic : InR c) (hs : (s : Int) ≤ 12) :
    Calls Tryd.prog 47 #[dv c s] w fun e w' => e = .returned (.bool (!(far c s M20))) ∧ Below w.heap.size w w' := by
  have C := (show Hid _ from fun w => check_ok c _ _ s w (IsD.self _) ic (by omega))
  have D : Hid (∀ w : World, Calls Tryd.prog 27 #[.agg #[.int .i64 (dhi c), .int .u64 (dlo c), .int .i64 s], .agg #[.int .i64 5, .int .u64 7766279631452241920, .int .i64 0]] w fun e w' => e = .returned (.bool (far c s M20)) ∧ Below w.heap.size w w') := by
    intro w
    have := beyond_ok c M20 s w ic inr_M20 (by omega)
    rw [dv_M20] at this
    exact this
  have HL := (show Hid _ from L)
  clear ic L
  unfold dv
  generalize far c s M20 = q at *
  generalize dhi c = x at *
  generalize dlo c = y at *
  go_enter Tryd.func47, Tryd.ntmps47
  go_wp2_with fail
  refine (C.out _).mono ?_
  rintro e w1 ⟨rfl, hb1⟩
  obtain ⟨a0, a1, a2, a3⟩ := (HL.out.step (below_over hb1)).amt
  obtain ⟨x1, rfl⟩ := ext_of_below hb1; clear hb1
  go_wp2_with fail
  refine (D.out _).mono ?_
  rintro e w1 ⟨rfl, hb1⟩; obtain ⟨x2, rfl⟩ := ext_of_below hb1; clear hb1
  go_wp2_with fail
  go_ret
  refine ⟨by simp, ?_⟩
  repeat (first | exact Below.refl _ _ | refine Below.drew ?_ | refine below_drewN ?_ _ | refine bel_alloc ?_ _ | refine bel_ext ?_ _ | (refine Below.setCell ?_ ?_ _; rotate_left; (simp <;> omega)))
theorem isAmount_any (x : Ln) (hx : x.wf) (w : World) (L : Lim w) :
    Calls Tryd.prog 47 #[.agg #[.int .i64 x.h, .int .u64 x.l, .int .i64 x.s]] w fun e w' => e = .returned (.bool x.ok) ∧ Below w.heap.size w w' := by
  rcases form_cases x.h x.l x.s hx.h hx.l with hb | ⟨c, n, h1, h2, h3, ic, hn⟩
  · have e : x.ok = false := by
      unfold Ln.ok
      rcases hb with hb | ⟨e1, e2⟩
      · rw [decide_eq_false (by omega)]; rfl
      · by_cases hs : 0 ≤ x.s ∧ x.s ≤ 12
        · have hp : (0 : Int) < (10 : Int) ^ x.s.toNat ∧ (10 : Int) ^ x.s.toNat ≤ 10 ^ 12 := ⟨Int.pow_pos (by decide), p10_12 (by omega)⟩
          have : far x.cf x.s.toNat M20 = true := by
            unfold far Ln.cf
            rw [e1, e2]
            apply decide_eq_true
            right
            generalize (10 : Int) ^ x.s.toNat = p at *
            unfold M20
            have h12 : (10 : Int) ^ 12 = 1000000000000 := by decide
            omega
          rw [this]; simp
        · rw [decide_eq_false hs]; rfl
    rw [e]
    exact isAmount_bad _ _ _ _ hb
  · have ec : x.cf = c := cf_of (s := x.s) h1 h2
    unfold Ln.ok
    rw [ec, h1, h2, h3]
    by_cases hs : (n : Int) ≤ 12
    · rw [decide_eq_true (by omega), Int.toNat_natCast, Bool.true_and]
      exact isAmount_ok c n w L ic hs
    · rw [decide_eq_false (by omega), Bool.false_and]
      exact isAmount_long c n w ic hn hs
def cherr (ls : List Ln) : Int := if ls.any (fun x => !x.pl) then 1 else if 16 < ls.length then 2 else if ls.any (fun x => !x.ok) then 3 else 0
theorem cherr_1 {ls : List Ln} {k : Nat} {x : Ln} (hx : ls[k]? = some x) (h : x.pl = false) : cherr ls = 1 := by
  unfold cherr
  rw [if_pos (List.any_eq_true.2 ⟨x, List.mem_of_getElem? hx, by rw [h]; rfl⟩)]
theorem any_no {ls : List Ln} {f : Ln → Bool} {n : Nat} (hn : n = ls.length) (h : ∀ x ∈ ls.take n, f x = true) : ls.any (fun x => !f x) = false := by
  rw [hn, List.take_length] at h
  rw [List.any_eq_false]
  intro x hx
  rw [h x hx]
  simp
theorem take_next {ls : List Ln} {f : Ln → Bool} {k : Nat} {x : Ln} (h : ∀ x ∈ ls.take k, f x = true) (hx : ls[k]? = some x) (hf : f x = true) : ∀ x ∈ ls.take (k + 1), f x = true := by
  intro y hy
  rw [List.take_add_one, hx] at hy
  rcases List.mem_append.1 hy with hy | hy
  · exact h y hy
  · simp at hy; subst hy; exact hf
set_option maxHeartbeats 2000000 in
set_option maxRecDepth 100000 in
theorem check_any (v : Value) (ls : List Ln) (w : World) (h : Sl LN w v ls) (hwf : ∀ x ∈ ls, x.wf) (L : Lim w) :
    Calls Tryd.prog 25 #[v] w fun e w' => e = .returned (.int .i64 (cherr ls)) ∧ Below w.heap.size w w' := by
  obtain ⟨n, hn⟩ : ∃ n, n = ls.length := ⟨_, rfl⟩
  have H := (show Hid _ from h)
  obtain ⟨ta, tc, rfl, g1, g2⟩ : ∃ a c, v = .slice a n c ∧ n ≤ c ∧ c ≤ 9223372036854775807 := by obtain ⟨a, c, e, h1, h2, _⟩ := h; exact ⟨a, c, by rw [hn]; exact e, by rw [hn]; exact h1, h2⟩
  have HN := (show Hid _ from hn)
  have HL := (show Hid _ from L)
  have HW := (show Hid _ from hwf)
  clear h hn L hwf
  go_enter Tryd.func25, Tryd.ntmps25
  go_wp2_with fail
  go_loopw [9] (fun i wr => ∃ k : Nat, k ≤ n ∧ i = .int .i64 k ∧ Hid (∀ x ∈ ls.take k, x.pl = true) ∧ Below w.heap.size w wr) (fun i _ => n - (intOf i).toNat)
  case atStart => exact ⟨0, by omega, rfl, (by intro x hx; simp at hx), Below.refl _ _⟩
  case round =>
    obtain ⟨k, hk, rfl, HG, hbel⟩ := hrel
    have HB := (show Hid _ from hbel)
    clear hbel
    by_cases hkn : k = n
    · subst hkn
      by_cases h16 : (16 : Int) < (k : Int)
      · go_wp2_with fail
        go_ret
        exact ⟨by unfold cherr; rw [any_no HN.out HG.out, if_neg (by simp), if_pos (by have := HN.out; omega)]; rfl, HB.out⟩
      · go_wp2_with fail
        go_loopw [29] (fun i wr => ∃ m : Nat, m ≤ k ∧ i = .int .i64 m ∧ Hid (∀ x ∈ ls.take m, x.ok = true) ∧ Below w.heap.size w wr) (fun i _ => k - (intOf i).toNat)
        case atStart => exact ⟨0, by omega, rfl, (by intro x hx; simp at hx), HB.out⟩
        case round =>
          obtain ⟨m, hm, rfl, HO, hbel⟩ := hrel
          have HB1 := (show Hid _ from hbel)
          clear hbel
          by_cases hmk : m = k
          · subst hmk
            go_wp2_with fail
            go_ret
            exact ⟨by unfold cherr; rw [any_no HN.out HG.out, if_neg (by simp), if_neg (by have := HN.out; omega), any_no HN.out HO.out, if_neg (by simp)]; rfl, HB1.out⟩
          have hm' : m < k := by omega
          obtain ⟨x, hx⟩ : ∃ x, ls[m]? = some x := ⟨ls[m]'(by have := HN.out; omega), by simp⟩
          obtain ⟨b, off, e, hb, hc⟩ := (H.out.step HB1.out).at m x hx
          cases e
          have c0 : wr.cell? ⟨b, off + m * 5, none⟩ = some (.int .i64 x.code) := hc 0 _ rfl
          have c1 : wr.cell? ⟨b, off + m * 5 + 1, none⟩ = some (.int .i64 x.cur) := hc 1 _ rfl
          have c2 : wr.cell? ⟨b, off + m * 5 + 2, none⟩ = some (.int .i64 x.h) := hc 2 _ rfl
          have c3 : wr.cell? ⟨b, off + m * 5 + 3, none⟩ = some (.int .u64 x.l) := hc 3 _ rfl
          have c4 : wr.cell? ⟨b, off + m * 5 + 4, none⟩ = some (.int .i64 x.s) := hc 4 _ rfl
          have d1 : (0 : Int) ≤ (m : Int) := by omega
          have d2 : (m : Int) < (k : Int) := by omega
          clear hc
          have HA := (show Hid _ from fun w L => isAmount_any x (HW.out x (List.mem_of_getElem? hx)) w L)
          have HX := (show Hid _ from hx)
          clear hx hb
          have HL1 := (show Hid _ from HL.out.step HB1.out)
          have HNX : Hid (x.ok = true → ∀ x ∈ ls.take (m + 1), x.ok = true) := fun hf => take_next HO.out HX.out hf
          have HBX : Hid (x.ok = false → ls.any (fun x => !x.ok) = true) := fun hf => List.any_eq_true.2 ⟨x, List.mem_of_getElem? HX.out, by rw [hf]; rfl⟩
          clear HX
          generalize x.ok = q at *
          obtain ⟨x0, x1, x2, x3, x4⟩ := x
          go_wp2_with fail
          refine (HA.out _ (HL1.out.alloc _)).mono ?_
          rintro e w2 ⟨rfl, b2⟩
          have HB2 := (show Hid _ from HB1.out.trans ((below_over b2).mono HB1.out.size))
          clear b2
          cases q
          · go_wp2_with fail
            go_ret
            exact ⟨by unfold cherr; rw [any_no HN.out HG.out, if_neg (by simp), if_neg (by have := HN.out; omega), if_pos (HBX.out (by trivial))]; rfl, HB2.out⟩
          · go_wp2_with fail
            exact ⟨⟨m + 1, by omega, by go_num, HNX.out (by trivial), HB2.out⟩, by simp [intOf]; omega⟩
    have hk' : k < n := by omega
    obtain ⟨x, hx⟩ : ∃ x, ls[k]? = some x := ⟨ls[k]'(by have := HN.out; omega), by simp⟩
    obtain ⟨b, off, e, hb, hc⟩ := (H.out.step HB.out).at k x hx
    cases e
    have c0 : wr.cell? ⟨b, off + k * 5, none⟩ = some (.int .i64 x.code) := hc 0 _ rfl
    have c1 : wr.cell? ⟨b, off + k * 5 + 1, none⟩ = some (.int .i64 x.cur) := hc 1 _ rfl
    have c2 : wr.cell? ⟨b, off + k * 5 + 2, none⟩ = some (.int .i64 x.h) := hc 2 _ rfl
    have c3 : wr.cell? ⟨b, off + k * 5 + 3, none⟩ = some (.int .u64 x.l) := hc 3 _ rfl
    have c4 : wr.cell? ⟨b, off + k * 5 + 4, none⟩ = some (.int .i64 x.s) := hc 4 _ rfl
    have d1 : (0 : Int) ≤ (k : Int) := by omega
    have d2 : (k : Int) < (n : Int) := by omega
    clear hc
    have HP : Hid (x.pl = (wi x.code 1 8 && wi x.cur 0 3)) := rfl
    have HNX : Hid (x.pl = true → ∀ x ∈ ls.take (k + 1), x.pl = true) := fun hf => take_next HG.out hx hf
    have HBX : Hid (x.pl = false → cherr ls = 1) := fun hf => cherr_1 hx hf
    clear hx hb
    generalize x.pl = q at *
    obtain ⟨x0, x1, x2, x3, x4⟩ := x
    simp only at c0 c1 c2 c3 c4 HP
    go_wp2_with fail
    refine (code_ok _ _).mono ?_
    rintro e w1 ⟨rfl, hq⟩
    obtain rfl := hq.symm
    cases p1 : wi x0 1 8
    · go_wp2_with fail
      go_ret
      exact ⟨by rw [HBX.out (by rw [HP.out, p1]; rfl)]; rfl, HB.out.alloc HB.out.size _⟩
    · go_wp2_with fail
      refine (ccur_ok _ _).mono ?_
      rintro e w2 ⟨rfl, b2⟩
      have HB2 := (show Hid _ from HB.out.trans ((below_over b2).mono HB.out.size))
      clear b2
      cases p2 : wi x1 0 3
      · go_wp2_with fail
        go_ret
        exact ⟨by rw [HBX.out (by rw [HP.out, p1, p2]; rfl)]; rfl, HB2.out⟩
      · go_wp2_with fail
        exact ⟨⟨k + 1, by omega, by go_num, HNX.out (by rw [HP.out, p1, p2]; rfl), HB2.out⟩, by simp [intOf]; omega⟩
end Go.Proofs.YtlgcbbnnldlooaaDoor
