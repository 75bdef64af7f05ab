/- prod: the walk of ProdHolds. -/
import Derived.Test.YtgbphbeafomabaaGs
namespace Go.Proofs.Ytgbphbeafomabaa
open Go.RowKit Go.Shelf
set_option linter.unusedVariables false

/-- a list of numbers of sixteen bits -/
structure U16s (w : World) (v : Value) (zs : List Nat) : Prop where
  wf : ∀ z ∈ zs, z < 65536
  form : ∃ a c, v = .slice a zs.length c ∧ zs.length ≤ c ∧ c ≤ 9223372036854775807 ∧ (0 < zs.length → ∃ b off, a = some ⟨b, off, none⟩ ∧ b < w.heap.size ∧ ∀ k, k < zs.length → w.cell? ⟨b, off + k, none⟩ = some (.int .u16 ((zs.getD k 0 : Nat) : Int)))
theorem U16s.step {w w' : World} {v : Value} {zs : List Nat} (h : U16s w v zs) (k : Below w.heap.size w w') : U16s w' v zs := by
  obtain ⟨hw, a, c, e, h1, h2, h3⟩ := h
  refine ⟨hw, a, c, e, h1, h2, fun h0 => ?_⟩
  obtain ⟨b, off, ea, hb, hx⟩ := h3 h0
  exact ⟨b, off, ea, Nat.lt_of_lt_of_le hb k.size, fun j hj => (k.cell (p := ⟨b, off + j, none⟩) hb).trans (hx j hj)⟩
theorem U16s.at {w : World} {a : Option Addr} {n c : Nat} {zs : List Nat} (h : U16s w (.slice a n c) zs) (k : Nat) (hk : k < n) : ∃ b off, a = some ⟨b, off, none⟩ ∧ w.cell? ⟨b, off + k, none⟩ = some (.int .u16 ((zs.getD k 0 : Nat) : Int)) ∧ zs.getD k 0 < 65536 := by
  obtain ⟨hw, a', c', e, h1, h2, h3⟩ := h
  cases e
  obtain ⟨b, off, ea, hb, hx⟩ := h3 (by omega)
  exact ⟨b, off, ea, hx k hk, hw _ (by simp [hk])⟩
/-- the day behind k steps -/
def dy (zs : List Nat) : Nat → Int
  | 0 => 0
  | k + 1 => dy zs k + (1 + ((zs.getD k 0 % 100 : Nat) : Int))
theorem dy_bd (zs : List Nat) : ∀ k : Nat, (k : Int) ≤ dy zs k ∧ dy zs k ≤ 100 * (k : Int)
  | 0 => by simp [dy]
  | k + 1 => by
    have h := dy_bd zs k
    have : zs.getD k 0 % 100 < 100 := Nat.mod_lt _ (by omega)
    show ((k + 1 : Nat) : Int) ≤ dy zs k + (1 + ((zs.getD k 0 % 100 : Nat) : Int)) ∧ dy zs k + (1 + ((zs.getD k 0 % 100 : Nat) : Int)) ≤ 100 * ((k + 1 : Nat) : Int)
    omega
/-- the versions behind k steps -/
def vsH (zs : List Nat) : Nat → List PV
  | 0 => []
  | k + 1 => vsH zs k ++ [plainV 3 (dy zs (k + 1))]
theorem vsH_len (zs : List Nat) : ∀ k, (vsH zs k).length = k
  | 0 => rfl
  | k + 1 => by simp [vsH, vsH_len zs k]
theorem vsH_lt (zs : List Nat) : ∀ k, ∀ y ∈ vsH zs k, y.id = 3 ∧ y.kind = 1 ∧ y.cur = 0 ∧ y.day ≤ dy zs k
  | 0, y, hy => by cases hy
  | k + 1, y, hy => by
    have hs : dy zs k ≤ dy zs (k + 1) := by show dy zs k ≤ dy zs k + (1 + ((zs.getD k 0 % 100 : Nat) : Int)); omega
    rcases List.mem_append.1 hy with hy | hy
    · have h := vsH_lt zs k y hy
      exact ⟨h.1, h.2.1, h.2.2.1, by omega⟩
    · simp only [List.mem_cons, List.not_mem_nil, or_false] at hy
      subst hy
      exact ⟨rfl, rfl, rfl, Int.le_refl _⟩
/-- the day that holds -/
def bst (zs : List Nat) (D : Int) : Nat → Int
  | 0 => 0
  | k + 1 => if dy zs (k + 1) ≤ D then dy zs (k + 1) else bst zs D k
theorem bst_nn (zs : List Nat) (D : Int) : ∀ k : Nat, 0 ≤ bst zs D k ∧ bst zs D k ≤ 100 * (k : Int)
  | 0 => by simp [bst]
  | k + 1 => by
    have h := bst_nn zs D k
    have h2 := dy_bd zs (k + 1)
    unfold bst
    split <;> omega
theorem hold_snoc (vs : List PV) (x : PV) (id D : Int) : hold (vs ++ [x]) id D = if fits id D (x.id, x.day) then some x else hold vs id D := by
  unfold hold
  rw [List.reverse_append, List.reverse_singleton, List.singleton_append, List.find?_cons]
  by_cases h : fits id D (x.id, x.day)
  · rw [if_pos h]; simp [h]
  · rw [if_neg h]; simp [h]
theorem hold_bst (zs : List Nat) (D : Int) : ∀ k, hold (vsH zs k) 3 D = if bst zs D k = 0 then none else some (plainV 3 (bst zs D k))
  | 0 => rfl
  | k + 1 => by
    have h2 := dy_bd zs (k + 1)
    unfold vsH bst
    rw [hold_snoc]
    by_cases h : dy zs (k + 1) ≤ D
    · rw [if_pos ⟨rfl, h⟩, if_pos h, if_neg (by omega)]
    · rw [if_neg (fun e => h e.2), if_neg h]
      exact hold_bst zs D k
/-- a version that is later than all of its product, of the same kind and currency -/
theorem fol_rise {vs : List PV} {x : PV} (h : ∀ y ∈ vs, y.id = x.id → y.day < x.day ∧ y.kind = x.kind ∧ y.cur = x.cur) : fol vs x = 0 := by
  have ht : there vs x.id x.day = false := by
    unfold there
    rw [List.any_eq_false]
    intro y hy e
    have e' : y.id = x.id ∧ y.day = x.day := by simpa using e
    have := h y hy e'.1
    omega
  unfold fol
  rw [ht]
  cases hh : hold vs x.id 3652059 with
  | none => rfl
  | some l =>
    have hm : l ∈ vs := List.mem_reverse.1 (List.mem_of_find?_eq_some hh)
    have hf : fits x.id 3652059 (l.id, l.day) := by simpa using List.find?_some hh
    have := h l hm hf.1
    show (if x.day < l.day then (9 : Int) else if l.kind ≠ x.kind ∨ l.cur ≠ x.cur then 11 else 0) = 0
    rw [if_neg (by omega), if_neg (fun e => e.elim (fun e => e this.2.1) (fun e => e this.2.2))]
set_option maxRecDepth 100000 in
set_option maxHeartbeats 4000000 in
theorem holds_walk (v : Value) (zs : List Nat) (ask : Nat) (w : World) (h : U16s w v zs) (ha : ask < 65536) :
    Calls Try.prog 5 #[v, .int .u16 (ask : Int)] w fun e w' => e = .returned (.bool true) ∧ Below w.heap.size w w' := by
  obtain ⟨n, hn⟩ : ∃ n, n = zs.length := ⟨_, rfl⟩
  obtain ⟨sa, sc, rfl, g1, g2⟩ : ∃ a c, v = .slice a n c ∧ n ≤ c ∧ c ≤ 9223372036854775807 := by obtain ⟨_, a, c, e, h1, h2, _⟩ := h; exact ⟨a, c, by rw [hn]; exact e, by rw [hn]; exact h1, h2⟩
  have HU := (show Hid _ from h)
  have HN := (show Hid _ from hn)
  clear h hn
  go_enter Try.func5, Try.ntmps5
  go_wp2_with fail
  refine (awake_ok _).mono ?_
  rintro e w1 ⟨rfl, b1⟩
  have D1 := (show Hid _ from b1)
  clear b1
  go_wp2_with fail
  refine (new_ok _).mono ?_
  rintro e w2 ⟨⟨p, rfl, C2⟩, b2⟩
  have HC2 := (show Hid _ from C2)
  have D2 := (show Hid _ from D1.out.trans (b2.mono D1.out.size))
  have l12 := b2.size
  have D1s := D1.out.size
  have HD1 : Hid (w.heap.size ≤ w1.heap.size) := D1s
  clear b2 C2 D1s
  go_wp2_with fail
  go_loopw [6, 7, 17] (fun b d i wr => ∃ k : Nat, k ≤ n ∧ k ≤ 60 ∧ b = .int .i64 (bst zs (1 + (ask : Int)) k) ∧ d = .int .i64 (dy zs k) ∧ i = .int .i64 k ∧ Hid (∃ S, Cat wr p w1.heap.size S (vsH zs k)) ∧ Hid (Below w.heap.size w wr)) (fun _ _ i _ => n - (intOf i).toNat)
  case atStart => exact ⟨0, by omega, by omega, rfl, rfl, rfl, ⟨_, HC2.out⟩, D2.out⟩
  case round =>
    obtain ⟨k, hk, hk60, rfl, rfl, rfl, HC, HB⟩ := hrel
    have hbb := bst_nn zs (1 + (ask : Int)) k
    have hdd := dy_bd zs k
    by_cases hkn : k = n
    · subst hkn
      have HH : Hid (hold (vsH zs k) 3 (1 + (ask : Int)) = if bst zs (1 + (ask : Int)) k = 0 then none else some (plainV 3 (bst zs (1 + (ask : Int)) k))) := hold_bst zs _ k
      generalize bst zs (1 + (ask : Int)) k = bb at *
      have hw1 : Hid (wi (1 + (ask : Int)) 1 3652059 = true) := by
        show wi (1 + (ask : Int)) 1 3652059 = true
        simp [wi]
        omega
      go_wp2_with fail
      obtain ⟨S, hC⟩ := HC.out
      refine (at_ok 3 (1 + (ask : Int)) _ hC).mono ?_
      rintro e w3 ⟨ha3, b3⟩
      have D3 := (show Hid _ from HB.out.trans (b3.mono HB.out.size))
      have DZ := (show Hid _ from D3.out.alloc D3.out.size (.cells #[.int .i64 0, .int .i64 0, .int .i64 0, .int .i64 0, .int .i64 0, .int .i64 0, .int .i64 0, .int .i64 0, .slice none 0 0] 25))
      by_cases hb0 : bb = 0
      · have he : e = .returned (.tuple #[.agg (zeroV.cells (.slice none 0 0)).toArray, .int .i64 7]) := by
          rcases ha3 with ⟨h, _⟩ | ⟨_, _, e⟩ | ⟨_, x, v, _, h, _⟩
          · rw [hw1.out] at h; cases h
          · exact e
          · rw [HH.out, if_pos hb0] at h; cases h
        subst he
        subst hb0
        clear ha3 b3 hC
        go_upto_region 16 with (refine stA rfl 25 _ _ rfl w3.heap.size (by rfl) _ [.int .i64 0, .int .i64 0, .int .i64 0, .int .i64 0, .int .i64 0, .int .i64 0, .int .i64 0, .int .i64 0, .slice none 0 0] (by rfl) 25 (va_new w3 [.int .i64 0, .int .i64 0, .int .i64 0, .int .i64 0, .int .i64 0, .int .i64 0, .int .i64 0, .int .i64 0, .slice none 0 0] 25) infoP rfl zz_one ?_; intro w4 V4 U4)
        have y0 := V4.cell 0 (v := .int .i64 0) rfl
        have y8 := V4.cell 8 (v := .slice none 0 0) rfl
        have D4 := (show Hid _ from U4.bel DZ.out D3.out.size)
        clear V4 U4
        go_wp2_with fail
        go_ret
        exact ⟨rfl, D4.out⟩
      · have e9 : (bb == 0) = false := by simpa using hb0
        obtain ⟨v3, rfl, o3⟩ : ∃ v, e = .returned (.tuple #[.agg ((plainV 3 bb).cells v).toArray, .int .i64 0]) ∧ ∃ a n c, v = .slice a n c := by
          rcases ha3 with ⟨h, _⟩ | ⟨_, h, _⟩ | ⟨_, x, v, _, h, e, o⟩
          · rw [hw1.out] at h; cases h
          · rw [HH.out, if_neg hb0] at h; cases h
          · rw [HH.out, if_neg hb0] at h
            cases h
            exact ⟨v, e, o.form⟩
        obtain ⟨a3, n3, c3, rfl⟩ := o3
        clear ha3 b3 hC
        go_upto_region 16 with (refine stA rfl 25 _ _ rfl w3.heap.size (by rfl) _ ((plainV 3 bb).cells (.slice a3 n3 c3)) (by rfl) 25 (va_new w3 [.int .i64 0, .int .i64 0, .int .i64 0, .int .i64 0, .int .i64 0, .int .i64 0, .int .i64 0, .int .i64 0, .slice none 0 0] 25) infoP rfl (pv_one _ ⟨_, _, _, rfl⟩) ?_; intro w4 V4 U4)
        have y3 := V4.cell 3 (v := .int .i64 bb) rfl
        have D4 := (show Hid _ from U4.bel DZ.out D3.out.size)
        clear V4 U4
        go_wp2_with fail
        go_ret
        exact ⟨rfl, D4.out⟩
    · have hk' : k < n := by omega
      have d1 : (0 : Int) ≤ (k : Int) := by omega
      have d2 : (k : Int) < (n : Int) := by omega
      obtain ⟨b, off, rfl, z1, z2⟩ := (HU.out.step HB.out).at k hk'
      by_cases h60 : k = 60
      · have d3 : (60 : Int) ≤ (k : Int) := by omega
        clear h60
        have HH : Hid (hold (vsH zs k) 3 (1 + (ask : Int)) = if bst zs (1 + (ask : Int)) k = 0 then none else some (plainV 3 (bst zs (1 + (ask : Int)) k))) := hold_bst zs _ k
        generalize bst zs (1 + (ask : Int)) k = bb at *
        have hw1 : Hid (wi (1 + (ask : Int)) 1 3652059 = true) := by
          show wi (1 + (ask : Int)) 1 3652059 = true
          simp [wi]
          omega
        go_wp2_with fail
        obtain ⟨S, hC⟩ := HC.out
        refine (at_ok 3 (1 + (ask : Int)) _ hC).mono ?_
        rintro e w3 ⟨ha3, b3⟩
        have D3 := (show Hid _ from HB.out.trans (b3.mono HB.out.size))
        have DZ := (show Hid _ from D3.out.alloc D3.out.size (.cells #[.int .i64 0, .int .i64 0, .int .i64 0, .int .i64 0, .int .i64 0, .int .i64 0, .int .i64 0, .int .i64 0, .slice none 0 0] 25))
        by_cases hb0 : bb = 0
        · have he : e = .returned (.tuple #[.agg (zeroV.cells (.slice none 0 0)).toArray, .int .i64 7]) := by
            rcases ha3 with ⟨h, _⟩ | ⟨_, _, e⟩ | ⟨_, x, v, _, h, _⟩
            · rw [hw1.out] at h; cases h
            · exact e
            · rw [HH.out, if_pos hb0] at h; cases h
          subst he
          subst hb0
          clear ha3 b3 hC
          go_upto_region 16 with (refine stA rfl 25 _ _ rfl w3.heap.size (by rfl) _ [.int .i64 0, .int .i64 0, .int .i64 0, .int .i64 0, .int .i64 0, .int .i64 0, .int .i64 0, .int .i64 0, .slice none 0 0] (by rfl) 25 (va_new w3 [.int .i64 0, .int .i64 0, .int .i64 0, .int .i64 0, .int .i64 0, .int .i64 0, .int .i64 0, .int .i64 0, .slice none 0 0] 25) infoP rfl zz_one ?_; intro w4 V4 U4)
          have y0 := V4.cell 0 (v := .int .i64 0) rfl
          have y8 := V4.cell 8 (v := .slice none 0 0) rfl
          have D4 := (show Hid _ from U4.bel DZ.out D3.out.size)
          clear V4 U4
          go_wp2_with fail
          go_ret
          exact ⟨rfl, D4.out⟩
        · have e9 : (bb == 0) = false := by simpa using hb0
          obtain ⟨v3, rfl, o3⟩ : ∃ v, e = .returned (.tuple #[.agg ((plainV 3 bb).cells v).toArray, .int .i64 0]) ∧ ∃ a n c, v = .slice a n c := by
            rcases ha3 with ⟨h, _⟩ | ⟨_, h, _⟩ | ⟨_, x, v, _, h, e, o⟩
            · rw [hw1.out] at h; cases h
            · rw [HH.out, if_neg hb0] at h; cases h
            · rw [HH.out, if_neg hb0] at h
              cases h
              exact ⟨v, e, o.form⟩
          obtain ⟨a3, n3, c3, rfl⟩ := o3
          clear ha3 b3 hC
          go_upto_region 16 with (refine stA rfl 25 _ _ rfl w3.heap.size (by rfl) _ ((plainV 3 bb).cells (.slice a3 n3 c3)) (by rfl) 25 (va_new w3 [.int .i64 0, .int .i64 0, .int .i64 0, .int .i64 0, .int .i64 0, .int .i64 0, .int .i64 0, .int .i64 0, .slice none 0 0] 25) infoP rfl (pv_one _ ⟨_, _, _, rfl⟩) ?_; intro w4 V4 U4)
          have y3 := V4.cell 3 (v := .int .i64 bb) rfl
          have D4 := (show Hid _ from U4.bel DZ.out D3.out.size)
          clear V4 U4
          go_wp2_with fail
          go_ret
          exact ⟨rfl, D4.out⟩
      · have d3 : (k : Int) < 60 := by omega
        obtain ⟨d', hd'⟩ : ∃ d', d' = dy zs (k + 1) := ⟨_, rfl⟩
        have HDD := (show Hid _ from hd')
        have hb' := dy_bd zs (k + 1)
        rw [← hd'] at hb'
        have hlt : dy zs k < d' := by
          rw [hd']
          show dy zs k < dy zs k + (1 + ((zs.getD k 0 % 100 : Nat) : Int))
          omega
        have e1 : dy zs k + (1 + ((zs.getD k 0 : Nat) : Int) % 100) = d' := by
          rw [hd']
          show _ = dy zs k + (1 + ((zs.getD k 0 % 100 : Nat) : Int))
          omega
        have E1 := (show Hid _ from e1)
        clear e1
        clear hd'
        generalize zs.getD k 0 = z at *
        obtain ⟨bb, hbb'⟩ : ∃ bb, bb = bst zs (1 + (ask : Int)) k := ⟨_, rfl⟩
        have HBB := (show Hid _ from hbb')
        rw [← hbb'] at hbb ⊢
        clear hbb'
        have HLT : Hid (∀ y ∈ vsH zs k, y.day < d') := fun y hy => by
          have h1 := vsH_lt zs k y hy
          omega
        generalize dy zs k = d0 at *
        go_wp2_with fail
        rw [E1.out]
        refine (plain_ok 3 d' _).mono ?_
        rintro e w3 ⟨⟨b3, rfl, t3, _⟩, n3⟩
        obtain ⟨S, hC⟩ := HC.out
        have C3 := (show Hid _ from hC.step n3)
        have D3 := (show Hid _ from HB.out.trans (n3.mono HB.out.size))
        have T3 := (show Hid _ from t3)
        clear n3 t3 hC
        go_wp2_with fail
        have HFO : fol (vsH zs k) (plainV 3 d') = 0 := fol_rise (fun y hy _ => by
          have h1 := vsH_lt zs k y hy
          exact ⟨HLT.out y hy, h1.2.1, h1.2.2.1⟩)
        refine (add_yes (plainV 3 d') _ _ C3.out (plain_wf (by unfold I64; omega) (by unfold I64; omega)) T3.out no_nil (plain_chk (by omega) (by omega)) HFO (by rw [vsH_len]; omega)).mono ?_
        rintro e w4 ⟨rfl, C4, b4, _⟩
        have HC4 : Hid (∃ S, Cat w4 p w1.heap.size S (vsH zs (k + 1))) := ⟨_, by
          show Cat w4 p w1.heap.size _ (vsH zs k ++ [plainV 3 (dy zs (k + 1))])
          rw [← HDD.out]
          exact C4⟩
        have D4 := (show Hid _ from D3.out.trans (b4.mono HD1.out))
        clear C4 b4 C3 D3 T3 HFO HC
        by_cases hq : d' ≤ 1 + (ask : Int)
        · go_wp2_with fail
          refine ⟨⟨k + 1, by omega, by omega, ?_, by rw [HDD.out], by go_num, HC4.out, D4.out⟩, by simp [intOf]; omega⟩
          show _ = Value.int .i64 (if dy zs (k + 1) ≤ 1 + (ask : Int) then dy zs (k + 1) else bst zs (1 + (ask : Int)) k)
          rw [← HDD.out, if_pos hq]
        · go_wp2_with fail
          refine ⟨⟨k + 1, by omega, by omega, ?_, by rw [HDD.out], by go_num, HC4.out, D4.out⟩, by simp [intOf]; omega⟩
          show _ = Value.int .i64 (if dy zs (k + 1) ≤ 1 + (ask : Int) then dy zs (k + 1) else bst zs (1 + (ask : Int)) k)
          rw [← HDD.out, if_neg (by omega), HBB.out]
end Go.Proofs.Ytgbphbeafomabaa
