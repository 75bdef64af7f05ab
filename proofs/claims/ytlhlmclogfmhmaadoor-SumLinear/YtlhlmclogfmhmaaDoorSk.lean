/- sum: the walk of SumLinear. -/
import Derived.Test.YtlhlmclogfmhmaaDoorSi
import Derived.Laws.Cover1
namespace Go.Proofs.YtlhlmclogfmhmaaDoor
open Go.RowKit
set_option linter.unusedVariables false

/-- bytes put upon one another -/
def xo (ps qs rs : List Nat) (z : Nat) : Nat → List Nat
  | 0 => List.replicate z 0
  | k + 1 => (xo ps qs rs z k).set k (ps.getD k 0 ^^^ qs.getD k 0 ^^^ rs.getD k 0)
theorem xo_len (ps qs rs : List Nat) (z : Nat) : ∀ k, (xo ps qs rs z k).length = z
  | 0 => by simp [xo]
  | k + 1 => by simp [xo, xo_len ps qs rs z k]
theorem x8 {a b : Nat} (ha : a < 256) (hb : b < 256) : a ^^^ b < 256 := Nat.xor_lt_two_pow (n := 8) ha hb
theorem xo_by {ps qs rs : List Nat} (hp : By ps) (hq : By qs) (hr : By rs) (z : Nat) : ∀ k, By (xo ps qs rs z k)
  | 0 => fun x hx => by have := List.eq_of_mem_replicate hx; omega
  | k + 1 => by_set (xo_by hp hq hr z k) (x8 (x8 (by_getD hp k) (by_getD hq k)) (by_getD hr k))
theorem xo_get (ps qs rs : List Nat) (z : Nat) : ∀ k, k ≤ z → ∀ i, i < k → (xo ps qs rs z k).getD i 0 = ps.getD i 0 ^^^ qs.getD i 0 ^^^ rs.getD i 0
  | 0, _, i, hi => by omega
  | k + 1, hk, i, hi => by
    by_cases e : i = k
    · subst e
      have hz : i < z := by omega
      simp [xo, xo_len, hz]
    · have := xo_get ps qs rs z k (by omega) i (by omega)
      simp only [xo, List.getD_eq_getElem?_getD, List.getElem?_set] at *
      rw [if_neg (fun h => e h.symm)]
      exact this
theorem take_getD (xs : List Nat) (n i : Nat) (h : i < n) : (xs.take n).getD i 0 = xs.getD i 0 := by simp [List.getD, h]
theorem xo_crc (ps qs rs : List Nat) (z : Nat) (hp : z ≤ ps.length) (hq : z ≤ qs.length) (hr : z ≤ rs.length) : crc (xo ps qs rs z z) = crc (ps.take z) ^^^ crc (qs.take z) ^^^ crc (rs.take z) :=
  crc_xor3 _ _ _ _ z (by rw [List.length_take]; omega) (by rw [List.length_take]; omega) (by rw [List.length_take]; omega) (xo_len _ _ _ _ _) fun i hi => by
    rw [xo_get ps qs rs z z (Nat.le_refl _) i hi, take_getD _ _ _ hi, take_getD _ _ _ hi, take_getD _ _ _ hi]
theorem cell_so {w : World} {p b i j : Nat} {u : Value} (h : b ≠ p) : (w.setCell ⟨p, i, none⟩ u).cell? ⟨b, j, none⟩ = w.cell? ⟨b, j, none⟩ := World.cell?_setCell_other _ _ _ _ (by intro e; simp only [Addr.mk.injEq] at e; omega)
/-- the cell of a slice's place -/
theorem Bs.at {w : World} {a : Option Addr} {L c : Nat} {bs : List Nat} (h : Bs w (.slice a L c) bs) (k : Nat) (hk : k < L) : ∃ b off, a = some ⟨b, off, none⟩ ∧ b < w.heap.size ∧ w.cell? ⟨b, off + k, none⟩ = some (.int .u8 ((bs.getD k 0 : Nat) : Int)) := by
  obtain ⟨hby, a', c', e, h1, h2, h3, h4⟩ := h
  cases e
  obtain ⟨b, off, e, hb, hx⟩ := h4 (by omega)
  exact ⟨b, off, e, hb, hx k hk⟩
theorem va_bs {w : World} {g n : Nat} {xs : List Nat} {T : TypeId} (h : VA w g (cl xs) T) (hl : xs.length = n) (hn : n ≤ 9223372036854775807) (hby : By xs) : Bs w (.slice (some ⟨g, 0, none⟩) n n) xs := by
  subst hl
  refine ⟨hby, some ⟨g, 0, none⟩, xs.length, rfl, Nat.le_refl _, by omega, fun h => (by cases h), fun _ => ⟨g, 0, rfl, h.lt, fun k hk => ?_⟩⟩
  rw [Nat.zero_add]
  exact h.cell k (cl_get xs k hk)
set_option maxHeartbeats 1000000 in
set_option maxRecDepth 100000 in
theorem sumLinear_walk (v u x : Value) (ps qs rs : List Nat) (w : World) (hp : Bs w v ps) (hq : Bs w u qs) (hr : Bs w x rs) (hl : ps.length ≤ 140737488355328) (T : Tb w) :
    Calls Tryd.prog 6 #[v, u, x] w fun e w' => e = .returned (.bool true) ∧ Below w.heap.size w w' := by
  obtain ⟨p, hp1, hp2⟩ : ∃ p, p = ps.length ∧ p ≤ 140737488355328 := ⟨_, rfl, hl⟩
  obtain ⟨q, hq1⟩ : ∃ q, q = qs.length := ⟨_, rfl⟩
  obtain ⟨r, hr1⟩ : ∃ r, r = rs.length := ⟨_, rfl⟩
  obtain ⟨a1, c1, rfl, hc1, hc11⟩ : ∃ a c, v = .slice a p c ∧ p ≤ c ∧ c ≤ 9223372036854775807 := by obtain ⟨_, a, c, e, h1, h2, _⟩ := hp; exact ⟨a, c, by rw [hp1]; exact e, by rw [hp1]; exact h1, h2⟩
  obtain ⟨a2, c2, rfl, hc2, hc21⟩ : ∃ a c, u = .slice a q c ∧ q ≤ c ∧ c ≤ 9223372036854775807 := by obtain ⟨_, a, c, e, h1, h2, _⟩ := hq; exact ⟨a, c, by rw [hq1]; exact e, by rw [hq1]; exact h1, h2⟩
  obtain ⟨a3, c3, rfl, hc3, hc31⟩ : ∃ a c, x = .slice a r c ∧ r ≤ c ∧ c ≤ 9223372036854775807 := by obtain ⟨_, a, c, e, h1, h2, _⟩ := hr; exact ⟨a, c, by rw [hr1]; exact e, by rw [hr1]; exact h1, h2⟩
  have HP := (show Hid _ from hp)
  have HQ := (show Hid _ from hq)
  have HR := (show Hid _ from hr)
  have HT := (show Hid _ from T)
  have hw1 := T.lt
  have E : Hid (p = ps.length ∧ q = qs.length ∧ r = rs.length) := ⟨hp1, hq1, hr1⟩
  clear hp hq hr T hp1 hq1 hr1 hl
  obtain ⟨z, hz1, hz2, hz3, hz4⟩ : ∃ z : Nat, z ≤ p ∧ z ≤ q ∧ z ≤ r ∧ (z = p ∨ z = q ∨ z = r) := by
    by_cases h1 : p ≤ q
    · by_cases h2 : p ≤ r
      · exact ⟨p, by omega, by omega, by omega, by omega⟩
      · exact ⟨r, by omega, by omega, by omega, by omega⟩
    · by_cases h2 : q ≤ r
      · exact ⟨q, by omega, by omega, by omega, by omega⟩
      · exact ⟨r, by omega, by omega, by omega, by omega⟩
  go_enter Tryd.func6, Tryd.ntmps6
  go_wp2_with fail
  refine (awake_ok _ HT.out).mono ?_
  rintro e w1 ⟨rfl, hb1⟩
  have B1 := (show Hid _ from hb1)
  clear hb1
  have P1 := (show Hid _ from HP.out.step B1.out)
  have Q1 := (show Hid _ from HQ.out.step B1.out)
  have R1 := (show Hid _ from HR.out.step B1.out)
  have hmin : ∀ w', (Builtin.min_ #[3, 3, 3] 3 #[.int .i64 (p : Int), .int .i64 (q : Int), .int .i64 (r : Int)]).run Tryd.prog w' = .ok (.int .i64 (z : Int)) w' := fun w' => by
    rw [run_min_int3]
    congr 2
    split <;> split <;> omega
  clear HP HQ HR HT hz4
  go_wp2_with (at_make; refine mkB rfl _ _ rfl z z _ _ (by rfl) (by rfl) rfl rfl (by omega) (by omega) ?_; intro w2 hrow hb2 hs2)
  have V2 : Hid (VA w2 w1.heap.size (cl (xo ps qs rs z 0)) 5) := ⟨hrow.out⟩
  have B2 := (show Hid _ from hb2)
  clear hrow hb2 hs2 hmin
  go_loopw [23] (fun i wr => ∃ k : Nat, k ≤ z ∧ i = .int .i64 k ∧ Below w1.heap.size w1 wr ∧ Hid (VA wr w1.heap.size (cl (xo ps qs rs z k)) 5)) (fun i _ => z - (intOf i).toNat)
  case atStart => exact ⟨0, by omega, rfl, B2.out, V2⟩
  case round =>
    clear V2 B2
    obtain ⟨k, hk, rfl, hbel, V⟩ := hrel
    have HB := (show Hid _ from hbel)
    clear hbel
    by_cases hkz : k = z
    · subst hkz
      have e4 := xo_crc ps qs rs k (by have := E.out; omega) (by have := E.out; omega) (by have := E.out; omega)
      have X0 : Hid (Bs wr (.slice (some ⟨w1.heap.size, 0, none⟩) k k) (xo ps qs rs k k)) := va_bs V.out (xo_len _ _ _ _ _) (by omega) (xo_by P1.out.byte Q1.out.byte R1.out.byte _ _)
      have X1 := (show Hid _ from (P1.out.step HB.out).cut k (by have := E.out; omega))
      have X2 := (show Hid _ from (Q1.out.step HB.out).cut k (by have := E.out; omega))
      have X3 := (show Hid _ from (R1.out.step HB.out).cut k (by have := E.out; omega))
      have g1 := crc_lt (ps.take k) (P1.out.byte.take k)
      have g2 := crc_lt (qs.take k) (Q1.out.byte.take k)
      have g3 := crc_lt (rs.take k) (R1.out.byte.take k)
      have B9 := (show Hid _ from B1.out.trans (HB.out.mono B1.out.size))
      have z1 := u32_xor_nat _ _ g1 g2
      have z2 := u32_xor_nat _ _ (x32 g1 g2) g3
      rw [← e4] at z2
      clear e4 V P1 Q1 R1 HB hk B1
      have d1 : (0 : Int) ≤ (k : Int) := by omega
      have d3 : (k : Int) ≤ (c1 : Int) := by omega
      have d4 : (k : Int) ≤ (c2 : Int) := by omega
      have d5 : (k : Int) ≤ (c3 : Int) := by omega
      have d6 : k ≤ c1 := by omega
      have d7 : k ≤ c2 := by omega
      have d8 : k ≤ c3 := by omega
      go_wp2_with fail
      go_region_held3 (fun _ => True) (trivial)
        (first
          | (go_at_call 9; with_reducible (show Calls _ _ #[Value.slice (some ⟨w1.heap.size, 0, none⟩) k k] _ _); refine (crc_ok _ (xo ps qs rs k k) _ X0.out.drew).mono ?_; rintro e w4 ⟨rfl, rfl⟩)
          | (go_at_call 9; with_reducible (show Calls _ _ #[Value.slice a1 k c1] _ _); refine (crc_ok _ (ps.take k) _ X1.out.drew).mono ?_; rintro e w4 ⟨rfl, rfl⟩)
          | (go_at_call 9; with_reducible (show Calls _ _ #[Value.slice a2 k c2] _ _); refine (crc_ok _ (qs.take k) _ X2.out.drew).mono ?_; rintro e w4 ⟨rfl, rfl⟩)
          | (go_at_call 9; with_reducible (show Calls _ _ #[Value.slice a3 k c3] _ _); refine (crc_ok _ (rs.take k) _ X3.out.drew).mono ?_; rintro e w4 ⟨rfl, rfl⟩))
      go_wp2_with fail
      go_ret
      trace_state
      exact ⟨rfl, B9.out.drew⟩
    have hk' : k < z := by omega
    obtain ⟨b1, o1, rfl, l1, y1⟩ := (P1.out.step HB.out).at k (by omega)
    obtain ⟨b2, o2, rfl, l2, y2⟩ := (Q1.out.step HB.out).at k (by omega)
    obtain ⟨b3, o3, rfl, l3, y3⟩ := (R1.out.step HB.out).at k (by omega)
    have s1 := by_getD P1.out.byte k
    have s2 := by_getD Q1.out.byte k
    have s3 := by_getD R1.out.byte k
    have HE : Hid (xo ps qs rs z (k + 1) = (xo ps qs rs z k).set k (ps.getD k 0 ^^^ qs.getD k 0 ^^^ rs.getD k 0)) := rfl
    have ne1 : Hid (b1 ≠ w1.heap.size ∧ b2 ≠ w1.heap.size ∧ b3 ≠ w1.heap.size) := by
      obtain ⟨_, _, e1, l1', _⟩ := P1.out.at k (by omega)
      obtain ⟨_, _, e2, l2', _⟩ := Q1.out.at k (by omega)
      obtain ⟨_, _, e3, l3', _⟩ := R1.out.at k (by omega)
      cases e1; cases e2; cases e3
      exact ⟨by omega, by omega, by omega⟩
    generalize ps.getD k 0 = x1 at *
    generalize qs.getD k 0 = x2 at *
    generalize rs.getD k 0 = x3 at *
    have z1 := u8_xor_nat x1 x2 s1 s2
    have z2 := u8_xor_nat (x1 ^^^ x2) x3 (x8 s1 s2) s3
    have d0 := x8 (x8 s1 s2) s3
    have cv := V.out.cell k (cl_get _ k (by rw [xo_len]; exact hk'))
    have fv := V.out.free k
    have d1 : (0 : Int) ≤ (k : Int) := by omega
    have d2 : (k : Int) < (z : Int) := by omega
    have d3 : (k : Int) < (p : Int) := by omega
    have d4 : (k : Int) < (q : Int) := by omega
    have d5 : (k : Int) < (r : Int) := by omega
    go_wp2_with fail
    go_region_held3 (fun w' => w'.cell? ⟨b1, o1 + k, none⟩ = some (.int .u8 (x1 : Int)) ∧ w'.cell? ⟨b2, o2 + k, none⟩ = some (.int .u8 (x2 : Int)) ∧ w'.cell? ⟨b3, o3 + k, none⟩ = some (.int .u8 (x3 : Int)))
      (first | exact ⟨y1, y2, y3⟩ | exact ⟨(cell_so ne1.out.1).trans y1, (cell_so ne1.out.2.1).trans y2, (cell_so ne1.out.2.2).trans y3⟩)
      (fail)
    go_wp2_with fail
    refine ⟨⟨k + 1, by omega, by go_num, (HB.out.setCell (p := ⟨w1.heap.size, k, none⟩) (Nat.le_refl _) _).drew, ?_⟩, by simp [intOf]; omega⟩
    rw [HE.out, cl_set]
    exact (V.out.set k _).drew
end Go.Proofs.YtlhlmclogfmhmaaDoor
