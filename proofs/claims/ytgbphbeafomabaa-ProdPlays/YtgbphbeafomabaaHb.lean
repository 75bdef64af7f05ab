/- prod: lists of versions; the walk of ProdApart. -/
import Derived.Test.YtgbphbeafomabaaGz
namespace Go.Proofs.Ytgbphbeafomabaa
open Go.RowKit Go.Shelf
set_option linter.unusedVariables false

/-- a version as it comes in: its numbers are numbers, its tiers are there -/
structure Pin (w : World) (x : PV) (tv : Value) : Prop where
  wf : x.wf
  tr : Tr w tv x.ts
  nilcap : ∀ n c, tv = .slice none n c → c = 0
  few : x.ts.length + 2 ≤ 8796093022208
theorem Pin.step {w w' : World} {x : PV} {tv : Value} (h : Pin w x tv) (k : Below w.heap.size w w') : Pin w' x tv := ⟨h.wf, h.tr.step k, h.nilcap, h.few⟩
theorem Pin.form {w : World} {x : PV} {tv : Value} (h : Pin w x tv) : ∃ a n c, tv = .slice a n c := by obtain ⟨_, a, c, e, _⟩ := h.tr; exact ⟨a, _, c, e⟩
/-- a list of versions -/
structure Pvs (w : World) (v : Value) (xs : List PV) : Prop where
  form : ∃ a c, v = .slice a xs.length c ∧ xs.length ≤ c ∧ c ≤ 9223372036854775807 ∧ (0 < xs.length → ∃ b off, a = some ⟨b, off, none⟩ ∧ b < w.heap.size ∧ ∀ k (hk : k < xs.length), ∃ tv, (∀ j u, (xs[k].cells tv)[j]? = some u → w.cell? ⟨b, off + k * 9 + j, none⟩ = some u) ∧ Pin w xs[k] tv)
theorem Pvs.step {w w' : World} {v : Value} {xs : List PV} (h : Pvs w v xs) (k : Below w.heap.size w w') : Pvs w' v xs := by
  obtain ⟨a, c, e, h1, h2, h3⟩ := h
  refine ⟨a, c, e, h1, h2, fun h0 => ?_⟩
  obtain ⟨b, off, ea, hb, hx⟩ := h3 h0
  refine ⟨b, off, ea, Nat.lt_of_lt_of_le hb k.size, fun i hi => ?_⟩
  obtain ⟨tv, hc, hp⟩ := hx i hi
  exact ⟨tv, fun j u hj => (k.cell (p := ⟨b, off + i * 9 + j, none⟩) hb).trans (hc j u hj), hp.step k⟩
theorem Pvs.at {w : World} {a : Option Addr} {n c : Nat} {xs : List PV} (h : Pvs w (.slice a n c) xs) (k : Nat) (hk : k < n) : ∃ b off x tv, a = some ⟨b, off, none⟩ ∧ xs[k]? = some x ∧ (∀ j u, (x.cells tv)[j]? = some u → w.cell? ⟨b, off + k * 9 + j, none⟩ = some u) ∧ Pin w x tv := by
  obtain ⟨a', c', e, h1, h2, h3⟩ := h
  cases e
  obtain ⟨b, off, ea, hb, hx⟩ := h3 (by omega)
  obtain ⟨tv, hc, hp⟩ := hx k hk
  exact ⟨b, off, xs[k], tv, ea, by simp [hk], hc, hp⟩
theorem hold_first {x : PV} {vs : List PV} {id D : Int} (h : ∀ y ∈ vs, y.id ≠ id) : hold (x :: vs) id D = if fits id D (x.id, x.day) then some x else none := by
  unfold hold
  rw [List.reverse_cons, List.find?_append]
  have hn : vs.reverse.find? (fun x => decide (fits id D (x.id, x.day))) = none := by
    rw [List.find?_eq_none]
    intro y hy e
    have e' : fits id D (y.id, y.day) := by simpa using e
    exact h y (List.mem_reverse.1 hy) e'.1
  rw [hn]
  by_cases hf : fits id D (x.id, x.day)
  · rw [if_pos hf]; simp [hf]
  · rw [if_neg hf]; simp [hf]
/-- Add, whatever comes of it -/
theorem add_any {p B : Nat} {S : Nat → Prop} {vs : List PV} (x : PV) (tv : Value) (w : World) (hC : Cat w p B S vs) (hx : x.wf) (h : Tr w tv x.ts) (hno : ∀ n c, tv = .slice none n c → c = 0) :
    Calls Try.prog 17 #[.pointer (some ⟨p, 0, none⟩), .agg (x.cells tv).toArray] w fun e w' => e = .returned (.int .i64 (addE vs x)) ∧ ((addE vs x = 0 ∧ Cat w' p B (fun k => S k ∨ w.heap.size ≤ k) (vs ++ [x])) ∨ (addE vs x ≠ 0 ∧ Cat w' p B S vs)) ∧ Below B w w' ∧ Keeps36 w w' := by
  by_cases h0 : addE vs x = 0
  · have h1 : chk x = 0 := by
      by_cases e : chk x = 0
      · exact e
      · unfold addE at h0
        rw [if_pos e] at h0
        exact h0
    have h2 : fol vs x = 0 := by
      by_cases e : fol vs x = 0
      · exact e
      · unfold addE at h0
        rw [if_neg (fun h => h h1), if_pos e] at h0
        exact h0
    have h3 : vs.length < 64 := by
      unfold addE at h0
      rw [if_neg (fun h => h h1), if_neg (fun h => h h2)] at h0
      by_cases e : 64 ≤ vs.length
      · rw [if_pos e] at h0; cases h0
      · omega
    refine (add_yes x tv w hC hx h hno h1 h2 h3).mono ?_
    rintro e w' ⟨rfl, a, b, c⟩
    exact ⟨by rw [h0], Or.inl ⟨h0, a⟩, b, c⟩
  · refine (add_no x tv w hC hx h h0).mono ?_
    rintro e w' ⟨rfl, b⟩
    exact ⟨rfl, Or.inr ⟨h0, hC.step b⟩, b.mono (by have := hC.le; have := hC.lt; omega), keeps36_below b⟩
/-- all of a struct that lies in a row is loaded -/
theorem ldM {w : World} {ops : Array Oper} {rest : List Oper} {o : Oper} {a : Act} {Q : Exit → Act → World → Prop} (hgd : o.guard = none) (t : TypeId) (x : Operand) (ho : o.op = .load t x)
    (p off : Nat) (hx : a.eval x = .pointer (some ⟨p, off, none⟩)) (cs : List Value) (h : ∀ j u, cs[j]? = some u → w.cell? ⟨p, off + j, none⟩ = some u) (d : TypeDesc) (hu : Try.prog.underlying t = some d) (hd : d.isRow = true) (hi : (Try.prog.info? t).map (·.size) = some cs.length)
    (k : wpList Try.prog ops Q rest (a.put o.dst (.agg cs.toArray)) w) : wpList Try.prog ops Q (o :: rest) a w :=
  wpList_load_mid hgd t x ho p off hx cs d h hu hd hi k
def keptV : PV := plainV 1000000000 5
set_option maxRecDepth 100000 in
set_option maxHeartbeats 4000000 in
theorem apart_walk (v : Value) (xs : List PV) (day : Nat) (w : World) (h : Pvs w v xs) (ha : day < 65536) :
    Calls Try.prog 7 #[v, .int .u16 (day : Int)] w fun e w' => e = .returned (.bool true) ∧ Below w.heap.size w w' := by
  obtain ⟨n, hn⟩ : ∃ n, n = xs.length := ⟨_, rfl⟩
  obtain ⟨sa, sc, rfl, g1, g2⟩ : ∃ a c, v = .slice a n c ∧ n ≤ c ∧ c ≤ 9223372036854775807 := by obtain ⟨a, c, e, h1, h2, _⟩ := h; exact ⟨a, c, by rw [hn]; exact e, by rw [hn]; exact h1, h2⟩
  have HU := (show Hid _ from h)
  clear h hn
  have HKW : Hid (keptV.wf) := plain_wf (by unfold I64; omega) (by unfold I64; omega)
  have HKC : Hid (chk keptV = 0) := plain_chk (by omega) (by omega)
  have HKF : Hid (fol [] keptV = 0) := by show fol [] keptV = 0; decide
  go_enter Try.func7, Try.ntmps7
  go_wp2_with fail
  refine (awake_ok _).mono ?_
  rintro e w1 ⟨rfl, b1⟩
  have D1 := (show Hid _ from b1)
  clear b1
  go_wp2_with fail
  refine (new_ok _).mono ?_
  rintro e w2 ⟨⟨p, rfl, C2⟩, b2⟩
  have HC2 := (show Hid _ from C2)
  have D2 := (show Hid _ from D1.out.trans (b2.mono D1.out.size))
  have HD1 : Hid (w.heap.size ≤ w1.heap.size) := D1.out.size
  clear b2 C2
  go_wp2_with fail
  refine (plain_ok 1000000000 5 _).mono ?_
  rintro e w3 ⟨⟨b3, rfl, t3, _⟩, n3⟩
  have C3 := (show Hid _ from HC2.out.step n3)
  have D3 := (show Hid _ from D2.out.trans (n3.mono D2.out.size))
  have T3 := (show Hid _ from t3)
  clear n3 t3 HC2 D2
  go_wp2_with fail
  refine (add_yes keptV _ _ C3.out HKW.out T3.out no_nil HKC.out HKF.out (by simp)).mono ?_
  rintro e w4 ⟨rfl, C4, b4, _⟩
  have HC4 : Hid (∃ S vs, Cat w4 p w1.heap.size S (keptV :: vs) ∧ vs.length ≤ 0 ∧ ∀ y ∈ vs, y.id ≠ 1000000000) := ⟨_, [], C4, Nat.le_refl _, fun y hy => (by cases hy)⟩
  have D4 := (show Hid _ from D3.out.trans (b4.mono HD1.out))
  clear C4 b4 C3 D3 T3
  go_wp2_with fail
  go_loopw [21] (fun i wr => ∃ k : Nat, k ≤ n ∧ i = .int .i64 k ∧ Hid (∃ S vs, Cat wr p w1.heap.size S (keptV :: vs) ∧ vs.length ≤ min k 60 ∧ ∀ y ∈ vs, y.id ≠ 1000000000) ∧ Hid (Below w.heap.size w wr)) (fun i _ => n - (intOf i).toNat)
  case atStart => exact ⟨0, by omega, rfl, HC4.out, D4.out⟩
  case round =>
    obtain ⟨k, hk, rfl, HC, HB⟩ := hrel
    by_cases hkn : k = n
    · subst hkn
      obtain ⟨S, vs, hC, h1, h2⟩ := HC.out
      have hw1 : Hid (wi (5 + (day : Int)) 1 3652059 = true) := by
        show wi (5 + (day : Int)) 1 3652059 = true
        simp [wi]
        omega
      have H1 : Hid (hold (keptV :: vs) 1000000000 (5 + (day : Int)) = some keptV) := by
        show hold (keptV :: vs) 1000000000 (5 + (day : Int)) = some keptV
        rw [hold_first h2, if_pos ⟨rfl, by show (5 : Int) ≤ 5 + (day : Int); omega⟩]
      have H2 : Hid (hold (keptV :: vs) 1000000000 4 = none) := by
        show hold (keptV :: vs) 1000000000 4 = none
        rw [hold_first h2, if_neg (fun e => absurd e.2 (by show ¬ (5 : Int) ≤ 4; omega))]
      have C0 := (show Hid _ from hC)
      clear hC
      go_wp2_with fail
      refine (at_ok 1000000000 (5 + (day : Int)) _ C0.out).mono ?_
      rintro e w5 ⟨ha5, b5⟩
      have C5 := (show Hid _ from C0.out.step b5)
      have D5 := (show Hid _ from HB.out.trans (b5.mono HB.out.size))
      obtain ⟨v5, rfl, o5⟩ : ∃ v, e = .returned (.tuple #[.agg (keptV.cells v).toArray, .int .i64 0]) ∧ OwnT w5 wr.heap.size v keptV.ts := by
        rcases ha5 with ⟨h, _⟩ | ⟨_, h, _⟩ | ⟨_, x, v, _, h, e, o⟩
        · rw [hw1.out] at h; cases h
        · rw [H1.out] at h; cases h
        · rw [H1.out] at h
          cases h
          exact ⟨v, e, o⟩
      obtain ⟨g5, c5, rfl, hc1, hc2, z1, z2⟩ : ∃ g c, v5 = .slice (some ⟨g, 0, none⟩) 1 c ∧ 1 ≤ c ∧ c ≤ 9223372036854775807 ∧ w5.cell? ⟨g, 0, none⟩ = some (.int .i64 0) ∧ w5.cell? ⟨g, 1, none⟩ = some (.int .i64 5) := by
        obtain ⟨g, cap, e, q1, q2, _⟩ := OwnT.head1 (ts := []) (m := (0, 5)) o5
        subst e
        obtain ⟨b, off, e, q3, q4⟩ := o5.tr.cells 0 (by simp)
        cases e
        exact ⟨g, cap, rfl, by simpa using q1, q2, q3, q4⟩
      have Z1 := (show Hid _ from And.intro z1 z2)
      clear ha5 b5 o5 C0 z1 z2
      go_upto_region 13 with (refine stA rfl 25 _ _ rfl w5.heap.size (by rfl) _ (keptV.cells (.slice (some ⟨g5, 0, none⟩) 1 c5)) (by rfl) 25 (va_new w5 [.int .i64 0, .int .i64 0, .int .i64 0, .int .i64 0, .int .i64 0, .int .i64 0, .int .i64 0, .int .i64 0, .slice none 0 0] 25) infoP rfl (pv_one _ ⟨_, _, _, rfl⟩) ?_; intro w6 V6 U6)
      have B6 : Below w5.heap.size w5 w6 := U6.bel ((Below.refl _ _).alloc (Nat.le_refl _) _) (Nat.le_refl _)
      have C6 := (show Hid _ from C5.out.step B6)
      have D6 := (show Hid _ from D5.out.trans (B6.mono D5.out.size))
      have HV6 := (show Hid _ from V6)
      have Z6 := (show Hid _ from And.intro ((B6.cell (p := ⟨g5, 0, none⟩) (World.block_lt_of_cell? _ _ Z1.out.1)).trans Z1.out.1) ((B6.cell (p := ⟨g5, 1, none⟩) (World.block_lt_of_cell? _ _ Z1.out.2)).trans Z1.out.2))
      clear V6 U6 B6 C5 D5 Z1
      generalize w5.heap.size = pq at *
      go_wp2_with fail
      refine (at_ok 1000000000 4 _ C6.out).mono ?_
      rintro e w7 ⟨ha7, b7⟩
      have he : e = .returned (.tuple #[.agg (zeroV.cells (.slice none 0 0)).toArray, .int .i64 7]) := by
        rcases ha7 with ⟨h, _⟩ | ⟨_, _, e⟩ | ⟨_, x, v, _, h, _⟩
        · exact absurd h (by decide)
        · exact e
        · rw [H2.out] at h; cases h
      subst he
      have D7 := (show Hid _ from D6.out.trans (b7.mono D6.out.size))
      have B7 := (show Hid _ from b7)
      have V7 := (show Hid _ from (HV6.out.step b7).alloc (.cells #[.int .i64 0, .int .i64 0, .int .i64 0, .int .i64 0, .int .i64 0, .int .i64 0, .int .i64 0, .int .i64 0, .slice none 0 0] 25))
      have l7 := (HV6.out.step b7).lt
      clear ha7 b7
      go_upto_region 14 with (refine stA rfl 25 _ _ rfl w7.heap.size (by rfl) _ [.int .i64 0, .int .i64 0, .int .i64 0, .int .i64 0, .int .i64 0, .int .i64 0, .int .i64 0, .int .i64 0, .slice none 0 0] (by rfl) 25 (va_new w7 [.int .i64 0, .int .i64 0, .int .i64 0, .int .i64 0, .int .i64 0, .int .i64 0, .int .i64 0, .int .i64 0, .slice none 0 0] 25) infoP rfl zz_one ?_; intro w8 V8 U8)
      have B8 : Below w7.heap.size w7 w8 := U8.bel ((Below.refl _ _).alloc (Nat.le_refl _) _) (Nat.le_refl _)
      have X8 := V7.out.upd U8 (by omega)
      have y3 := X8.cell 3 (v := .int .i64 5) rfl
      have y8 := X8.cell 8 (v := .slice (some ⟨g5, 0, none⟩) 1 c5) rfl
      have z7 := (B7.out.cell (p := ⟨g5, 1, none⟩) (World.block_lt_of_cell? _ _ Z6.out.2)).trans Z6.out.2
      have z8 := (B8.cell (p := ⟨g5, 1, none⟩) (World.block_lt_of_cell? _ _ z7)).trans z7
      have D8 := (show Hid _ from D7.out.trans (B8.mono D7.out.size))
      clear X8 V8 U8 B8 z7
      go_wp2_with fail
      go_ret
      exact ⟨rfl, D8.out⟩
    · have hk' : k < n := by omega
      have d1 : (0 : Int) ≤ (k : Int) := by omega
      have d2 : (k : Int) < (n : Int) := by omega
      obtain ⟨b, off, x, tv, rfl, hx, hcell, hpin⟩ := (HU.out.step HB.out).at k hk'
      have HCL := (show Hid _ from hcell)
      have HPN := (show Hid _ from hpin)
      have hform := hpin.form
      obtain ⟨ta, tn, tc, rfl⟩ := hform
      clear hx hcell hpin
      go_upto_region 9 with (first
        | (refine ldM rfl 24 _ rfl b (off + k * 9) (by rfl) (x.cells (.slice ta tn tc)) HCL.out _ Try.underlying24 rfl infoR ?_)
        | (refine stA rfl 24 _ _ rfl wr.heap.size (by rfl) _ (x.cells (.slice ta tn tc)) (by rfl) 24 (va_new wr [.int .i64 0, .int .i64 0, .int .i64 0, .int .i64 0, .int .i64 0, .int .i64 0, .int .i64 0, .int .i64 0, .slice none 0 0] 24) infoR rfl (pv_one _ ⟨_, _, _, rfl⟩) ?_; intro w5 V5 U5))
      have B5 : Below wr.heap.size wr w5 := U5.bel ((Below.refl _ _).alloc (Nat.le_refl _) _) (Nat.le_refl _)
      have y0 := V5.cell 0 (v := .int .i64 x.id) rfl
      have HV5 := (show Hid _ from V5)
      have P5 := (show Hid _ from HPN.out.step B5)
      have D5 := (show Hid _ from HB.out.trans (B5.mono HB.out.size))
      have HC5 : Hid (∃ S vs, Cat w5 p w1.heap.size S (keptV :: vs) ∧ vs.length ≤ min k 60 ∧ ∀ y ∈ vs, y.id ≠ 1000000000) := by
        obtain ⟨S, vs, hC, h1, h2⟩ := HC.out
        exact ⟨S, vs, hC.step B5, h1, h2⟩
      clear V5 U5 B5 HPN HCL HC HB
      generalize wr.heap.size = pb at *
      by_cases h60 : (k : Int) < 60
      · by_cases hid : x.id = 1000000000
        · have e1 : (x.id != 1000000000) = false := by simpa using hid
          have HID := (show Hid _ from hid)
          clear hid
          go_wp2_with fail
          refine ⟨⟨k + 1, by omega, by go_num, ?_, D5.out⟩, by simp [intOf]; omega⟩
          obtain ⟨S, vs, hC, h1, h2⟩ := HC5.out
          exact ⟨S, vs, hC, by omega, h2⟩
        · have e1 : (x.id != 1000000000) = true := by simpa using hid
          go_wp2_with (refine ldA rfl 24 _ rfl pb (by rfl) _ _ HV5.out _ Try.underlying24 rfl infoR ?_)
          refine (of_ok x _ _ P5.out.tr P5.out.nilcap P5.out.few).mono ?_
          rintro e w6 ⟨⟨v6, rfl, o6⟩, b6⟩
          obtain ⟨S, vs, hC, h1, h2⟩ := HC5.out
          have C6 := (show Hid _ from hC.step b6)
          have D6 := (show Hid _ from D5.out.trans (b6.mono D5.out.size))
          have O6 := (show Hid _ from o6)
          clear b6 hC o6
          go_wp2_with fail
          refine (add_any x v6 _ C6.out P5.out.wf O6.out.tr O6.out.nilcap).mono ?_
          rintro e w7 ⟨rfl, hc7, b7, _⟩
          have D7 := (show Hid _ from D6.out.trans (b7.mono HD1.out))
          have HC7 : Hid (∃ S vs, Cat w7 p w1.heap.size S (keptV :: vs) ∧ vs.length ≤ min (k + 1) 60 ∧ ∀ y ∈ vs, y.id ≠ 1000000000) := by
            rcases hc7 with ⟨_, c⟩ | ⟨_, c⟩
            · refine ⟨_, vs ++ [x], c, by simp; omega, fun y hy => ?_⟩
              rcases List.mem_append.1 hy with hy | hy
              · exact h2 y hy
              · simp only [List.mem_cons, List.not_mem_nil, or_false] at hy
                subst hy
                exact hid
            · exact ⟨S, vs, c, by omega, h2⟩
          clear hc7 b7 C6 D6 O6
          generalize addE (keptV :: vs) x = er at *
          go_wp2_with fail
          exact ⟨⟨k + 1, by omega, by go_num, HC7.out, D7.out⟩, by simp [intOf]; omega⟩
      · have h60' : (60 : Int) ≤ (k : Int) := by omega
        go_wp2_with fail
        refine ⟨⟨k + 1, by omega, by go_num, ?_, D5.out⟩, by simp [intOf]; omega⟩
        obtain ⟨S, vs, hC, h1, h2⟩ := HC5.out
        exact ⟨S, vs, hC, by omega, h2⟩
end Go.Proofs.Ytgbphbeafomabaa
