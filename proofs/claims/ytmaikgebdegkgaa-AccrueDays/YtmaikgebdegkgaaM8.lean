/- accrue: parts of a balance in tiers; the contracts of upTo, isMode, split, Parts. -/
import Derived.Test.YtmaikgebdegkgaaM2
import Derived.Test.YtmaikgebdegkgaaVc
import Derived.Test.YtmaikgebdegkgaaGy
import Derived.Test.YtmaikgebdegkgaaM1
namespace Go.Proofs.Ytmaikgebdegkgaa
open Go.RowKit
set_option linter.unusedVariables false

/-- where tier number i ends -/
def pend (b : Int) (ts : List (Int × Int)) (i : Nat) : Int := if i + 1 < ts.length then min b (tf ts (i + 1)) else b
def prt (b : Int) (ts : List (Int × Int)) (i : Nat) : Int := max 0 (pend b ts i - tf ts i)
def prts (b : Int) (ts : List (Int × Int)) (k : Nat) : List Int := (List.range k).map (prt b ts)
theorem prts_len (b : Int) (ts : List (Int × Int)) (k : Nat) : (prts b ts k).length = k := by simp [prts]
theorem prts_get (b : Int) (ts : List (Int × Int)) (m k : Nat) (h : k < m) : (prts b ts m).getD k 0 = prt b ts k := by simp [prts, h]
theorem prts_succ (b : Int) (ts : List (Int × Int)) (k : Nat) : prts b ts (k + 1) = prts b ts k ++ [prt b ts k] := by simp [prts, List.range_succ]
theorem prts_set (b : Int) (ts : List (Int × Int)) (m k : Nat) (h : k < m) : (prts b ts k ++ List.replicate (m - k) 0).set k (prt b ts k) = prts b ts (k + 1) ++ List.replicate (m - (k + 1)) 0 := by
  rw [List.set_append_right _ _ (by rw [prts_len]; omega), prts_len, Nat.sub_self, prts_succ, List.append_assoc]
  rw [show m - k = (m - (k + 1)) + 1 by omega, List.replicate_succ, List.set_cons_zero]
  rfl
/-- right tiers -/
theorem terr_zero {ts : List (Int × Int)} (h : terr ts = 0) : ts.length ≤ 8 ∧ 1 ≤ ts.length ∧ ∀ i, i < ts.length → gdb ts i = true := by
  unfold terr at h
  split at h
  · omega
  · split at h
    · omega
    · split at h
      · next h1 h2 h3 => exact ⟨by omega, by omega, fun i hi => List.all_eq_true.1 h3 i (List.mem_range.2 hi)⟩
      · omega
theorem gdb_out {ts : List (Int × Int)} {i : Nat} (h : gdb ts i = true) : (i = 0 → tf ts i = 0) ∧ (0 < i → tf ts (i - 1) < tf ts i) ∧ tf ts i ≤ 10000000000000 ∧ 0 ≤ tr ts i ∧ tr ts i ≤ 1000000000 := by
  unfold gdb at h
  exact of_decide_eq_true h
theorem tf_bd {ts : List (Int × Int)} (h : terr ts = 0) : ∀ i, i < ts.length → 0 ≤ tf ts i ∧ tf ts i ≤ 10000000000000 ∧ 0 ≤ tr ts i ∧ tr ts i ≤ 1000000000
  | 0, hi => by
    have g := gdb_out ((terr_zero h).2.2 0 hi)
    have := g.1 rfl
    exact ⟨by omega, g.2.2⟩
  | i + 1, hi => by
    have g := gdb_out ((terr_zero h).2.2 (i + 1) hi)
    have k := tf_bd h i (by omega)
    have := g.2.1 (by omega)
    rw [Nat.add_sub_cancel] at this
    exact ⟨by omega, g.2.2⟩
theorem prt_bd {b : Int} {ts : List (Int × Int)} (hb : 0 ≤ b ∧ b ≤ 10000000000000) (h : terr ts = 0) (i : Nat) (hi : i < ts.length) : 0 ≤ prt b ts i ∧ prt b ts i ≤ b := by
  have := tf_bd h i hi
  unfold prt pend
  split <;> omega
theorem upTo_ok (n g : Int) (w : World) : Calls Try.prog 28 #[.int .i64 n, .int .i64 g] w fun e w' => e = .returned (.bool (decide (0 ≤ n ∧ n ≤ g))) ∧ w' = w := by
  by_cases h0 : 0 ≤ n
  · by_cases h1 : n ≤ g
    · rw [show decide (0 ≤ n ∧ n ≤ g) = true from decide_eq_true ⟨h0, h1⟩]
      go_enter Try.func28, Try.ntmps28
      go_wp2_with fail
      go_ret
      exact ⟨rfl, rfl⟩
    · rw [show decide (0 ≤ n ∧ n ≤ g) = false from decide_eq_false (fun h => h1 h.2)]
      go_enter Try.func28, Try.ntmps28
      go_wp2_with fail
      go_ret
      exact ⟨rfl, rfl⟩
  · rw [show decide (0 ≤ n ∧ n ≤ g) = false from decide_eq_false (fun h => h0 h.1)]
    go_enter Try.func28, Try.ntmps28
    go_wp2_with fail
    go_ret
    exact ⟨rfl, rfl⟩
theorem isMode_ok (n : Int) (w : World) : Calls Try.prog 20 #[.int .i64 n] w fun e w' => e = .returned (.bool (decide (0 ≤ n ∧ n ≤ 6))) ∧ w' = w := by
  by_cases h0 : 0 ≤ n
  · by_cases h1 : n ≤ 6
    · rw [show decide (0 ≤ n ∧ n ≤ 6) = true from decide_eq_true ⟨h0, h1⟩]
      go_enter Try.func20, Try.ntmps20
      go_wp2_with fail
      go_ret
      exact ⟨rfl, rfl⟩
    · rw [show decide (0 ≤ n ∧ n ≤ 6) = false from decide_eq_false (fun h => h1 h.2)]
      go_enter Try.func20, Try.ntmps20
      go_wp2_with fail
      go_ret
      exact ⟨rfl, rfl⟩
  · rw [show decide (0 ≤ n ∧ n ≤ 6) = false from decide_eq_false (fun h => h0 h.1)]
    go_enter Try.func20, Try.ntmps20
    go_wp2_with fail
    go_ret
    exact ⟨rfl, rfl⟩
set_option maxHeartbeats 1000000 in
set_option maxRecDepth 100000 in
theorem split_ok (b : Int) (tv : Value) (ts : List (Int × Int)) (w : World) (h : Tr w tv ts) (hb : 0 ≤ b ∧ b ≤ 10000000000000) (ht : terr ts = 0) :
    Calls Try.prog 30 #[.int .i64 b, tv] w fun e w' => (∃ v, e = .returned v ∧ OwnI w' w.heap.size v (prts b ts ts.length)) ∧ Below w.heap.size w w' := by
  obtain ⟨n, hn⟩ : ∃ n, n = ts.length := ⟨_, rfl⟩
  have H := (show Hid _ from h)
  obtain ⟨ta, tc, rfl, g1, g2⟩ : ∃ a c, tv = .slice a n c ∧ n ≤ c ∧ c ≤ 9223372036854775807 := by obtain ⟨_, a, c, e, h1, h2, _⟩ := h; exact ⟨a, c, by rw [hn]; exact e, by rw [hn]; exact h1, h2⟩
  have hz := terr_zero ht
  have h8 : n ≤ 8 := by omega
  have h1 : 1 ≤ n := by omega
  rw [← hn]
  have HN := (show Hid _ from hn)
  have HT := (show Hid _ from ht)
  have HBB := (show Hid _ from hb)
  obtain ⟨b1, b2⟩ := hb
  clear h hn hz ht
  go_enter Try.func30, Try.ntmps30
  go_wp2_with (at_make; refine mkI rfl _ _ rfl n _ _ (by rfl) (by rfl) rfl rfl (by omega) ?_; intro w1 hown hbel; have HO := (show Hid _ from hown); have HB := (show Hid _ from hbel); clear hown hbel)
  go_loopw [14] (fun i wr => ∃ k : Nat, k ≤ n ∧ i = .int .i64 k ∧ Hid (OwnI wr w.heap.size (.slice (some ⟨w.heap.size, 0, none⟩) n n) (prts b ts k ++ List.replicate (n - k) 0)) ∧ Hid (Below w.heap.size w wr)) (fun i _ => n - (intOf i).toNat)
  case atStart => exact ⟨0, by omega, rfl, by simpa [prts] using HO, HB⟩
  case round =>
    obtain ⟨k, hk, rfl, ho, hb⟩ := hrel
    by_cases hkn : k = n
    · subst hkn
      go_wp2_with fail
      go_ret
      have := ho.out
      rw [Nat.sub_self, List.replicate_zero, List.append_nil] at this
      exact ⟨⟨_, rfl, this⟩, hb.out⟩
    have hk' : k < n := by omega
    have hlt : decide ((k : Int) < n) = true := decide_eq_true (by omega)
    obtain ⟨q, off, rfl, z1, z2⟩ := (H.out.step hb.out).cells k hk'
    have hq : q < wr.heap.size := by obtain ⟨_, _, e, hq, _⟩ := (H.out.step hb.out).at k hk'; cases e; exact hq
    have hf := tf_bd HT.out k (by have := HN.out; omega)
    have hgl := (ho.out.at k (by rw [List.length_append, prts_len, List.length_replicate]; omega))
    obtain ⟨g', eg, hgs, hcell⟩ := hgl
    cases eg
    have hfr := ho.out.free k
    have hpr := prt_bd HBB.out HT.out k (by have := HN.out; omega)
    obtain ⟨x, hx⟩ : ∃ x, x = tf ts k := ⟨_, rfl⟩
    obtain ⟨y, hy⟩ : ∃ y, y = tr ts k := ⟨_, rfl⟩
    rw [← hx] at z1 hf
    rw [← hy] at z2 hf
    have HX := (show Hid _ from hx)
    have e2 := (show Hid _ from prts_set b ts n k hk')
    obtain ⟨x1, x2, _, _⟩ := hf
    by_cases hlast : k + 1 < n
    · obtain ⟨q', off', eq', z3, z4⟩ := (H.out.step hb.out).cells (k + 1) hlast
      cases eq'
      have hf2 := tf_bd HT.out (k + 1) (by have := HN.out; omega)
      have E : Hid (prt b ts k = max 0 (min b (tf ts (k + 1)) - x)) := by
        show prt b ts k = _
        unfold prt pend
        rw [if_pos (by have := HN.out; omega), hx]
      obtain ⟨u, hu⟩ : ∃ u, u = tf ts (k + 1) := ⟨_, rfl⟩
      rw [← hu] at z3 hf2 E
      obtain ⟨u1, u2, _, _⟩ := hf2
      have dl : decide ((k : Int) + 1 < n) = true := decide_eq_true (by omega)
      clear hx hy hu z4
      by_cases hmin : u < b
      · have e3 : min b u = u := by omega
        rw [e3] at E
        clear e3
        by_cases hm : 0 < u - x
        · have em : Hid (prt b ts k = u - x) := E.out.trans (by omega)
          go_wp2_with fail
          refine ⟨⟨k + 1, by omega, by simp, ?_, ?_⟩, by simp [intOf]; omega⟩
          · rw [← e2.out, em.out]
            exact (ho.out.set k (u - x)).step ((Below.refl _ _).alloc (Nat.le_refl _) _)
          · exact (hb.out.setCell (Nat.le_refl _) _).alloc (by have := hb.out.size; simp; omega) _
        · have em : Hid (prt b ts k = 0) := E.out.trans (by omega)
          go_wp2_with fail
          refine ⟨⟨k + 1, by omega, by simp, ?_, ?_⟩, by simp [intOf]; omega⟩
          · rw [← e2.out, em.out]
            exact (ho.out.set k 0).step ((Below.refl _ _).alloc (Nat.le_refl _) _)
          · exact (hb.out.setCell (Nat.le_refl _) _).alloc (by have := hb.out.size; simp; omega) _
      · have e3 : min b u = b := by omega
        rw [e3] at E
        clear e3
        by_cases hm : 0 < b - x
        · have em : Hid (prt b ts k = b - x) := E.out.trans (by omega)
          go_wp2_with fail
          refine ⟨⟨k + 1, by omega, by simp, ?_, ?_⟩, by simp [intOf]; omega⟩
          · rw [← e2.out, em.out]
            exact (ho.out.set k (b - x)).step ((Below.refl _ _).alloc (Nat.le_refl _) _)
          · exact (hb.out.setCell (Nat.le_refl _) _).alloc (by have := hb.out.size; simp; omega) _
        · have em : Hid (prt b ts k = 0) := E.out.trans (by omega)
          go_wp2_with fail
          refine ⟨⟨k + 1, by omega, by simp, ?_, ?_⟩, by simp [intOf]; omega⟩
          · rw [← e2.out, em.out]
            exact (ho.out.set k 0).step ((Below.refl _ _).alloc (Nat.le_refl _) _)
          · exact (hb.out.setCell (Nat.le_refl _) _).alloc (by have := hb.out.size; simp; omega) _
    · have E : Hid (prt b ts k = max 0 (b - x)) := by
        show prt b ts k = _
        unfold prt pend
        rw [if_neg (by have := HN.out; omega), hx]
      have dl : decide ((k : Int) + 1 < n) = false := decide_eq_false (by omega)
      clear hx hy
      by_cases hm : 0 < b - x
      · have em : Hid (prt b ts k = b - x) := E.out.trans (by omega)
        go_wp2_with fail
        refine ⟨⟨k + 1, by omega, by simp, ?_, ?_⟩, by simp [intOf]; omega⟩
        · rw [← e2.out, em.out]
          exact (ho.out.set k (b - x)).step ((Below.refl _ _).alloc (Nat.le_refl _) _)
        · exact (hb.out.setCell (Nat.le_refl _) _).alloc (by have := hb.out.size; simp; omega) _
      · have em : Hid (prt b ts k = 0) := E.out.trans (by omega)
        go_wp2_with fail
        refine ⟨⟨k + 1, by omega, by simp, ?_, ?_⟩, by simp [intOf]; omega⟩
        · rw [← e2.out, em.out]
          exact (ho.out.set k 0).step ((Below.refl _ _).alloc (Nat.le_refl _) _)
        · exact (hb.out.setCell (Nat.le_refl _) _).alloc (by have := hb.out.size; simp; omega) _
/-- all tiers, any balance -/
theorem Parts_ok (b : Int) (tv : Value) (ts : List (Int × Int)) (w : World) (h : Tr w tv ts) (hb : 0 ≤ b ∧ b ≤ 10000000000000) (ht : terr ts = 0) :
    Calls Try.prog 12 #[.int .i64 b, tv] w fun e w' => (∃ v, e = .returned (.tuple #[v, .int .i64 0]) ∧ OwnI w' w.heap.size v (prts b ts ts.length)) ∧ Below w.heap.size w w' := by
  have hd : decide (0 ≤ b ∧ b ≤ 10000000000000) = true := decide_eq_true hb
  have H := (show Hid _ from h)
  have HT := (show Hid _ from ht)
  have HBB := (show Hid _ from hb)
  clear h hb ht
  go_enter Try.func12, Try.ntmps12
  go_wp2_with fail
  refine (upTo_ok b 10000000000000 _).mono ?_
  rintro e w1 ⟨rfl, hw⟩
  obtain rfl := hw.symm
  rw [hd]
  go_wp2_with fail
  refine (tiers_ok tv ts _ H.out).mono ?_
  rintro e w1 ⟨rfl, b1⟩
  rw [HT.out]
  have B1 := (show Hid _ from b1)
  clear b1
  go_wp2_with fail
  refine (split_ok b tv ts _ (H.out.step B1.out) HBB.out HT.out).mono ?_
  rintro e w2 ⟨⟨v, rfl, ho⟩, b2⟩
  have O2 := (show Hid _ from ho.lower B1.out.size)
  have B2 := (show Hid _ from B1.out.trans (b2.mono B1.out.size))
  clear ho b2
  go_wp2_with fail
  refine bodyPost_ret (v := .tuple #[v, .int .i64 0]) (by simp [results, Try.results12, go_sem]) rfl ?_
  exact ⟨⟨v, rfl, O2.out⟩, B2.out⟩
theorem Parts_arg (b : Int) (tv : Value) (w : World) (hb : ¬ (0 ≤ b ∧ b ≤ 10000000000000)) :
    Calls Try.prog 12 #[.int .i64 b, tv] w fun e w' => e = .returned (.tuple #[.slice none 0 0, .int .i64 1]) ∧ Below w.heap.size w w' := by
  have hd : decide (0 ≤ b ∧ b ≤ 10000000000000) = false := decide_eq_false hb
  have B0 := (show Hid _ from Below.refl w.heap.size w)
  clear hb
  go_enter Try.func12, Try.ntmps12
  go_wp2_with fail
  refine (upTo_ok b 10000000000000 _).mono ?_
  rintro e w1 ⟨rfl, hw⟩
  obtain rfl := hw.symm
  rw [hd]
  go_wp2_with fail
  refine bodyPost_ret (v := .tuple #[.slice none 0 0, .int .i64 1]) (by simp [results, Try.results12, go_sem]) rfl ?_
  exact ⟨rfl, B0.out⟩
theorem Parts_err (b : Int) (tv : Value) (ts : List (Int × Int)) (w : World) (h : Tr w tv ts) (hb : 0 ≤ b ∧ b ≤ 10000000000000) (ht : terr ts ≠ 0) :
    Calls Try.prog 12 #[.int .i64 b, tv] w fun e w' => e = .returned (.tuple #[.slice none 0 0, .int .i64 (terr ts)]) ∧ Below w.heap.size w w' := by
  have hd : decide (0 ≤ b ∧ b ≤ 10000000000000) = true := decide_eq_true hb
  have H := (show Hid _ from h)
  obtain ⟨r, hr⟩ : ∃ r, r = terr ts := ⟨_, rfl⟩
  rw [← hr] at ht ⊢
  have HT := (show Hid _ from hr)
  have e0 : (r == 0) = false := by simpa using ht
  clear h hb hr
  go_enter Try.func12, Try.ntmps12
  go_wp2_with fail
  refine (upTo_ok b 10000000000000 _).mono ?_
  rintro e w1 ⟨rfl, hw⟩
  obtain rfl := hw.symm
  rw [hd]
  go_wp2_with fail
  refine (tiers_ok tv ts _ H.out).mono ?_
  rintro e w1 ⟨rfl, b1⟩
  rw [← HT.out]
  have B1 := (show Hid _ from b1)
  clear b1
  go_wp2_with fail
  refine bodyPost_ret (v := .tuple #[.slice none 0 0, .int .i64 r]) (by simp [results, Try.results12, go_sem]) rfl ?_
  exact ⟨rfl, B1.out⟩
end Go.Proofs.Ytmaikgebdegkgaa
/- accrue: the contracts of whole, times. -/
namespace Go.Proofs.Ytmaikgebdegkgaa
open Go.RowKit
set_option linter.unusedVariables false
attribute [local go_sem] ext_cell ext_frozen ext_drew ext_of_drew ext_of_drewN ext_setCell ext_lt ext_lt1 ext_lt2 ext_lt3 lt_n2 lt_n3 lt_n4 lt_n5 lt_n6

def dcl (c : Int) : List Value := [.int .i64 (dhi c), .int .u64 (dlo c), .int .i64 0]
theorem infoD : (Try.prog.info? 56).map (·.size) = some 3 := by kernel_rfl
theorem dcl_one (c : Int) : ∀ v ∈ dcl c, v.oneCell' = true := by intro v hv; simp [dcl] at hv; rcases hv with rfl | rfl | rfl <;> rfl
def zdl : List Value := [.int .i64 0, .int .u64 0, .int .i64 0]
theorem rquo_one' (neg : Bool) (n mode : Nat) : rquo neg n 1 0 mode = n := by
  unfold rquo rnum rden away
  simp [Nat.mod_one]
theorem sv_mul' (a b : Int) : sv ((decide (a < 0)) != (decide (b < 0))) (a.natAbs * b.natAbs) = a * b := by
  unfold sv
  rcases Int.lt_or_le a 0 with ha | ha <;> rcases Int.lt_or_le b 0 with hb | hb
  · rw [Int.natCast_mul, show (a.natAbs : Int) = -a by omega, show (b.natAbs : Int) = -b by omega]
    simp [ha, hb, Int.neg_mul, Int.mul_neg]
  · rw [Int.natCast_mul, show (a.natAbs : Int) = -a by omega, show (b.natAbs : Int) = b by omega]
    simp [ha, show ¬ b < 0 by omega, Int.neg_mul]
  · rw [Int.natCast_mul, show (a.natAbs : Int) = a by omega, show (b.natAbs : Int) = -b by omega]
    simp [hb, show ¬ a < 0 by omega, Int.mul_neg]
  · rw [Int.natCast_mul, show (a.natAbs : Int) = a by omega, show (b.natAbs : Int) = b by omega]
    simp [show ¬ a < 0 by omega, show ¬ b < 0 by omega]
/-- a product of whole numbers -/
theorem mul_int (x y : Int) (w : World) (hx : InR x) (hy : InR y) (hr : InR (x * y)) :
    Calls Try.prog 58 #[.agg (dcl x).toArray, .agg (dcl y).toArray, .int .i64 0, .int .i64 0] w
      fun e w' => e = .returned (.tuple #[.agg (dcl (x * y)).toArray, .int .i64 0]) ∧ Below w.heap.size w w' := by
  have e : mv x 0 y 0 0 0 = x * y := by
    unfold mv
    rw [show ((0 : Nat) : Int) - ((0 : Nat) : Int) - ((0 : Nat) : Int) = 0 by omega, rquo_one', sv_mul']
  have h := mul_yes x y 0 0 0 0 w hx hy (by decide) (by decide) (by decide) (by decide) (by rw [e]; exact hr)
  rw [e] at h
  exact h
theorem in64 {n : Int} (h1 : -9223372036854775808 ≤ n) (h2 : n ≤ 9223372036854775807) : InR n := by
  constructor <;> (rw [M127_eq]; omega)
set_option maxRecDepth 100000 in
theorem whole_ok (n : Int) (w : World) (h1 : -9223372036854775808 ≤ n) (h2 : n ≤ 9223372036854775807) :
    Calls Try.prog 35 #[.int .i64 n] w fun e w' => e = .returned (.agg (dcl n).toArray) ∧ Below w.heap.size w w' := by
  have H1 := (show Hid _ from h1)
  have H2 := (show Hid _ from h2)
  clear h1 h2
  have V0 := (show Hid _ from va_new w zdl 56)
  have B0 := (show Hid _ from (Below.refl w.heap.size w).alloc (Nat.le_refl _) (.cells zdl.toArray 56))
  go_enter Try.func35, Try.ntmps35
  go_wp2_with fail
  refine (of_ok n 0 _ H1.out H2.out (by decide)).mono ?_
  rintro e w1 ⟨rfl, b1⟩
  have R1 := (show Hid _ from (V0.out.step b1).alloc (.cells zdl.toArray 56))
  have V1 := (show Hid _ from va_new w1 zdl 56)
  have B1 := (show Hid _ from (B0.out.trans (b1.mono B0.out.size)).alloc (Nat.le_trans B0.out.size b1.size) (.cells zdl.toArray 56))
  have s1 : w.heap.size < w1.heap.size := (V0.out.step b1).lt
  clear V0 B0 b1
  go_wp2_with (first | (refine stA rfl 56 _ _ rfl w1.heap.size (by rfl) zdl (dcl n) (by rfl) 56 V1.out infoD rfl (dcl_one n) ?_; intro w2 va up; have V2 := (show Hid _ from va); have R2 := (show Hid _ from R1.out.upd up (by omega)); have B2 := (show Hid _ from up.bel B1.out (by omega)); clear va up) | (refine ldA rfl 56 _ rfl w1.heap.size (by rfl) (dcl n) _ V2.out _ Try.underlying56 rfl infoD ?_) | (refine stA rfl 56 _ _ rfl w.heap.size (by rfl) zdl (dcl n) (by rfl) 56 R2.out infoD rfl (dcl_one n) ?_; intro w3 V3 U3))
  have hld := run_loadVar_row (P := Try.prog) w3 w.heap.size 56 56 _ (0, 0) _ V3.blk Try.underlying56 rfl infoD
  refine bodyPost_ret (v := .agg (dcl n).toArray) (by simp [results, Try.results35, asAddr, hld, Act.put]) rfl ⟨rfl, U3.bel B2.out (Nat.le_refl _)⟩
/-- a store of all of a struct into the new variable -/
theorem puts_row {ops : Array Oper} {w0 : World} {o : Oper} {b : Nat} {a : Act} (t : TypeId) (x y : Operand) (ho : o.op = .store t x y) (hd : o.dst = none) (hw : Region.wanted o (yielded ops a.tmps) = true) (hx : a.eval x = .pointer (some ⟨b, 0, none⟩)) (cs ds : List Value) (hy : a.eval y = .agg ds.toArray) (T : TypeId)
    (hi : (Try.prog.info? t).map (·.size) = some ds.length) (hl : cs.length = ds.length) (h1 : ∀ v ∈ ds, v.oneCell' = true) (hb : w0.heap.size ≤ b) : Puts Try.prog ops w0 (.cells cs.toArray T) (.cells ds.toArray T) o b a := by
  refine ⟨hw, hd, fun w2 hlt hO => ⟨w2.setRow b ds.toArray, ?_, (upd_setRow w2 b _).bel hlt hb, setRow_heap w2 b _ _ _ _ hO⟩⟩
  have hrun := run_storeVar_row (P := Try.prog) w2 b T t cs.toArray ds.toArray hO (by simpa using hi) (by simpa using hl) (Array.all_eq_true_iff_forall_mem.2 (fun v hv => h1 v (by simpa using hv)))
  unfold execOp
  simp only [ho, hx, hy, Instr.storeAt, Instr.sureAddr, Sem.run_bind, Sem.run_pure, Result.andThen_ok, hrun]
set_option maxRecDepth 100000 in
theorem atimes_ok (x n : Int) (w : World) (hx : InR x) (h1 : -9223372036854775808 ≤ n) (h2 : n ≤ 9223372036854775807) (hr : InR (x * n)) :
    Calls Try.prog 34 #[.agg (dcl x).toArray, .int .i64 n] w fun e w' => e = .returned (.agg (dcl (x * n)).toArray) ∧ Below w.heap.size w w' := by
  have H1 := (show Hid _ from h1)
  have H2 := (show Hid _ from h2)
  have HX : Hid (InR x) := hx
  have HR : Hid (InR (x * n)) := hr
  clear h1 h2 hx hr
  have V0 := (show Hid _ from (va_new w (dcl x) 56).alloc (.cells zdl.toArray 56))
  have R0 := (show Hid _ from va_new (w.alloc (.cells (dcl x).toArray 56)) zdl 56)
  rw [show (w.alloc (.cells (dcl x).toArray 56)).heap.size = w.heap.size + 1 by simp] at R0
  have B0 := (show Hid _ from ((Below.refl w.heap.size w).alloc (Nat.le_refl _) (.cells (dcl x).toArray 56)).alloc (by simp) (.cells zdl.toArray 56))
  go_enter Try.func34, Try.ntmps34
  go_upto_region 1 with fail
  have c0 := V0.out.cell 0 (v := .int .i64 (dhi x)) rfl
  have c1 := V0.out.cell 1 (v := .int .u64 (dlo x)) rfl
  have c2 := V0.out.cell 2 (v := .int .i64 0) rfl
  have l0 := V0.out.lt
  have s0 : (w.alloc (.cells (dcl x).toArray 56) |>.alloc (.cells zdl.toArray 56)).heap.size = w.heap.size + 1 + 1 := by simp
  have S0 := (show Hid _ from s0)
  clear V0 s0
  change Code.wp _ _ _ _ (w.alloc (.cells (dcl x).toArray 56) |>.alloc (.cells zdl.toArray 56))
  generalize (w.alloc (.cells (dcl x).toArray 56) |>.alloc (.cells zdl.toArray 56)) = W at *
  refine wp_region_def (done := #[true, true, true, true, true, true, true, false, false, false]) (all := #[true, true, true, true, true, true, true, true, true, true]) [0, 1, 2, 3, 4, 5, 6] [9] 7 8 _ _ (.cells zdl.toArray 56) (.cells (dcl (x * n)).toArray 56) (by kernel_rfl) (by kernel_rfl) (by kernel_rfl) (by kernel_rfl) rfl rfl (fun _ _ => ⟨rfl, rfl⟩) (by kernel_rfl) (by kernel_rfl) (by kernel_rfl) ?_
  iterate 2 (refine wpG_step (fun K hK => ?_); go_simp; refine hK _ ?_; clear hK K)
  refine wpG_step (fun K hK => ?_)
  go_simp
  apply Exists.intro
  refine ⟨fun xq => ?_, hK _ ?_⟩
  · exact whole_ok n _ H1.out H2.out
  clear hK K
  refine wpG_step (fun K hK => ?_)
  go_simp
  apply Exists.intro
  refine ⟨fun xq => ?_, hK _ ?_⟩
  · exact mul_int x n _ HX.out (in64 H1.out H2.out) HR.out
  clear hK K
  iterate 3 (refine wpG_step (fun K hK => ?_); go_simp; refine hK _ ?_; clear hK K)
  refine wpG_nil ?_
  intro b hb
  refine ⟨puts_row 56 _ _ rfl rfl rfl (by rfl) zdl (dcl (x * n)) (by rfl) 56 infoD rfl (dcl_one _) hb, ?_⟩
  refine wpG_step (fun K hK => ?_)
  go_simp
  refine hK _ ?_
  clear hK K
  refine wpG_nil ?_
  intro w3 hl hO
  have V3 : Hid (VA w3 b (dcl (x * n)) 56) := ⟨hO⟩
  have R3 := (show Hid _ from R0.out.step hl)
  have B3 := (show Hid _ from B0.out.trans (hl.mono B0.out.size))
  have hne : w.heap.size + 1 ≠ b := by have := S0.out; omega
  clear c0 c1 c2 l0 S0 R0 B0 hb hl hO
  go_wp2_with (first | (refine ldA rfl 56 _ rfl b (by rfl) (dcl (x * n)) _ V3.out _ Try.underlying56 rfl infoD ?_) | (refine stA rfl 56 _ _ rfl (w.heap.size + 1) (by rfl) zdl (dcl (x * n)) (by rfl) 56 R3.out infoD rfl (dcl_one _) ?_; intro w4 V4 U4))
  have hld := run_loadVar_row (P := Try.prog) w4 (w.heap.size + 1) 56 56 _ (0, 0) _ V4.blk Try.underlying56 rfl infoD
  refine bodyPost_ret (v := .agg (dcl (x * n)).toArray) (by simp [results, Try.results34, asAddr, hld, Act.put]) rfl ⟨rfl, U4.bel B3.out (by omega)⟩
end Go.Proofs.Ytmaikgebdegkgaa
/- accrue: the contract of yearly. -/
namespace Go.Proofs.Ytmaikgebdegkgaa
open Go.RowKit
set_option linter.unusedVariables false
attribute [local go_sem] ext_cell ext_frozen ext_drew ext_of_drew ext_of_drewN ext_setCell ext_lt ext_lt1 ext_lt2 ext_lt3 lt_n2 lt_n3 lt_n4 lt_n5 lt_n6

/-- a year's interest of the first k tiers, in billionths -/
def ysum (b : Int) (ts : List (Int × Int)) : Nat → Int
  | 0 => 0
  | k + 1 => ysum b ts k + prt b ts k * tr ts k
theorem term_bd {b : Int} {ts : List (Int × Int)} (hb : 0 ≤ b ∧ b ≤ 10000000000000) (h : terr ts = 0) (i : Nat) (hi : i < ts.length) : 0 ≤ prt b ts i * tr ts i ∧ prt b ts i * tr ts i ≤ 10000000000000000000000 := by
  have h1 := prt_bd hb h i hi
  have h2 := tf_bd h i hi
  refine ⟨Int.mul_nonneg h1.1 h2.2.2.1, ?_⟩
  have := Int.mul_le_mul (show prt b ts i ≤ 10000000000000 by omega) h2.2.2.2 h2.2.2.1 (by omega)
  exact this
theorem ysum_bd {b : Int} {ts : List (Int × Int)} (hb : 0 ≤ b ∧ b ≤ 10000000000000) (h : terr ts = 0) : ∀ k, k ≤ ts.length → 0 ≤ ysum b ts k ∧ ysum b ts k ≤ 10000000000000000000000 * k
  | 0, _ => by unfold ysum; omega
  | k + 1, hk => by
    have := ysum_bd hb h k (by omega)
    have := term_bd hb h k (by omega)
    unfold ysum
    omega
theorem in_small {x : Int} (h1 : 0 ≤ x) (h2 : x ≤ 1000000000000000000000000000000000000) : InR x := by
  constructor <;> (rw [M127_eq]; omega)
theorem add_int (x y : Int) (w : World) (hx : InR x) (hy : InR y) (hr : InR (x + y)) :
    Calls Try.prog 37 #[.agg (dcl x).toArray, .agg (dcl y).toArray] w fun e w' => e = .returned (.tuple #[.agg (dcl (x + y)).toArray, .int .i64 0]) ∧ Below w.heap.size w w' := by
  have e : tv x 0 y 0 = x + y := by unfold tv; simp
  have h := add_yes x y 0 0 w hx hy (by decide) (by decide) (by rw [e]; exact hr)
  rw [e] at h
  exact h
/-- all of a struct is stored, in a drawn region -/
theorem stAw {w : World} {y : Nat → Option Bool} {o : Oper} {a : Act} {Q : Exit → Act → World → Prop} {K : Act → World → Prop} {k0 : Prop} (hgd : Region.wanted o y = true) (t : TypeId) (x z : Operand) (ho : o.op = .store t x z)
    (p : Nat) (hx : a.eval x = .pointer (some ⟨p, 0, none⟩)) (cs ds : List Value) (hy : a.eval z = .agg ds.toArray) (T : TypeId) (h : VA w p cs T) (hi : (Try.prog.info? t).map (·.size) = some ds.length) (hl : cs.length = ds.length) (h1 : ∀ v ∈ ds, v.oneCell' = true)
    (k : ∀ w', VA w' p ds T → Upd p w w' → K (a.put o.dst undef) w') : if Region.wanted o y = true then o.wp Try.prog a w K Q else k0 := by
  rw [if_pos hgd]
  have hrun := run_storeVar_row (P := Try.prog) w p T t cs.toArray ds.toArray h.blk (by simpa using hi) (by simpa using hl) (Array.all_eq_true_iff_forall_mem.2 (fun v hv => h1 v (by simpa using hv)))
  unfold Oper.wp execOp
  simp only [ho, hx, hy, Instr.storeAt, Instr.sureAddr, Sem.run_bind, Sem.run_pure, Result.andThen_ok, hrun]
  exact k _ ⟨setRow_heap w p _ _ _ _ h.blk⟩ (upd_setRow w p _)
theorem cell_upd {w w' : World} {p q j : Nat} (k : Upd p w w') (h : q ≠ p) : w'.cell? ⟨q, j, none⟩ = w.cell? ⟨q, j, none⟩ := World.cell?_of_block (w := w) (w' := w') (a := ⟨q, j, none⟩) (k.block q h)
set_option maxHeartbeats 1000000 in
set_option maxRecDepth 100000 in
theorem yearly_ok (b : Int) (pv tv : Value) (ts : List (Int × Int)) (w : World) (hp : Is w pv (prts b ts ts.length)) (h : Tr w tv ts) (hb : 0 ≤ b ∧ b ≤ 10000000000000) (ht : terr ts = 0) :
    Calls Try.prog 22 #[pv, tv] w fun e w' => e = .returned (.agg (dcl (ysum b ts ts.length)).toArray) ∧ Below w.heap.size w w' := by
  obtain ⟨n, hn⟩ : ∃ n, n = ts.length := ⟨_, rfl⟩
  have H := (show Hid _ from h)
  obtain ⟨ta, tc, rfl, g1, g2⟩ : ∃ a c, tv = .slice a n c ∧ n ≤ c ∧ c ≤ 9223372036854775807 := by obtain ⟨_, a, c, e, h1, h2, _⟩ := h; exact ⟨a, c, by rw [hn]; exact e, by rw [hn]; exact h1, h2⟩
  rw [← hn] at hp ⊢
  have HI := (show Hid _ from hp)
  obtain ⟨pa, pc, rfl, k1, k2⟩ : ∃ a c, pv = .slice a n c ∧ n ≤ c ∧ c ≤ 9223372036854775807 := by obtain ⟨a, c, e, h1, h2, _⟩ := hp; rw [prts_len] at e h1; exact ⟨a, c, e, h1, h2⟩
  have hz := terr_zero ht
  have h8 : n ≤ 8 := by omega
  have h1 : 1 ≤ n := by omega
  have HN := (show Hid _ from hn)
  have HT := (show Hid _ from ht)
  have HBB := (show Hid _ from hb)
  clear h hn hz ht hb hp
  have R0 := (show Hid _ from va_new w zdl 56)
  have B0 := (show Hid _ from (Below.refl w.heap.size w).alloc (Nat.le_refl _) (.cells zdl.toArray 56))
  go_enter Try.func22, Try.ntmps22
  go_wp2_with fail
  refine (whole_ok 0 _ (by omega) (by omega)).mono ?_
  rintro e w1 ⟨rfl, b1⟩
  have R1 := (show Hid _ from (R0.out.step b1).alloc (.cells zdl.toArray 56))
  have V1 := (show Hid _ from va_new w1 zdl 56)
  have B1 := (show Hid _ from (B0.out.trans (b1.mono B0.out.size)).alloc (Nat.le_trans B0.out.size b1.size) (.cells zdl.toArray 56))
  have s1 : w.heap.size < w1.heap.size := (R0.out.step b1).lt
  clear R0 B0 b1
  go_wp2_with (refine stA rfl 56 _ _ rfl w1.heap.size (by rfl) zdl (dcl 0) (by rfl) 56 V1.out infoD rfl (dcl_one 0) ?_; intro w2 va up; have V2 := (show Hid _ from va); have R2 := (show Hid _ from R1.out.upd up (by omega)); have B2 := (show Hid _ from up.bel B1.out (by omega)); clear va up)
  go_loopw [11] (fun i wr => ∃ k : Nat, k ≤ n ∧ i = .int .i64 k ∧ Hid (VA wr w1.heap.size (dcl (ysum b ts k)) 56) ∧ Hid (VA wr w.heap.size zdl 56) ∧ Hid (Below w.heap.size w wr)) (fun i _ => n - (intOf i).toNat)
  case atStart => exact ⟨0, by omega, rfl, V2, R2, B2⟩
  case round =>
    obtain ⟨k, hk, rfl, v, r, hb⟩ := hrel
    by_cases hkn : k = n
    · subst hkn
      go_wp2_with (first | (refine ldA rfl 56 _ rfl w1.heap.size (by rfl) (dcl (ysum b ts k)) _ v.out _ Try.underlying56 rfl infoD ?_) | (refine stA rfl 56 _ _ rfl w.heap.size (by rfl) zdl (dcl (ysum b ts k)) (by rfl) 56 r.out infoD rfl (dcl_one _) ?_; intro w4 V4 U4))
      have hld := run_loadVar_row (P := Try.prog) w4 w.heap.size 56 56 _ (0, 0) _ V4.blk Try.underlying56 rfl infoD
      exact bodyPost_ret (v := .agg (dcl (ysum b ts k)).toArray) (by simp [results, Try.results22, asAddr, hld, Act.put]) rfl ⟨rfl, U4.bel hb.out (Nat.le_refl _)⟩
    have hk' : k < n := by omega
    have hlt : decide ((k : Int) < n) = true := decide_eq_true (by omega)
    obtain ⟨q, off, rfl, z1, z2⟩ := (H.out.step hb.out).cells k hk'
    have hf := tf_bd HT.out k (by have := HN.out; omega)
    have hpr := prt_bd HBB.out HT.out k (by have := HN.out; omega)
    have hys := ysum_bd HBB.out HT.out k (by have := HN.out; omega)
    have htm := term_bd HBB.out HT.out k (by have := HN.out; omega)
    obtain ⟨x, hx⟩ : ∃ x, x = tf ts k := ⟨_, rfl⟩
    obtain ⟨y, hy⟩ : ∃ y, y = tr ts k := ⟨_, rfl⟩
    rw [← hx] at z1
    rw [← hy] at z2 hf htm
    have HYY := (show Hid _ from hy)
    clear hx hy
    go_upto_region 5 with fail
    have hpi := HI.out.step hb.out
    obtain ⟨pa', pc', epa, _, _, hpx⟩ := hpi
    rw [prts_len] at epa hpx
    cases epa
    obtain ⟨pb, po, rfl, hpb, hpx⟩ := hpx (by omega)
    have hpc := hpx k hk'
    rw [prts_get _ _ _ _ hk'] at hpc
    obtain ⟨P, hP⟩ : ∃ P, P = prt b ts k := ⟨_, rfl⟩
    obtain ⟨Y, hY⟩ : ∃ Y, Y = ysum b ts k := ⟨_, rfl⟩
    rw [← hP] at hpc hpr htm
    rw [← hY] at hys v
    have HE : Hid (Y + P * y = ysum b ts (k + 1)) := by rw [hP, hY, HYY.out]; rfl
    have O : Obj := .cells #[.int .i64 x, .int .i64 y] 25
    have cA := (hpc : wr.cell? _ = _)
    have hA : (wr.alloc (.cells #[.int .i64 x, .int .i64 y] 25)).cell? ⟨pb, po + k, none⟩ = some (.int .i64 P) := by
      rw [((Below.refl wr.heap.size wr).alloc (Nat.le_refl _) _).cell (p := ⟨pb, po + k, none⟩) hpb]; exact hpc
    have VT := va_new wr [.int .i64 x, .int .i64 y] 25
    have hT : (wr.alloc (.cells #[.int .i64 x, .int .i64 y] 25)).cell? ⟨wr.heap.size, 1, none⟩ = some (.int .i64 y) := VT.cell 1 rfl
    have VS := v.out.alloc (.cells #[.int .i64 x, .int .i64 y] 25)
    have VR := r.out.alloc (.cells #[.int .i64 x, .int .i64 y] 25)
    have BB := hb.out.alloc hb.out.size (.cells #[.int .i64 x, .int .i64 y] 25)
    have s0 := VS.cell 0 (v := .int .i64 (dhi Y)) rfl
    have s2 := VS.cell 1 (v := .int .u64 (dlo Y)) rfl
    have s3 := VS.cell 2 (v := .int .i64 0) rfl
    have ls := VS.lt
    have lt := VT.lt
    have lp : pb < (wr.alloc (.cells #[.int .i64 x, .int .i64 y] 25)).heap.size := by simp; omega
    have hVS := (show Hid _ from VS)
    have hVR := (show Hid _ from VR)
    have hBB := (show Hid _ from BB)
    have HNE : Hid (pb < w1.heap.size ∧ w1.heap.size < wr.heap.size ∧ w.heap.size < w1.heap.size ∧ True) := by
      obtain ⟨a', c', e', _, _, hx'⟩ := HI.out
      rw [prts_len] at hx' e'
      obtain ⟨b', o', eb, hb', _⟩ := hx' (by omega)
      cases e'
      cases eb
      exact ⟨Nat.lt_trans hb' s1, v.out.lt, s1, trivial⟩
    have HP := (show Hid _ from And.intro hpr (And.intro hys (And.intro htm hf)))
    have bb := HBB.out.2
    clear hpx hpc cA O VT VS VR BB hP hY hpr hys htm hf z1 z2 hpb
    generalize (wr.alloc (.cells #[.int .i64 x, .int .i64 y] 25)) = W at *
    generalize wr.heap.size = tb at *
    refine wp_region_noPanic ?_
    refine wp_region_held_drew (S := fun w' => w'.cell? ⟨pb, po + k, none⟩ = some (.int .i64 P) ∧ w'.cell? ⟨tb, 1, none⟩ = some (.int .i64 y) ∧ pb < w'.heap.size ∧ tb < w'.heap.size) (by kernel_rfl) ⟨hA, hT, lp, lt⟩ (fun hHeld => ?_)
    refine takeD 1 18 (.slice (some ⟨pb, po, none⟩) n pc) (by exact rfl) rfl (by kernel_rfl) (by kernel_rfl) (by kernel_rfl) (fun _ _ _ h => h) (Or.inl ⟨by rfl, ?_⟩) (by assumption) ?_
    · intro wq hS
      go_simp
    simp only [Act.put, List.setIfInBounds_toArray, List.set_cons_zero, List.set_cons_succ]
    refine takeD 2 19 (.int .i64 (k : Int)) (by exact rfl) rfl (by kernel_rfl) (by kernel_rfl) (by kernel_rfl) (fun _ _ _ h => h) (Or.inl ⟨by rfl, ?_⟩) (by assumption) ?_
    · intro wq hS
      go_simp
    simp only [Act.put, List.setIfInBounds_toArray, List.set_cons_zero, List.set_cons_succ]
    refine takeD 3 20 (.pointer (some ⟨pb, po + k, none⟩)) (by exact rfl) rfl (by kernel_rfl) (by kernel_rfl) (by kernel_rfl) (fun _ _ _ h => h) (Or.inl ⟨by rfl, ?_⟩) (by assumption) ?_
    · intro wq hS
      go_simp
    simp only [Act.put, List.setIfInBounds_toArray, List.set_cons_zero, List.set_cons_succ]
    refine takeD 4 21 (.int .i64 P) (by exact rfl) rfl (by kernel_rfl) (by kernel_rfl) (by kernel_rfl) (fun _ _ _ h => h) (Or.inl ⟨by rfl, ?_⟩) (by assumption) ?_
    · intro wq hS
      obtain ⟨h1, h2, h3, h4⟩ := hS
      go_simp
    simp only [Act.put, List.setIfInBounds_toArray, List.set_cons_zero, List.set_cons_succ]
    refine takeD 6 23 (.pointer (some ⟨tb, 1, none⟩)) (by exact rfl) rfl (by kernel_rfl) (by kernel_rfl) (by kernel_rfl) (fun _ _ _ h => h) (Or.inl ⟨by rfl, ?_⟩) (by assumption) ?_
    · intro wq hS
      go_simp
    simp only [Act.put, List.setIfInBounds_toArray, List.set_cons_zero, List.set_cons_succ]
    refine takeD 7 24 (.int .i64 y) (by exact rfl) rfl (by kernel_rfl) (by kernel_rfl) (by kernel_rfl) (fun _ _ _ h => h) (Or.inl ⟨by rfl, ?_⟩) (by assumption) ?_
    · intro wq hS
      obtain ⟨h1, h2, h3, h4⟩ := hS
      go_simp
    simp only [Act.put, List.setIfInBounds_toArray, List.set_cons_zero, List.set_cons_succ]
    clear hHeld
    have VSz := (show Hid _ from hVS.out.drew)
    have VRz := (show Hid _ from hVR.out.drew)
    have BBz := (show Hid _ from hBB.out.drew)
    have SSz := (show Hid (W.drew.cell? ⟨pb, po + k, none⟩ = some (.int .i64 P) ∧ W.drew.cell? ⟨tb, 1, none⟩ = some (.int .i64 y) ∧ pb < W.drew.heap.size ∧ tb < W.drew.heap.size) from ⟨hA, hT, lp, lt⟩)
    clear hA hT lp lt s0 s2 s3 ls hVS hVR hBB
    generalize W.drew = wz at *
    refine wpAnyH_ready (rs := [0, 5]) (by kernel_rfl) (by simp) ?_
    refine AllReadyH.cons (by exact rfl) (fun K hK => ?_) (AllReadyH.cons (by exact rfl) (fun K hK => ?_) AllReadyH.nil)
    · have q0 := VSz.out.cell 0 (v := .int .i64 (dhi Y)) rfl
      have q1 := VSz.out.cell 1 (v := .int .u64 (dlo Y)) rfl
      have q2 := VSz.out.cell 2 (v := .int .i64 0) rfl
      have ql := VSz.out.lt
      go_simp
      refine hK.out _ _ SSz.out (fun hHeld => ?_)
      try simp only [Act.put, List.setIfInBounds_toArray, List.set_cons_zero, List.set_cons_succ]
      clear hK K hHeld q0 q1 q2 ql
      refine wpAnyH_ready (rs := [5]) (by kernel_rfl) (by simp) ?_
      refine AllReadyH.cons (by exact rfl) (fun K hK => ?_) AllReadyH.nil
      go_simp
      refine (whole_ok P _ (by have := HP.out; omega) (by have := HP.out; omega)).mono ?_
      rintro e wc1 ⟨rfl, bc1⟩
      have VSc1 := (show Hid _ from VSz.out.step bc1)
      have VRc1 := (show Hid _ from VRz.out.step bc1)
      have BBc1 := (show Hid _ from BBz.out.trans (bc1.mono BBz.out.size))
      have SSc1 := (show Hid (_ ∧ _ ∧ _ ∧ _) from ⟨(bc1.cell (p := ⟨pb, po + k, none⟩) SSz.out.2.2.1).trans SSz.out.1, (bc1.cell (p := ⟨tb, 1, none⟩) SSz.out.2.2.2).trans SSz.out.2.1, Nat.lt_of_lt_of_le SSz.out.2.2.1 bc1.size, Nat.lt_of_lt_of_le SSz.out.2.2.2 bc1.size⟩)
      clear bc1
      go_wp2_with fail
      refine hK.out _ _ SSc1.out (fun hHeld => ?_)
      try simp only [Act.put, List.setIfInBounds_toArray, List.set_cons_zero, List.set_cons_succ]
      clear hK K hHeld
      refine wpAnyH_ready (rs := [8]) (by kernel_rfl) (by simp) ?_
      refine AllReadyH.cons (by exact rfl) (fun K hK => ?_) AllReadyH.nil
      go_simp
      refine (atimes_ok P y _ (in_small (by have := HP.out; omega) (by have := HP.out; omega)) (by have := HP.out; omega) (by have := HP.out; omega) (in_small (by have := HP.out; omega) (by have := HP.out; omega))).mono ?_
      rintro e wc2 ⟨rfl, bc2⟩
      have VSc2 := (show Hid _ from VSc1.out.step bc2)
      have VRc2 := (show Hid _ from VRc1.out.step bc2)
      have BBc2 := (show Hid _ from BBc1.out.trans (bc2.mono BBc1.out.size))
      have SSc2 := (show Hid (_ ∧ _ ∧ _ ∧ _) from ⟨(bc2.cell (p := ⟨pb, po + k, none⟩) SSc1.out.2.2.1).trans SSc1.out.1, (bc2.cell (p := ⟨tb, 1, none⟩) SSc1.out.2.2.2).trans SSc1.out.2.1, Nat.lt_of_lt_of_le SSc1.out.2.2.1 bc2.size, Nat.lt_of_lt_of_le SSc1.out.2.2.2 bc2.size⟩)
      clear bc2
      go_wp2_with fail
      refine hK.out _ _ SSc2.out (fun hHeld => ?_)
      try simp only [Act.put, List.setIfInBounds_toArray, List.set_cons_zero, List.set_cons_succ]
      clear hK K hHeld
      refine wpAnyH_ready (rs := [9]) (by kernel_rfl) (by simp) ?_
      refine AllReadyH.cons (by exact rfl) (fun K hK => ?_) AllReadyH.nil
      go_simp
      refine (add_int Y (P * y) _ (in_small (by have := HP.out; omega) (by have := HP.out; omega)) (in_small (by have := HP.out; omega) (by have := HP.out; omega)) (in_small (by have := HP.out; omega) (by have := HP.out; omega))).mono ?_
      rintro e wc3 ⟨rfl, bc3⟩
      have VSc3 := (show Hid _ from VSc2.out.step bc3)
      have VRc3 := (show Hid _ from VRc2.out.step bc3)
      have BBc3 := (show Hid _ from BBc2.out.trans (bc3.mono BBc2.out.size))
      have SSc3 := (show Hid (_ ∧ _ ∧ _ ∧ _) from ⟨(bc3.cell (p := ⟨pb, po + k, none⟩) SSc2.out.2.2.1).trans SSc2.out.1, (bc3.cell (p := ⟨tb, 1, none⟩) SSc2.out.2.2.2).trans SSc2.out.2.1, Nat.lt_of_lt_of_le SSc2.out.2.2.1 bc3.size, Nat.lt_of_lt_of_le SSc2.out.2.2.2 bc3.size⟩)
      clear bc3
      go_wp2_with fail
      refine hK.out _ _ SSc3.out (fun hHeld => ?_)
      try simp only [Act.put, List.setIfInBounds_toArray, List.set_cons_zero, List.set_cons_succ]
      clear hK K hHeld
      have hHeld := SSc3.out
      refine takeD 10 16 (.tuple #[.agg (dcl (Y + P * y)).toArray, .int .i64 0]) (by exact rfl) rfl (by kernel_rfl) (by kernel_rfl) (by kernel_rfl) (fun _ _ _ h => h) (Or.inl ⟨by rfl, ?_⟩) (by assumption) ?_
      · intro wq hS
        go_simp
      simp only [Act.put, List.setIfInBounds_toArray, List.set_cons_zero, List.set_cons_succ]
      refine takeD 11 27 (.agg (dcl (Y + P * y)).toArray) (by exact rfl) rfl (by kernel_rfl) (by kernel_rfl) (by kernel_rfl) (fun _ _ _ h => h) (Or.inl ⟨by rfl, ?_⟩) (by assumption) ?_
      · intro wq hS
        go_simp
      simp only [Act.put, List.setIfInBounds_toArray, List.set_cons_zero, List.set_cons_succ]
      refine takeD 12 28 (.int .i64 0) (by exact rfl) rfl (by kernel_rfl) (by kernel_rfl) (by kernel_rfl) (fun _ _ _ h => h) (Or.inl ⟨by rfl, ?_⟩) (by assumption) ?_
      · intro wq hS
        go_simp
      simp only [Act.put, List.setIfInBounds_toArray, List.set_cons_zero, List.set_cons_succ]
      refine wpAnyH_ready (rs := [13]) (by kernel_rfl) (by simp) ?_
      refine AllReadyH.cons (by exact rfl) (fun K hK => ?_) AllReadyH.nil
      refine stAw (by rfl) 56 _ _ (by rfl) w1.heap.size (by rfl) (dcl Y) (dcl (Y + P * y)) (by rfl) 56 VSc3.out infoD rfl (dcl_one _) ?_
      intro w9 v9 u9
      refine hK.out _ _ ⟨(cell_upd u9 (Nat.ne_of_lt HNE.out.1)).trans SSc3.out.1, (cell_upd u9 (Nat.ne_of_gt HNE.out.2.1)).trans SSc3.out.2.1, by rw [u9.size]; exact SSc3.out.2.2.1, by rw [u9.size]; exact SSc3.out.2.2.2⟩ (fun hHeld => ?_)
      clear hK K hHeld
      try simp only [Act.put, List.setIfInBounds_toArray]
      refine wpAnyH_done (by kernel_rfl) ?_ _
      refine NoPanic.normal ?_
      have V9 := (show Hid _ from v9)
      have R9 := (show Hid _ from VRc3.out.upd u9 (Nat.ne_of_lt HNE.out.2.2.1))
      have B9 := (show Hid _ from u9.bel BBc3.out (Nat.le_of_lt HNE.out.2.2.1))
      clear v9 u9
      go_wp2_with fail
      exact ⟨⟨k + 1, by omega, by simp, by rw [← HE.out]; exact V9, R9, B9⟩, by simp [intOf]; omega⟩
    · go_simp
      refine (whole_ok P _ (by have := HP.out; omega) (by have := HP.out; omega)).mono ?_
      rintro e wc4 ⟨rfl, bc4⟩
      have VSc4 := (show Hid _ from VSz.out.step bc4)
      have VRc4 := (show Hid _ from VRz.out.step bc4)
      have BBc4 := (show Hid _ from BBz.out.trans (bc4.mono BBz.out.size))
      have SSc4 := (show Hid (_ ∧ _ ∧ _ ∧ _) from ⟨(bc4.cell (p := ⟨pb, po + k, none⟩) SSz.out.2.2.1).trans SSz.out.1, (bc4.cell (p := ⟨tb, 1, none⟩) SSz.out.2.2.2).trans SSz.out.2.1, Nat.lt_of_lt_of_le SSz.out.2.2.1 bc4.size, Nat.lt_of_lt_of_le SSz.out.2.2.2 bc4.size⟩)
      clear bc4
      go_wp2_with fail
      refine hK.out _ _ SSc4.out (fun hHeld => ?_)
      try simp only [Act.put, List.setIfInBounds_toArray, List.set_cons_zero, List.set_cons_succ]
      clear hK K hHeld
      refine wpAnyH_ready (rs := [0, 8]) (by kernel_rfl) (by simp) ?_
      refine AllReadyH.cons (by exact rfl) (fun K hK => ?_) (AllReadyH.cons (by exact rfl) (fun K hK => ?_) AllReadyH.nil)
      · have q0 := VSc4.out.cell 0 (v := .int .i64 (dhi Y)) rfl
        have q1 := VSc4.out.cell 1 (v := .int .u64 (dlo Y)) rfl
        have q2 := VSc4.out.cell 2 (v := .int .i64 0) rfl
        have ql := VSc4.out.lt
        go_simp
        refine hK.out _ _ SSc4.out (fun hHeld => ?_)
        try simp only [Act.put, List.setIfInBounds_toArray, List.set_cons_zero, List.set_cons_succ]
        clear hK K hHeld q0 q1 q2 ql
        refine wpAnyH_ready (rs := [8]) (by kernel_rfl) (by simp) ?_
        refine AllReadyH.cons (by exact rfl) (fun K hK => ?_) AllReadyH.nil
        go_simp
        refine (atimes_ok P y _ (in_small (by have := HP.out; omega) (by have := HP.out; omega)) (by have := HP.out; omega) (by have := HP.out; omega) (in_small (by have := HP.out; omega) (by have := HP.out; omega))).mono ?_
        rintro e wc5 ⟨rfl, bc5⟩
        have VSc5 := (show Hid _ from VSc4.out.step bc5)
        have VRc5 := (show Hid _ from VRc4.out.step bc5)
        have BBc5 := (show Hid _ from BBc4.out.trans (bc5.mono BBc4.out.size))
        have SSc5 := (show Hid (_ ∧ _ ∧ _ ∧ _) from ⟨(bc5.cell (p := ⟨pb, po + k, none⟩) SSc4.out.2.2.1).trans SSc4.out.1, (bc5.cell (p := ⟨tb, 1, none⟩) SSc4.out.2.2.2).trans SSc4.out.2.1, Nat.lt_of_lt_of_le SSc4.out.2.2.1 bc5.size, Nat.lt_of_lt_of_le SSc4.out.2.2.2 bc5.size⟩)
        clear bc5
        go_wp2_with fail
        refine hK.out _ _ SSc5.out (fun hHeld => ?_)
        try simp only [Act.put, List.setIfInBounds_toArray, List.set_cons_zero, List.set_cons_succ]
        clear hK K hHeld
        refine wpAnyH_ready (rs := [9]) (by kernel_rfl) (by simp) ?_
        refine AllReadyH.cons (by exact rfl) (fun K hK => ?_) AllReadyH.nil
        go_simp
        refine (add_int Y (P * y) _ (in_small (by have := HP.out; omega) (by have := HP.out; omega)) (in_small (by have := HP.out; omega) (by have := HP.out; omega)) (in_small (by have := HP.out; omega) (by have := HP.out; omega))).mono ?_
        rintro e wc6 ⟨rfl, bc6⟩
        have VSc6 := (show Hid _ from VSc5.out.step bc6)
        have VRc6 := (show Hid _ from VRc5.out.step bc6)
        have BBc6 := (show Hid _ from BBc5.out.trans (bc6.mono BBc5.out.size))
        have SSc6 := (show Hid (_ ∧ _ ∧ _ ∧ _) from ⟨(bc6.cell (p := ⟨pb, po + k, none⟩) SSc5.out.2.2.1).trans SSc5.out.1, (bc6.cell (p := ⟨tb, 1, none⟩) SSc5.out.2.2.2).trans SSc5.out.2.1, Nat.lt_of_lt_of_le SSc5.out.2.2.1 bc6.size, Nat.lt_of_lt_of_le SSc5.out.2.2.2 bc6.size⟩)
        clear bc6
        go_wp2_with fail
        refine hK.out _ _ SSc6.out (fun hHeld => ?_)
        try simp only [Act.put, List.setIfInBounds_toArray, List.set_cons_zero, List.set_cons_succ]
        clear hK K hHeld
        have hHeld := SSc6.out
        refine takeD 10 16 (.tuple #[.agg (dcl (Y + P * y)).toArray, .int .i64 0]) (by exact rfl) rfl (by kernel_rfl) (by kernel_rfl) (by kernel_rfl) (fun _ _ _ h => h) (Or.inl ⟨by rfl, ?_⟩) (by assumption) ?_
        · intro wq hS
          go_simp
        simp only [Act.put, List.setIfInBounds_toArray, List.set_cons_zero, List.set_cons_succ]
        refine takeD 11 27 (.agg (dcl (Y + P * y)).toArray) (by exact rfl) rfl (by kernel_rfl) (by kernel_rfl) (by kernel_rfl) (fun _ _ _ h => h) (Or.inl ⟨by rfl, ?_⟩) (by assumption) ?_
        · intro wq hS
          go_simp
        simp only [Act.put, List.setIfInBounds_toArray, List.set_cons_zero, List.set_cons_succ]
        refine takeD 12 28 (.int .i64 0) (by exact rfl) rfl (by kernel_rfl) (by kernel_rfl) (by kernel_rfl) (fun _ _ _ h => h) (Or.inl ⟨by rfl, ?_⟩) (by assumption) ?_
        · intro wq hS
          go_simp
        simp only [Act.put, List.setIfInBounds_toArray, List.set_cons_zero, List.set_cons_succ]
        refine wpAnyH_ready (rs := [13]) (by kernel_rfl) (by simp) ?_
        refine AllReadyH.cons (by exact rfl) (fun K hK => ?_) AllReadyH.nil
        refine stAw (by rfl) 56 _ _ (by rfl) w1.heap.size (by rfl) (dcl Y) (dcl (Y + P * y)) (by rfl) 56 VSc6.out infoD rfl (dcl_one _) ?_
        intro w9 v9 u9
        refine hK.out _ _ ⟨(cell_upd u9 (Nat.ne_of_lt HNE.out.1)).trans SSc6.out.1, (cell_upd u9 (Nat.ne_of_gt HNE.out.2.1)).trans SSc6.out.2.1, by rw [u9.size]; exact SSc6.out.2.2.1, by rw [u9.size]; exact SSc6.out.2.2.2⟩ (fun hHeld => ?_)
        clear hK K hHeld
        try simp only [Act.put, List.setIfInBounds_toArray]
        refine wpAnyH_done (by kernel_rfl) ?_ _
        refine NoPanic.normal ?_
        have V9 := (show Hid _ from v9)
        have R9 := (show Hid _ from VRc6.out.upd u9 (Nat.ne_of_lt HNE.out.2.2.1))
        have B9 := (show Hid _ from u9.bel BBc6.out (Nat.le_of_lt HNE.out.2.2.1))
        clear v9 u9
        go_wp2_with fail
        exact ⟨⟨k + 1, by omega, by simp, by rw [← HE.out]; exact V9, R9, B9⟩, by simp [intOf]; omega⟩
      · go_simp
        refine (atimes_ok P y _ (in_small (by have := HP.out; omega) (by have := HP.out; omega)) (by have := HP.out; omega) (by have := HP.out; omega) (in_small (by have := HP.out; omega) (by have := HP.out; omega))).mono ?_
        rintro e wc7 ⟨rfl, bc7⟩
        have VSc7 := (show Hid _ from VSc4.out.step bc7)
        have VRc7 := (show Hid _ from VRc4.out.step bc7)
        have BBc7 := (show Hid _ from BBc4.out.trans (bc7.mono BBc4.out.size))
        have SSc7 := (show Hid (_ ∧ _ ∧ _ ∧ _) from ⟨(bc7.cell (p := ⟨pb, po + k, none⟩) SSc4.out.2.2.1).trans SSc4.out.1, (bc7.cell (p := ⟨tb, 1, none⟩) SSc4.out.2.2.2).trans SSc4.out.2.1, Nat.lt_of_lt_of_le SSc4.out.2.2.1 bc7.size, Nat.lt_of_lt_of_le SSc4.out.2.2.2 bc7.size⟩)
        clear bc7
        go_wp2_with fail
        refine hK.out _ _ SSc7.out (fun hHeld => ?_)
        try simp only [Act.put, List.setIfInBounds_toArray, List.set_cons_zero, List.set_cons_succ]
        clear hK K hHeld
        refine wpAnyH_ready (rs := [0]) (by kernel_rfl) (by simp) ?_
        refine AllReadyH.cons (by exact rfl) (fun K hK => ?_) AllReadyH.nil
        have q0 := VSc7.out.cell 0 (v := .int .i64 (dhi Y)) rfl
        have q1 := VSc7.out.cell 1 (v := .int .u64 (dlo Y)) rfl
        have q2 := VSc7.out.cell 2 (v := .int .i64 0) rfl
        have ql := VSc7.out.lt
        go_simp
        refine hK.out _ _ SSc7.out (fun hHeld => ?_)
        try simp only [Act.put, List.setIfInBounds_toArray, List.set_cons_zero, List.set_cons_succ]
        clear hK K hHeld q0 q1 q2 ql
        refine wpAnyH_ready (rs := [9]) (by kernel_rfl) (by simp) ?_
        refine AllReadyH.cons (by exact rfl) (fun K hK => ?_) AllReadyH.nil
        go_simp
        refine (add_int Y (P * y) _ (in_small (by have := HP.out; omega) (by have := HP.out; omega)) (in_small (by have := HP.out; omega) (by have := HP.out; omega)) (in_small (by have := HP.out; omega) (by have := HP.out; omega))).mono ?_
        rintro e wc8 ⟨rfl, bc8⟩
        have VSc8 := (show Hid _ from VSc7.out.step bc8)
        have VRc8 := (show Hid _ from VRc7.out.step bc8)
        have BBc8 := (show Hid _ from BBc7.out.trans (bc8.mono BBc7.out.size))
        have SSc8 := (show Hid (_ ∧ _ ∧ _ ∧ _) from ⟨(bc8.cell (p := ⟨pb, po + k, none⟩) SSc7.out.2.2.1).trans SSc7.out.1, (bc8.cell (p := ⟨tb, 1, none⟩) SSc7.out.2.2.2).trans SSc7.out.2.1, Nat.lt_of_lt_of_le SSc7.out.2.2.1 bc8.size, Nat.lt_of_lt_of_le SSc7.out.2.2.2 bc8.size⟩)
        clear bc8
        go_wp2_with fail
        refine hK.out _ _ SSc8.out (fun hHeld => ?_)
        try simp only [Act.put, List.setIfInBounds_toArray, List.set_cons_zero, List.set_cons_succ]
        clear hK K hHeld
        have hHeld := SSc8.out
        refine takeD 10 16 (.tuple #[.agg (dcl (Y + P * y)).toArray, .int .i64 0]) (by exact rfl) rfl (by kernel_rfl) (by kernel_rfl) (by kernel_rfl) (fun _ _ _ h => h) (Or.inl ⟨by rfl, ?_⟩) (by assumption) ?_
        · intro wq hS
          go_simp
        simp only [Act.put, List.setIfInBounds_toArray, List.set_cons_zero, List.set_cons_succ]
        refine takeD 11 27 (.agg (dcl (Y + P * y)).toArray) (by exact rfl) rfl (by kernel_rfl) (by kernel_rfl) (by kernel_rfl) (fun _ _ _ h => h) (Or.inl ⟨by rfl, ?_⟩) (by assumption) ?_
        · intro wq hS
          go_simp
        simp only [Act.put, List.setIfInBounds_toArray, List.set_cons_zero, List.set_cons_succ]
        refine takeD 12 28 (.int .i64 0) (by exact rfl) rfl (by kernel_rfl) (by kernel_rfl) (by kernel_rfl) (fun _ _ _ h => h) (Or.inl ⟨by rfl, ?_⟩) (by assumption) ?_
        · intro wq hS
          go_simp
        simp only [Act.put, List.setIfInBounds_toArray, List.set_cons_zero, List.set_cons_succ]
        refine wpAnyH_ready (rs := [13]) (by kernel_rfl) (by simp) ?_
        refine AllReadyH.cons (by exact rfl) (fun K hK => ?_) AllReadyH.nil
        refine stAw (by rfl) 56 _ _ (by rfl) w1.heap.size (by rfl) (dcl Y) (dcl (Y + P * y)) (by rfl) 56 VSc8.out infoD rfl (dcl_one _) ?_
        intro w9 v9 u9
        refine hK.out _ _ ⟨(cell_upd u9 (Nat.ne_of_lt HNE.out.1)).trans SSc8.out.1, (cell_upd u9 (Nat.ne_of_gt HNE.out.2.1)).trans SSc8.out.2.1, by rw [u9.size]; exact SSc8.out.2.2.1, by rw [u9.size]; exact SSc8.out.2.2.2⟩ (fun hHeld => ?_)
        clear hK K hHeld
        try simp only [Act.put, List.setIfInBounds_toArray]
        refine wpAnyH_done (by kernel_rfl) ?_ _
        refine NoPanic.normal ?_
        have V9 := (show Hid _ from v9)
        have R9 := (show Hid _ from VRc8.out.upd u9 (Nat.ne_of_lt HNE.out.2.2.1))
        have B9 := (show Hid _ from u9.bel BBc8.out (Nat.le_of_lt HNE.out.2.2.1))
        clear v9 u9
        go_wp2_with fail
        exact ⟨⟨k + 1, by omega, by simp, by rw [← HE.out]; exact V9, R9, B9⟩, by simp [intOf]; omega⟩
end Go.Proofs.Ytmaikgebdegkgaa
/- accrue: the contracts of interest, Daily. -/
namespace Go.Proofs.Ytmaikgebdegkgaa
open Go.RowKit
set_option linter.unusedVariables false
attribute [local go_sem] ext_cell ext_frozen ext_drew ext_of_drew ext_of_drewN ext_setCell ext_lt ext_lt1 ext_lt2 ext_lt3 lt_n2 lt_n3 lt_n4 lt_n5 lt_n6

/-- the rounded quotient of whole numbers that are not below nought -/
def rq (N D : Int) (mode : Nat) : Nat := rquo false N.natAbs D.natAbs 0 mode
theorem rq_le (N D : Int) (mode : Nat) : rq N D mode ≤ N.natAbs + 1 := by
  have := rquo_le false N.natAbs D.natAbs 0 mode
  unfold rnum at this
  simp at this
  exact this
theorem quo_int (N D : Int) (mode : Nat) (w : World) (hN : 0 ≤ N) (hN2 : N ≤ 100000000000000000000000000000000000) (hD : 0 < D) (hD2 : D ≤ 1000000000000000000) (hm : (mode : Int) ≤ 6) :
    Calls Try.prog 33 #[.agg (dcl N).toArray, .agg (dcl D).toArray, .int .i64 0, .int .i64 mode] w
      fun e w' => e = .returned (.tuple #[.agg (dcl (rq N D mode)).toArray, .int .i64 0]) ∧ Below w.heap.size w w' := by
  have e : qv N 0 D 0 0 mode = (rq N D mode : Int) := by
    unfold qv rq sv
    rw [decide_eq_false (show ¬ N < 0 by omega), decide_eq_false (show ¬ D < 0 by omega), show ((0 : Nat) : Int) + ((0 : Nat) : Int) - ((0 : Nat) : Int) = 0 by omega]
    simp
  have b := rq_le N D mode
  have h := dquo_yes N D 0 0 0 mode w (in_small hN (by omega)) (in_small (by omega) (by omega)) (by decide) (by decide) (by decide) hm (by omega) (by rw [e]; exact in_small (by omega) (by omega))
  rw [e] at h
  exact h
theorem cut0_zero (c : Int) : cut0 c 0 = c := by
  unfold cut0
  rw [Nat.pow_zero, Nat.div_one, sv_abs]
theorem int_int (q : Int) (w : World) (h0 : 0 ≤ q) (h1 : q ≤ 9223372036854775807) :
    Calls Try.prog 36 #[.agg (dcl q).toArray] w fun e w' => e = .returned (.tuple #[.int .i64 q, .int .i64 0]) ∧ Below w.heap.size w w' := by
  have h := int_yes q 0 w (in_small h0 (by omega)) (by decide) (by rw [cut0_zero, tv_self]) (by rw [cut0_zero]; omega) (by rw [cut0_zero]; exact h1)
  rw [cut0_zero] at h
  exact h
theorem int_big (q : Int) (w : World) (h0 : 9223372036854775807 < q) (h1 : q ≤ 1000000000000000000000000000000000000) :
    Calls Try.prog 36 #[.agg (dcl q).toArray] w fun e w' => e = .returned (.tuple #[.int .i64 0, .int .i64 4]) ∧ Below w.heap.size w w' :=
  int_out q 0 w (in_small (by omega) h1) (by decide) (by rw [cut0_zero, tv_self]) (by rw [cut0_zero]; omega)
set_option maxHeartbeats 1000000 in
set_option maxRecDepth 100000 in
theorem interest_any (Y n d : Int) (mode : Nat) (w : World) (hY : 0 ≤ Y ∧ Y ≤ 80000000000000000000000) (hn : 0 ≤ n ∧ n ≤ 1500000000) (hd : 0 < d ∧ d ≤ 133590) (hm : (mode : Int) ≤ 6) :
    Calls Try.prog 21 #[.agg (dcl Y).toArray, .int .i64 n, .int .i64 d, .int .i64 mode] w
      fun e w' => (((rq (Y * n) (d * 1000) mode : Nat) : Int) ≤ 4000000000000000000 ∧ e = .returned (.tuple #[.int .i64 (rq (Y * n) (d * 1000) mode : Nat), .int .i64 0]) ∨ ¬ ((rq (Y * n) (d * 1000) mode : Nat) : Int) ≤ 4000000000000000000 ∧ e = .returned (.tuple #[.int .i64 0, .int .i64 4])) ∧ Below w.heap.size w w' := by
  have p0 : 0 ≤ Y * n := Int.mul_nonneg hY.1 hn.1
  have p1 : Y * n ≤ 80000000000000000000000 * 1500000000 := Int.mul_le_mul hY.2 hn.2 hn.1 (by omega)
  have bq := rq_le (Y * n) (d * 1000) mode
  have hq2 : ((rq (Y * n) (d * 1000) mode : Nat) : Int) ≤ 1000000000000000000000000000000000 := by omega
  have HQ2 := (show Hid _ from hq2)
  have HY := (show Hid _ from hY)
  have HN := (show Hid _ from hn)
  have HP := (show Hid _ from And.intro p0 p1)
  obtain ⟨d1, d2⟩ := hd
  clear hY hn bq hq2 p0 p1
  have V0 := (show Hid _ from va_new w (dcl Y) 56)
  have B0 := (show Hid _ from (Below.refl w.heap.size w).alloc (Nat.le_refl _) (.cells (dcl Y).toArray 56))
  go_enter Try.func21, Try.ntmps21
  go_wp2_with (refine ldA rfl 56 _ rfl w.heap.size (by rfl) (dcl Y) _ V0.out _ Try.underlying56 rfl infoD ?_)
  refine (atimes_ok Y n _ (in_small (by have := HY.out; omega) (by have := HY.out; omega)) (by have := HN.out; omega) (by have := HN.out; omega) (in_small HP.out.1 (by have := HP.out; omega))).mono ?_
  rintro e w1 ⟨rfl, b1⟩
  have B1 := (show Hid _ from B0.out.trans (b1.mono B0.out.size))
  clear b1 V0 B0
  go_wp2_with fail
  refine (whole_ok (d * 1000) _ (by omega) (by omega)).mono ?_
  rintro e w2 ⟨rfl, b2⟩
  have B2 := (show Hid _ from B1.out.trans (b2.mono B1.out.size))
  clear b2 B1
  go_wp2_with fail
  refine (quo_int (Y * n) (d * 1000) mode _ HP.out.1 (by have := HP.out; omega) (by omega) (by omega) hm).mono ?_
  rintro e w3 ⟨rfl, b3⟩
  have B3 := (show Hid _ from (B2.out.trans (b3.mono B2.out.size)).alloc (Nat.le_trans B2.out.size b3.size) (.cells zdl.toArray 56))
  have s3 := Nat.le_trans B2.out.size b3.size
  have V3 := (show Hid _ from va_new w3 zdl 56)
  clear b3 B2
  obtain ⟨q, hq⟩ : ∃ q, q = ((rq (Y * n) (d * 1000) mode : Nat) : Int) := ⟨_, rfl⟩
  have hq0 : 0 ≤ q := by omega
  have HQ : Hid (q = ((rq (Y * n) (d * 1000) mode : Nat) : Int)) := hq
  have hq2 : q ≤ 1000000000000000000000000000000000 := by rw [hq]; exact HQ2.out
  rw [← hq]
  clear hq HQ2
  have HQL := (show Hid _ from hq2)
  clear hq2
  go_wp2_with (first | (refine stA rfl 56 _ _ rfl w3.heap.size (by rfl) zdl (dcl q) (by rfl) 56 V3.out infoD rfl (dcl_one _) ?_; intro w4 va up; have V4 := (show Hid _ from va); have B4 := (show Hid _ from up.bel B3.out s3); clear va up) | (refine ldA rfl 56 _ rfl w3.heap.size (by rfl) (dcl q) _ V4.out _ Try.underlying56 rfl infoD ?_))
  by_cases h9 : q ≤ 9223372036854775807
  · refine (int_int q _ hq0 h9).mono ?_
    rintro e w5 ⟨rfl, b5⟩
    have B5 := (show Hid _ from B4.out.trans (b5.mono B4.out.size))
    clear b5 B4
    by_cases h4 : q ≤ 4000000000000000000
    · have d3 : decide (4000000000000000000 < q) = false := decide_eq_false (by omega)
      have H4 := (show Hid _ from h4)
      clear h4
      go_wp2_with fail
      refine bodyPost_ret (v := .tuple #[.int .i64 q, .int .i64 0]) (by simp [results, Try.results21, go_sem]) rfl ?_
      exact ⟨Or.inl ⟨by rw [← HQ.out]; exact H4.out, by rw [HQ.out]⟩, B5.out⟩
    · have d3 : decide (4000000000000000000 < q) = true := decide_eq_true (by omega)
      have H4 := (show Hid _ from h4)
      clear h4
      go_wp2_with fail
      refine bodyPost_ret (v := .tuple #[.int .i64 0, .int .i64 4]) (by simp [results, Try.results21, go_sem]) rfl ?_
      exact ⟨Or.inr ⟨by rw [← HQ.out]; have := Int.not_le.1 H4.out; omega, rfl⟩, B5.out⟩
  · have H4 : Hid (¬ q ≤ 4000000000000000000) := (by omega : ¬ q ≤ 4000000000000000000)
    refine (int_big q _ (by omega) (by have := HQL.out; omega)).mono ?_
    rintro e w5 ⟨rfl, b5⟩
    have B5 := (show Hid _ from B4.out.trans (b5.mono B4.out.size))
    clear b5 B4
    go_wp2_with fail
    refine bodyPost_ret (v := .tuple #[.int .i64 0, .int .i64 4]) (by simp [results, Try.results21, go_sem]) rfl ?_
    exact ⟨Or.inr ⟨by rw [← HQ.out]; exact H4.out, rfl⟩, B5.out⟩
theorem yearPart_ok (how f t n d r : Int) (hP : ∀ w, Calls Try.prog 32 #[.int .i64 how, .int .i64 f, .int .i64 t] w fun e w' => e = .returned (.tuple #[.int .i64 n, .int .i64 d, .int .i64 r]) ∧ w' = w) (w : World) :
    Calls Try.prog 19 #[.int .i64 how, .int .i64 f, .int .i64 t] w fun e w' => e = .returned (.tuple #[.int .i64 n, .int .i64 d, .int .i64 r]) ∧ w' = w := by
  have HP := (show Hid _ from hP)
  clear hP
  go_enter Try.func19, Try.ntmps19
  go_wp2_with fail
  refine (HP.out _).mono ?_
  rintro e w1 ⟨rfl, hw⟩
  obtain rfl := hw.symm
  go_wp2_with fail
  refine bodyPost_ret (v := .tuple #[.int .i64 n, .int .i64 d, .int .i64 r]) (by simp [results, Try.results19, go_sem]) rfl ?_
  exact ⟨rfl, rfl⟩
/-- the interest of right arguments -/
def dly (b : Int) (ts : List (Int × Int)) (n d : Int) (mode : Nat) : Int := ((rq (ysum b ts ts.length * n) (d * 1000) mode : Nat) : Int)
set_option maxRecDepth 100000 in
theorem Daily_ok (b : Int) (tv : Value) (ts : List (Int × Int)) (how f t n d : Int) (mode : Nat) (w : World) (h : Tr w tv ts) (hb : 0 ≤ b ∧ b ≤ 10000000000000) (ht : terr ts = 0) (hm : (mode : Int) ≤ 6)
    (hP : ∀ w, Calls Try.prog 32 #[.int .i64 how, .int .i64 f, .int .i64 t] w fun e w' => e = .returned (.tuple #[.int .i64 n, .int .i64 d, .int .i64 0]) ∧ w' = w) (hn : 0 ≤ n ∧ n ≤ 1500000000) (hd : 0 < d ∧ d ≤ 133590) :
    Calls Try.prog 10 #[.int .i64 b, tv, .int .i64 how, .int .i64 mode, .int .i64 f, .int .i64 t] w
      fun e w' => (dly b ts n d mode ≤ 4000000000000000000 ∧ e = .returned (.tuple #[.int .i64 (dly b ts n d mode), .int .i64 0]) ∨ ¬ dly b ts n d mode ≤ 4000000000000000000 ∧ e = .returned (.tuple #[.int .i64 0, .int .i64 4])) ∧ Below w.heap.size w w' := by
  have hmd : decide (0 ≤ (mode : Int) ∧ (mode : Int) ≤ 6) = true := decide_eq_true ⟨by omega, hm⟩
  have H := (show Hid _ from h)
  have HB := (show Hid _ from hb)
  have HT := (show Hid _ from ht)
  have HP := (show Hid _ from yearPart_ok how f t n d 0 hP)
  have HN := (show Hid _ from And.intro hn hd)
  have HM := (show Hid _ from hm)
  have ys := ysum_bd hb ht ts.length (Nat.le_refl _)
  have HYS : Hid (0 ≤ ysum b ts ts.length ∧ ysum b ts ts.length ≤ 80000000000000000000000) := by
    have := (terr_zero ht).1
    exact ⟨ys.1, by omega⟩
  have B0 := (show Hid _ from Below.refl w.heap.size w)
  clear h hb ht hP hn hd hm ys
  go_enter Try.func10, Try.ntmps10
  go_wp2_with fail
  refine (HP.out _).mono ?_
  rintro e w1 ⟨rfl, hw⟩
  obtain rfl := hw.symm
  go_wp2_with fail
  refine (isMode_ok mode _).mono ?_
  rintro e w1 ⟨rfl, hw⟩
  obtain rfl := hw.symm
  rw [hmd]
  go_wp2_with fail
  refine (Parts_ok b tv ts _ H.out HB.out HT.out).mono ?_
  rintro e w1 ⟨⟨v, rfl, ho⟩, b1⟩
  have O1 := (show Hid _ from ho.is)
  have B1 := (show Hid _ from b1)
  clear ho b1
  go_wp2_with fail
  refine (yearly_ok b v tv ts _ O1.out (H.out.step B1.out) HB.out HT.out).mono ?_
  rintro e w2 ⟨rfl, b2⟩
  have B2 := (show Hid _ from B1.out.trans (b2.mono B1.out.size))
  clear b2 B1 O1
  go_wp2_with fail
  refine (interest_any _ n d mode _ HYS.out HN.out.1 HN.out.2 HM.out).mono ?_
  rintro e w3 ⟨hh, b3⟩
  have B3 := (show Hid _ from B2.out.trans (b3.mono B2.out.size))
  clear b3 B2
  rcases hh with ⟨h4, rfl⟩ | ⟨h4, rfl⟩
  · have H4 := (show Hid _ from h4)
    clear h4
    go_wp2_with fail
    refine bodyPost_ret (v := .tuple #[.int .i64 ((rq (ysum b ts ts.length * n) (d * 1000) mode : Nat) : Int), .int .i64 0]) (by simp [results, Try.results10, go_sem]) rfl ?_
    exact ⟨Or.inl ⟨H4.out, rfl⟩, B3.out⟩
  · have H4 := (show Hid _ from h4)
    clear h4
    go_wp2_with fail
    refine bodyPost_ret (v := .tuple #[.int .i64 0, .int .i64 4]) (by simp [results, Try.results10, go_sem]) rfl ?_
    exact ⟨Or.inr ⟨by have := Int.not_le.1 H4.out; unfold dly; omega, rfl⟩, B3.out⟩
end Go.Proofs.Ytmaikgebdegkgaa
/- accrue: awake. -/
namespace Go.Proofs.Ytmaikgebdegkgaa
open Go.RowKit
set_option linter.unusedVariables false

/-- a slice literal of tiers -/
theorem tr_new (w : World) (ts : List (Int × Int)) (n : Nat) (hl : ts.length = n) (hn : n ≤ 1000) (wf : ∀ t ∈ ts, I64 t.1 ∧ I64 t.2) (T : TypeId) : Tr (w.alloc (.cells (tcs ts).toArray T)) (.slice (some ⟨w.heap.size, 0, none⟩) n n) ts := by
  subst hl
  refine ⟨wf, _, _, rfl, Nat.le_refl _, by omega, fun h0 => ⟨w.heap.size, 0, rfl, by simp, fun k hk => ?_⟩⟩
  have g := tcs_get ts k hk
  rw [Nat.zero_add]
  exact ⟨(va_new w (tcs ts) T).cell _ g.1, (va_new w (tcs ts) T).cell _ g.2⟩
def t1 : List (Int × Int) := [(0, 36500000)]
def t2 : List (Int × Int) := [(0, 5), (1000, 6)]
theorem daily_a : dly 1000000 t1 1 365 0 = 100000000 := by decide +kernel
theorem parts_a : prts 1500 t2 2 = [1000, 500] := by decide
set_option maxRecDepth 100000 in
theorem awake_ok (w : World) : Calls Try.prog 9 #[] w fun e w' => e = .returned (.bool true) ∧ Below w.heap.size w w' := by
  have T1 := (show Hid _ from tr_new w t1 1 rfl (by omega) (by intro t ht; simp [t1] at ht; subst ht; constructor <;> constructor <;> decide) 25)
  have B0 := (show Hid _ from (Below.refl w.heap.size w).alloc (Nat.le_refl _) (.cells (tcs t1).toArray 25))
  go_enter Try.func9, Try.ntmps9
  go_wp2_with fail
  refine (Daily_ok 1000000 _ t1 1 1000 1001 1 365 0 _ T1.out (by omega) (by decide) (by omega) (fun w => cb.Part_1 1000 1001 w (by omega) (by omega) (by omega)) (by omega) (by omega)).mono ?_
  rintro e w1 ⟨hh, b1⟩
  rw [daily_a] at hh
  obtain rfl : e = .returned (.tuple #[.int .i64 100000000, .int .i64 0]) := by
    rcases hh with ⟨_, h⟩ | ⟨h, _⟩
    · exact h
    · exact absurd (by omega) h
  have B1 := (show Hid _ from B0.out.trans (b1.mono B0.out.size))
  have T2 := (show Hid _ from tr_new w1 t2 2 rfl (by omega) (by intro t ht; simp [t2] at ht; rcases ht with rfl | rfl <;> (constructor <;> constructor <;> decide)) 25)
  have B2 := (show Hid _ from B1.out.alloc B1.out.size (.cells (tcs t2).toArray 25))
  clear hh b1 B0 B1 T1
  go_wp2_with fail
  refine (Parts_ok 1500 _ t2 _ T2.out (by omega) (by decide)).mono ?_
  rintro e w2 ⟨⟨v, rfl, ho⟩, b2⟩
  rw [show t2.length = 2 from rfl, parts_a] at ho
  have O2 := (show Hid _ from ho.is)
  have B3 := (show Hid _ from B2.out.trans (b2.mono B2.out.size))
  clear ho b2 B2 T2
  go_wp2_with fail
  have B4 := (show Hid _ from B3.out.alloc B3.out.size (.cells (ci [1000, 500]).toArray 2))
  refine (sameInts_ok v _ [1000, 500] _ (O2.out.step ((Below.refl _ _).alloc (Nat.le_refl _) _)) (is_new w2 [1000, 500] 2 rfl (by omega) 2)).mono ?_
  rintro e w3 ⟨rfl, b3⟩
  have B5 := (show Hid _ from B4.out.trans (b3.mono B4.out.size))
  clear b3 B3 B4 O2
  go_wp2_with fail
  go_ret
  exact ⟨rfl, B5.out⟩
end Go.Proofs.Ytmaikgebdegkgaa
/- accrue: the document's parts of a balance. -/
namespace Go.Proofs.Ytmaikgebdegkgaa
open Go.RowKit
set_option linter.unusedVariables false

set_option maxHeartbeats 1000000 in
set_option maxRecDepth 100000 in
theorem rparts_ok (b : Int) (tv : Value) (ts : List (Int × Int)) (w : World) (h : Tr w tv ts) (hb : 0 ≤ b ∧ b ≤ 10000000000000) (ht : terr ts = 0) :
    Calls Try.prog 31 #[.int .i64 b, tv] w fun e w' => (∃ v, e = .returned v ∧ OwnI w' w.heap.size v (prts b ts ts.length)) ∧ Below w.heap.size w w' := by
  obtain ⟨n, hn⟩ : ∃ n, n = ts.length := ⟨_, rfl⟩
  have H := (show Hid _ from h)
  obtain ⟨ta, tc, rfl, g1, g2⟩ : ∃ a c, tv = .slice a n c ∧ n ≤ c ∧ c ≤ 9223372036854775807 := by obtain ⟨_, a, c, e, h1, h2, _⟩ := h; exact ⟨a, c, by rw [hn]; exact e, by rw [hn]; exact h1, h2⟩
  have hz := terr_zero ht
  have h8 : n ≤ 8 := by omega
  have h1 : 1 ≤ n := by omega
  rw [← hn]
  have HN := (show Hid _ from hn)
  have HT := (show Hid _ from ht)
  have HBB := (show Hid _ from hb)
  obtain ⟨b1, b2⟩ := hb
  clear h hn hz ht
  go_enter Try.func31, Try.ntmps31
  go_wp2_with fail
  go_loopw [5, 11] (fun s i wr => ∃ k : Nat, k ≤ n ∧ i = .int .i64 k ∧ Hid (OwnI wr w.heap.size s (prts b ts k)) ∧ Hid (Below w.heap.size w wr)) (fun _ i _ => n - (intOf i).toNat)
  case atStart => exact ⟨0, by omega, rfl, ownI_nil _ _, Below.refl _ _⟩
  case round =>
    obtain ⟨k, hk, rfl, ho, hb⟩ := hrel
    by_cases hkn : k = n
    · subst hkn
      go_wp2_with fail
      go_ret
      exact ⟨⟨_, rfl, ho.out⟩, hb.out⟩
    have hk' : k < n := by omega
    have hlt : decide ((k : Int) < n) = true := decide_eq_true (by omega)
    obtain ⟨q, off, rfl, z1, z2⟩ := (H.out.step hb.out).cells k hk'
    have hq : q < wr.heap.size := by obtain ⟨_, _, e, hq, _⟩ := (H.out.step hb.out).at k hk'; cases e; exact hq
    have hf := tf_bd HT.out k (by have := HN.out; omega)
    have hpr := prt_bd HBB.out HT.out k (by have := HN.out; omega)
    obtain ⟨x, hx⟩ : ∃ x, x = tf ts k := ⟨_, rfl⟩
    obtain ⟨y, hy⟩ : ∃ y, y = tr ts k := ⟨_, rfl⟩
    rw [← hx] at z1 hf
    rw [← hy] at z2 hf
    have HX := (show Hid _ from hx)
    obtain ⟨x1, x2, _, _⟩ := hf
    by_cases hlast : k + 1 < n
    · obtain ⟨q', off', eq', z3, z4⟩ := (H.out.step hb.out).cells (k + 1) hlast
      cases eq'
      have hf2 := tf_bd HT.out (k + 1) (by have := HN.out; omega)
      have E : Hid (prt b ts k = max 0 (min b (tf ts (k + 1)) - x)) := by
        show prt b ts k = _
        unfold prt pend
        rw [if_pos (by have := HN.out; omega), hx]
      obtain ⟨u, hu⟩ : ∃ u, u = tf ts (k + 1) := ⟨_, rfl⟩
      rw [← hu] at z3 hf2 E
      obtain ⟨u1, u2, _, _⟩ := hf2
      have dl : decide ((k : Int) + 1 < n) = true := decide_eq_true (by omega)
      clear hx hy hu z4
      by_cases hmin : u < b
      · have e3 : min b u = u := by omega
        rw [e3] at E
        clear e3
        by_cases hm : u - x < 0
        · have em : Hid (prt b ts k = 0) := E.out.trans (by omega)
          go_wp2_with (at_builtin; refine appI1 rfl _ _ rfl w.heap.size (prts b ts k) _ (0) (by rfl) (by rw [World.size_alloc]; rfl) (ho.out.step ((Below.refl _ _).alloc (Nat.le_refl _) _)) (by have := hb.out.size; simp; omega) (by rw [prts_len]; omega) ?_; intro v' w3 ho1 hb1)
          have bb3 : Below w.heap.size w w3 := (hb.out.alloc hb.out.size _).trans hb1
          exact ⟨⟨k + 1, by omega, by simp, by rw [prts_succ, em.out]; exact ho1, bb3⟩, by simp [intOf]; omega⟩
        · have em : Hid (prt b ts k = u - x) := E.out.trans (by omega)
          go_wp2_with (at_builtin; refine appI1 rfl _ _ rfl w.heap.size (prts b ts k) _ ((u - x)) (by rfl) (by rw [World.size_alloc]; rfl) (ho.out.step ((Below.refl _ _).alloc (Nat.le_refl _) _)) (by have := hb.out.size; simp; omega) (by rw [prts_len]; omega) ?_; intro v' w3 ho1 hb1)
          have bb3 : Below w.heap.size w w3 := (hb.out.alloc hb.out.size _).trans hb1
          exact ⟨⟨k + 1, by omega, by simp, by rw [prts_succ, em.out]; exact ho1, bb3⟩, by simp [intOf]; omega⟩
      · have e3 : min b u = b := by omega
        rw [e3] at E
        clear e3
        by_cases hm : b - x < 0
        · have em : Hid (prt b ts k = 0) := E.out.trans (by omega)
          go_wp2_with (at_builtin; refine appI1 rfl _ _ rfl w.heap.size (prts b ts k) _ (0) (by rfl) (by rw [World.size_alloc]; rfl) (ho.out.step ((Below.refl _ _).alloc (Nat.le_refl _) _)) (by have := hb.out.size; simp; omega) (by rw [prts_len]; omega) ?_; intro v' w3 ho1 hb1)
          have bb3 : Below w.heap.size w w3 := (hb.out.alloc hb.out.size _).trans hb1
          exact ⟨⟨k + 1, by omega, by simp, by rw [prts_succ, em.out]; exact ho1, bb3⟩, by simp [intOf]; omega⟩
        · have em : Hid (prt b ts k = b - x) := E.out.trans (by omega)
          go_wp2_with (at_builtin; refine appI1 rfl _ _ rfl w.heap.size (prts b ts k) _ ((b - x)) (by rfl) (by rw [World.size_alloc]; rfl) (ho.out.step ((Below.refl _ _).alloc (Nat.le_refl _) _)) (by have := hb.out.size; simp; omega) (by rw [prts_len]; omega) ?_; intro v' w3 ho1 hb1)
          have bb3 : Below w.heap.size w w3 := (hb.out.alloc hb.out.size _).trans hb1
          exact ⟨⟨k + 1, by omega, by simp, by rw [prts_succ, em.out]; exact ho1, bb3⟩, by simp [intOf]; omega⟩
    · have E : Hid (prt b ts k = max 0 (b - x)) := by
        show prt b ts k = _
        unfold prt pend
        rw [if_neg (by have := HN.out; omega), hx]
      have dl : decide ((k : Int) + 1 < n) = false := decide_eq_false (by omega)
      clear hx hy
      by_cases hm : b - x < 0
      · have em : Hid (prt b ts k = 0) := E.out.trans (by omega)
        go_wp2_with (at_builtin; refine appI1 rfl _ _ rfl w.heap.size (prts b ts k) _ (0) (by rfl) (by rw [World.size_alloc]; rfl) (ho.out.step ((Below.refl _ _).alloc (Nat.le_refl _) _)) (by have := hb.out.size; simp; omega) (by rw [prts_len]; omega) ?_; intro v' w3 ho1 hb1)
        have bb3 : Below w.heap.size w w3 := (hb.out.alloc hb.out.size _).trans hb1
        exact ⟨⟨k + 1, by omega, by simp, by rw [prts_succ, em.out]; exact ho1, bb3⟩, by simp [intOf]; omega⟩
      · have em : Hid (prt b ts k = b - x) := E.out.trans (by omega)
        go_wp2_with (at_builtin; refine appI1 rfl _ _ rfl w.heap.size (prts b ts k) _ ((b - x)) (by rfl) (by rw [World.size_alloc]; rfl) (ho.out.step ((Below.refl _ _).alloc (Nat.le_refl _) _)) (by have := hb.out.size; simp; omega) (by rw [prts_len]; omega) ?_; intro v' w3 ho1 hb1)
        have bb3 : Below w.heap.size w w3 := (hb.out.alloc hb.out.size _).trans hb1
        exact ⟨⟨k + 1, by omega, by simp, by rw [prts_succ, em.out]; exact ho1, bb3⟩, by simp [intOf]; omega⟩
theorem amount_ok (n : Int) (w : World) : Calls Try.prog 24 #[.int .i64 n] w fun e w' => e = .returned (.bool (decide (0 ≤ n ∧ n ≤ 10000000000000))) ∧ w' = w := by
  by_cases h0 : 0 ≤ n
  · by_cases h1 : n ≤ 10000000000000
    · rw [show decide (0 ≤ n ∧ n ≤ 10000000000000) = true from decide_eq_true ⟨h0, h1⟩]
      go_enter Try.func24, Try.ntmps24
      go_wp2_with fail
      go_ret
      exact ⟨rfl, rfl⟩
    · rw [show decide (0 ≤ n ∧ n ≤ 10000000000000) = false from decide_eq_false (fun h => h1 h.2)]
      go_enter Try.func24, Try.ntmps24
      go_wp2_with fail
      go_ret
      exact ⟨rfl, rfl⟩
  · rw [show decide (0 ≤ n ∧ n ≤ 10000000000000) = false from decide_eq_false (fun h => h0 h.1)]
    go_enter Try.func24, Try.ntmps24
    go_wp2_with fail
    go_ret
    exact ⟨rfl, rfl⟩
/-- all tiers, any balance -/
theorem DocParts_ok (b : Int) (tv : Value) (ts : List (Int × Int)) (w : World) (h : Tr w tv ts) (hb : 0 ≤ b ∧ b ≤ 10000000000000) (ht : terr ts = 0) :
    Calls Try.prog 13 #[.int .i64 b, tv] w fun e w' => (∃ v, e = .returned (.tuple #[v, .int .i64 0]) ∧ OwnI w' w.heap.size v (prts b ts ts.length)) ∧ Below w.heap.size w w' := by
  have hd : decide (0 ≤ b ∧ b ≤ 10000000000000) = true := decide_eq_true hb
  have H := (show Hid _ from h)
  have HT := (show Hid _ from ht)
  have HBB := (show Hid _ from hb)
  clear h hb ht
  go_enter Try.func13, Try.ntmps13
  go_wp2_with fail
  refine (amount_ok b _).mono ?_
  rintro e w1 ⟨rfl, hw⟩
  obtain rfl := hw.symm
  rw [hd]
  go_wp2_with fail
  refine (rtiers_ok tv ts _ H.out).mono ?_
  rintro e w1 ⟨rfl, b1⟩
  rw [HT.out]
  have B1 := (show Hid _ from b1)
  clear b1
  go_wp2_with fail
  refine (rparts_ok b tv ts _ (H.out.step B1.out) HBB.out HT.out).mono ?_
  rintro e w2 ⟨⟨v, rfl, ho⟩, b2⟩
  have O2 := (show Hid _ from ho.lower B1.out.size)
  have B2 := (show Hid _ from B1.out.trans (b2.mono B1.out.size))
  clear ho b2
  go_wp2_with fail
  refine bodyPost_ret (v := .tuple #[v, .int .i64 0]) (by simp [results, Try.results13, go_sem]) rfl ?_
  exact ⟨⟨v, rfl, O2.out⟩, B2.out⟩
theorem DocParts_arg (b : Int) (tv : Value) (w : World) (hb : ¬ (0 ≤ b ∧ b ≤ 10000000000000)) :
    Calls Try.prog 13 #[.int .i64 b, tv] w fun e w' => e = .returned (.tuple #[.slice none 0 0, .int .i64 1]) ∧ Below w.heap.size w w' := by
  have hd : decide (0 ≤ b ∧ b ≤ 10000000000000) = false := decide_eq_false hb
  have B0 := (show Hid _ from Below.refl w.heap.size w)
  clear hb
  go_enter Try.func13, Try.ntmps13
  go_wp2_with fail
  refine (amount_ok b _).mono ?_
  rintro e w1 ⟨rfl, hw⟩
  obtain rfl := hw.symm
  rw [hd]
  go_wp2_with fail
  refine bodyPost_ret (v := .tuple #[.slice none 0 0, .int .i64 1]) (by simp [results, Try.results13, go_sem]) rfl ?_
  exact ⟨rfl, B0.out⟩
theorem DocParts_err (b : Int) (tv : Value) (ts : List (Int × Int)) (w : World) (h : Tr w tv ts) (hb : 0 ≤ b ∧ b ≤ 10000000000000) (ht : terr ts ≠ 0) :
    Calls Try.prog 13 #[.int .i64 b, tv] w fun e w' => e = .returned (.tuple #[.slice none 0 0, .int .i64 (terr ts)]) ∧ Below w.heap.size w w' := by
  have hd : decide (0 ≤ b ∧ b ≤ 10000000000000) = true := decide_eq_true hb
  have H := (show Hid _ from h)
  obtain ⟨r, hr⟩ : ∃ r, r = terr ts := ⟨_, rfl⟩
  rw [← hr] at ht ⊢
  have HT := (show Hid _ from hr)
  have e0 : (r == 0) = false := by simpa using ht
  clear h hb hr
  go_enter Try.func13, Try.ntmps13
  go_wp2_with fail
  refine (amount_ok b _).mono ?_
  rintro e w1 ⟨rfl, hw⟩
  obtain rfl := hw.symm
  rw [hd]
  go_wp2_with fail
  refine (rtiers_ok tv ts _ H.out).mono ?_
  rintro e w1 ⟨rfl, b1⟩
  rw [← HT.out]
  have B1 := (show Hid _ from b1)
  clear b1
  go_wp2_with fail
  refine bodyPost_ret (v := .tuple #[.slice none 0 0, .int .i64 r]) (by simp [results, Try.results13, go_sem]) rfl ?_
  exact ⟨rfl, B1.out⟩
end Go.Proofs.Ytmaikgebdegkgaa
/- accrue: Daily out of form; the document's DocDaily; both side by side. -/
namespace Go.Proofs.Ytmaikgebdegkgaa
open Go.RowKit
set_option linter.unusedVariables false
set_option maxRecDepth 100000

theorem Daily_arg (b how mode f t n d r : Int) (tv : Value) (w : World) (hP : ∀ w, Calls Try.prog 32 #[.int .i64 how, .int .i64 f, .int .i64 t] w fun e w' => e = .returned (.tuple #[.int .i64 n, .int .i64 d, .int .i64 r]) ∧ w' = w) (hr : r = 1) : Calls Try.prog 10 #[.int .i64 b, tv, .int .i64 how, .int .i64 mode, .int .i64 f, .int .i64 t] w fun e w' => e = .returned (.tuple #[.int .i64 0, .int .i64 1]) ∧ Below w.heap.size w w' := by
  subst hr
  have B0 := (show Hid _ from Below.refl w.heap.size w)
  have HP := (show Hid _ from yearPart_ok how f t n d 1 hP)
  clear hP
  go_enter Try.func10, Try.ntmps10
  go_wp2_with fail
  refine (HP.out _).mono ?_
  rintro e w1 ⟨rfl, hw⟩
  obtain rfl := hw.symm
  go_wp2_with fail
  refine bodyPost_ret (v := .tuple #[.int .i64 0, .int .i64 1]) (by simp [results, Try.results10, go_sem]) rfl ?_
  exact ⟨rfl, B0.out⟩
theorem Daily_mode (b how mode f t n d r : Int) (tv : Value) (w : World) (hP : ∀ w, Calls Try.prog 32 #[.int .i64 how, .int .i64 f, .int .i64 t] w fun e w' => e = .returned (.tuple #[.int .i64 n, .int .i64 d, .int .i64 r]) ∧ w' = w) (hr : r ≠ 1) (hm : ¬ (0 ≤ mode ∧ mode ≤ 6)) : Calls Try.prog 10 #[.int .i64 b, tv, .int .i64 how, .int .i64 mode, .int .i64 f, .int .i64 t] w fun e w' => e = .returned (.tuple #[.int .i64 0, .int .i64 1]) ∧ Below w.heap.size w w' := by
  have B0 := (show Hid _ from Below.refl w.heap.size w)
  have HP := (show Hid _ from yearPart_ok how f t n d r hP)
  clear hP
  have e1 : (r == 1) = false := by simpa using hr
  have dm : decide (0 ≤ mode ∧ mode ≤ 6) = false := decide_eq_false hm
  clear hm
  go_enter Try.func10, Try.ntmps10
  go_wp2_with fail
  refine (HP.out _).mono ?_
  rintro e w1 ⟨rfl, hw⟩
  obtain rfl := hw.symm
  go_wp2_with fail
  refine (isMode_ok mode _).mono ?_
  rintro e w1 ⟨rfl, hw⟩
  obtain rfl := hw.symm
  rw [dm]
  go_wp2_with fail
  refine bodyPost_ret (v := .tuple #[.int .i64 0, .int .i64 1]) (by simp [results, Try.results10, go_sem]) rfl ?_
  exact ⟨rfl, B0.out⟩
theorem Daily_parts (b how mode f t n d r c : Int) (tv : Value) (w : World) (hP : ∀ w, Calls Try.prog 32 #[.int .i64 how, .int .i64 f, .int .i64 t] w fun e w' => e = .returned (.tuple #[.int .i64 n, .int .i64 d, .int .i64 r]) ∧ w' = w) (hr : r ≠ 1) (hm : 0 ≤ mode ∧ mode ≤ 6) (hQ : ∀ w', Below w.heap.size w w' → Calls Try.prog 12 #[.int .i64 b, tv] w' fun e w2 => (∃ v, e = .returned (.tuple #[v, .int .i64 c])) ∧ Below w'.heap.size w' w2) (hc : c ≠ 0) : Calls Try.prog 10 #[.int .i64 b, tv, .int .i64 how, .int .i64 mode, .int .i64 f, .int .i64 t] w fun e w' => e = .returned (.tuple #[.int .i64 0, .int .i64 c]) ∧ Below w.heap.size w w' := by
  have e0 : (c == 0) = false := by simpa using hc
  have HQ := (show Hid _ from hQ)
  clear hQ
  have B0 := (show Hid _ from Below.refl w.heap.size w)
  have HP := (show Hid _ from yearPart_ok how f t n d r hP)
  clear hP
  have e1 : (r == 1) = false := by simpa using hr
  have dm : decide (0 ≤ mode ∧ mode ≤ 6) = true := decide_eq_true hm
  clear hm
  go_enter Try.func10, Try.ntmps10
  go_wp2_with fail
  refine (HP.out _).mono ?_
  rintro e w1 ⟨rfl, hw⟩
  obtain rfl := hw.symm
  go_wp2_with fail
  refine (isMode_ok mode _).mono ?_
  rintro e w1 ⟨rfl, hw⟩
  obtain rfl := hw.symm
  rw [dm]
  go_wp2_with fail
  refine (HQ.out _ B0.out).mono ?_
  rintro e w1 ⟨⟨v, rfl⟩, b1⟩
  have B1 := (show Hid _ from b1)
  clear b1
  go_wp2_with fail
  refine bodyPost_ret (v := .tuple #[.int .i64 0, .int .i64 c]) (by simp [results, Try.results10, go_sem]) rfl ?_
  exact ⟨rfl, B1.out⟩
theorem Daily_date (b how mode f t n d r : Int) (tv : Value) (w : World) (hP : ∀ w, Calls Try.prog 32 #[.int .i64 how, .int .i64 f, .int .i64 t] w fun e w' => e = .returned (.tuple #[.int .i64 n, .int .i64 d, .int .i64 r]) ∧ w' = w) (hr : r ≠ 1) (hr0 : r ≠ 0) (hm : 0 ≤ mode ∧ mode ≤ 6) (hQ : ∀ w', Below w.heap.size w w' → Calls Try.prog 12 #[.int .i64 b, tv] w' fun e w2 => (∃ v, e = .returned (.tuple #[v, .int .i64 0])) ∧ Below w'.heap.size w' w2) : Calls Try.prog 10 #[.int .i64 b, tv, .int .i64 how, .int .i64 mode, .int .i64 f, .int .i64 t] w fun e w' => e = .returned (.tuple #[.int .i64 0, .int .i64 r]) ∧ Below w.heap.size w w' := by
  have e0 : (r == 0) = false := by simpa using hr0
  have HQ := (show Hid _ from hQ)
  clear hQ
  have B0 := (show Hid _ from Below.refl w.heap.size w)
  have HP := (show Hid _ from yearPart_ok how f t n d r hP)
  clear hP
  have e1 : (r == 1) = false := by simpa using hr
  have dm : decide (0 ≤ mode ∧ mode ≤ 6) = true := decide_eq_true hm
  clear hm
  go_enter Try.func10, Try.ntmps10
  go_wp2_with fail
  refine (HP.out _).mono ?_
  rintro e w1 ⟨rfl, hw⟩
  obtain rfl := hw.symm
  go_wp2_with fail
  refine (isMode_ok mode _).mono ?_
  rintro e w1 ⟨rfl, hw⟩
  obtain rfl := hw.symm
  rw [dm]
  go_wp2_with fail
  refine (HQ.out _ B0.out).mono ?_
  rintro e w1 ⟨⟨v, rfl⟩, b1⟩
  have B1 := (show Hid _ from b1)
  clear b1
  go_wp2_with fail
  refine bodyPost_ret (v := .tuple #[.int .i64 0, .int .i64 r]) (by simp [results, Try.results10, go_sem]) rfl ?_
  exact ⟨rfl, B1.out⟩
theorem DocDaily_b0 (b how mode f t c : Int) (tv : Value) (ts : List (Int × Int)) (w : World) (h : Tr w tv ts) (hC : ∀ w, Calls Try.prog 23 #[.int .i64 how, .int .i64 f, .int .i64 t] w fun e w' => e = .returned (.int .i64 c) ∧ w' = w) (hb : ¬ (0 ≤ b ∧ b ≤ 10000000000000)) (ht : terr ts = 0) : Calls Try.prog 11 #[.int .i64 b, tv, .int .i64 how, .int .i64 mode, .int .i64 f, .int .i64 t] w fun e w' => e = .returned (.tuple #[.int .i64 0, .int .i64 1]) ∧ Below w.heap.size w w' := by
  have H := (show Hid _ from h)
  have HC := (show Hid _ from hC)
  have HT := (show Hid _ from ht)
  clear h hC ht
  have db : decide (0 ≤ b ∧ b ≤ 10000000000000) = false := decide_eq_false hb
  clear hb
  go_enter Try.func11, Try.ntmps11
  go_wp2_with fail
  refine (HC.out _).mono ?_
  rintro e w1 ⟨rfl, hw⟩
  obtain rfl := hw.symm
  go_wp2_with fail
  refine (amount_ok b _).mono ?_
  rintro e w1 ⟨rfl, hw⟩
  obtain rfl := hw.symm
  rw [db]
  go_wp2_with fail
  refine (rtiers_ok tv ts _ H.out).mono ?_
  rintro e w1 ⟨rfl, b1⟩
  rw [HT.out]
  have B1 := (show Hid _ from b1)
  clear b1
  go_wp2_with fail
  refine bodyPost_ret (v := .tuple #[.int .i64 0, .int .i64 1]) (by simp [results, Try.results11, go_sem]) rfl ?_
  exact ⟨rfl, B1.out⟩
theorem DocDaily_b2 (b how mode f t c : Int) (tv : Value) (ts : List (Int × Int)) (w : World) (h : Tr w tv ts) (hC : ∀ w, Calls Try.prog 23 #[.int .i64 how, .int .i64 f, .int .i64 t] w fun e w' => e = .returned (.int .i64 c) ∧ w' = w) (hb : ¬ (0 ≤ b ∧ b ≤ 10000000000000)) (ht : terr ts = 2) : Calls Try.prog 11 #[.int .i64 b, tv, .int .i64 how, .int .i64 mode, .int .i64 f, .int .i64 t] w fun e w' => e = .returned (.tuple #[.int .i64 0, .int .i64 1]) ∧ Below w.heap.size w w' := by
  have H := (show Hid _ from h)
  have HC := (show Hid _ from hC)
  have HT := (show Hid _ from ht)
  clear h hC ht
  have db : decide (0 ≤ b ∧ b ≤ 10000000000000) = false := decide_eq_false hb
  clear hb
  go_enter Try.func11, Try.ntmps11
  go_wp2_with fail
  refine (HC.out _).mono ?_
  rintro e w1 ⟨rfl, hw⟩
  obtain rfl := hw.symm
  go_wp2_with fail
  refine (amount_ok b _).mono ?_
  rintro e w1 ⟨rfl, hw⟩
  obtain rfl := hw.symm
  rw [db]
  go_wp2_with fail
  refine (rtiers_ok tv ts _ H.out).mono ?_
  rintro e w1 ⟨rfl, b1⟩
  rw [HT.out]
  have B1 := (show Hid _ from b1)
  clear b1
  go_wp2_with fail
  refine bodyPost_ret (v := .tuple #[.int .i64 0, .int .i64 1]) (by simp [results, Try.results11, go_sem]) rfl ?_
  exact ⟨rfl, B1.out⟩
theorem DocDaily_b3 (b how mode f t c : Int) (tv : Value) (ts : List (Int × Int)) (w : World) (h : Tr w tv ts) (hC : ∀ w, Calls Try.prog 23 #[.int .i64 how, .int .i64 f, .int .i64 t] w fun e w' => e = .returned (.int .i64 c) ∧ w' = w) (hb : ¬ (0 ≤ b ∧ b ≤ 10000000000000)) (ht : terr ts = 3) : Calls Try.prog 11 #[.int .i64 b, tv, .int .i64 how, .int .i64 mode, .int .i64 f, .int .i64 t] w fun e w' => e = .returned (.tuple #[.int .i64 0, .int .i64 1]) ∧ Below w.heap.size w w' := by
  have H := (show Hid _ from h)
  have HC := (show Hid _ from hC)
  have HT := (show Hid _ from ht)
  clear h hC ht
  have db : decide (0 ≤ b ∧ b ≤ 10000000000000) = false := decide_eq_false hb
  clear hb
  go_enter Try.func11, Try.ntmps11
  go_wp2_with fail
  refine (HC.out _).mono ?_
  rintro e w1 ⟨rfl, hw⟩
  obtain rfl := hw.symm
  go_wp2_with fail
  refine (amount_ok b _).mono ?_
  rintro e w1 ⟨rfl, hw⟩
  obtain rfl := hw.symm
  rw [db]
  go_wp2_with fail
  refine (rtiers_ok tv ts _ H.out).mono ?_
  rintro e w1 ⟨rfl, b1⟩
  rw [HT.out]
  have B1 := (show Hid _ from b1)
  clear b1
  go_wp2_with fail
  refine bodyPost_ret (v := .tuple #[.int .i64 0, .int .i64 1]) (by simp [results, Try.results11, go_sem]) rfl ?_
  exact ⟨rfl, B1.out⟩
theorem DocDaily_lo0 (b how mode f t c : Int) (tv : Value) (ts : List (Int × Int)) (w : World) (h : Tr w tv ts) (hC : ∀ w, Calls Try.prog 23 #[.int .i64 how, .int .i64 f, .int .i64 t] w fun e w' => e = .returned (.int .i64 c) ∧ w' = w) (hb : 0 ≤ b ∧ b ≤ 10000000000000) (hm : mode < 0) (ht : terr ts = 0) : Calls Try.prog 11 #[.int .i64 b, tv, .int .i64 how, .int .i64 mode, .int .i64 f, .int .i64 t] w fun e w' => e = .returned (.tuple #[.int .i64 0, .int .i64 1]) ∧ Below w.heap.size w w' := by
  have H := (show Hid _ from h)
  have HC := (show Hid _ from hC)
  have HT := (show Hid _ from ht)
  clear h hC ht
  have db : decide (0 ≤ b ∧ b ≤ 10000000000000) = true := decide_eq_true hb
  have l1 : decide (mode < 0) = true := decide_eq_true hm
  clear hb hm
  go_enter Try.func11, Try.ntmps11
  go_wp2_with fail
  refine (HC.out _).mono ?_
  rintro e w1 ⟨rfl, hw⟩
  obtain rfl := hw.symm
  go_wp2_with fail
  refine (amount_ok b _).mono ?_
  rintro e w1 ⟨rfl, hw⟩
  obtain rfl := hw.symm
  rw [db]
  go_wp2_with fail
  refine (rtiers_ok tv ts _ H.out).mono ?_
  rintro e w1 ⟨rfl, b1⟩
  rw [HT.out]
  have B1 := (show Hid _ from b1)
  clear b1
  go_wp2_with fail
  refine bodyPost_ret (v := .tuple #[.int .i64 0, .int .i64 1]) (by simp [results, Try.results11, go_sem]) rfl ?_
  exact ⟨rfl, B1.out⟩
theorem DocDaily_lo2 (b how mode f t c : Int) (tv : Value) (ts : List (Int × Int)) (w : World) (h : Tr w tv ts) (hC : ∀ w, Calls Try.prog 23 #[.int .i64 how, .int .i64 f, .int .i64 t] w fun e w' => e = .returned (.int .i64 c) ∧ w' = w) (hb : 0 ≤ b ∧ b ≤ 10000000000000) (hm : mode < 0) (ht : terr ts = 2) : Calls Try.prog 11 #[.int .i64 b, tv, .int .i64 how, .int .i64 mode, .int .i64 f, .int .i64 t] w fun e w' => e = .returned (.tuple #[.int .i64 0, .int .i64 1]) ∧ Below w.heap.size w w' := by
  have H := (show Hid _ from h)
  have HC := (show Hid _ from hC)
  have HT := (show Hid _ from ht)
  clear h hC ht
  have db : decide (0 ≤ b ∧ b ≤ 10000000000000) = true := decide_eq_true hb
  have l1 : decide (mode < 0) = true := decide_eq_true hm
  clear hb hm
  go_enter Try.func11, Try.ntmps11
  go_wp2_with fail
  refine (HC.out _).mono ?_
  rintro e w1 ⟨rfl, hw⟩
  obtain rfl := hw.symm
  go_wp2_with fail
  refine (amount_ok b _).mono ?_
  rintro e w1 ⟨rfl, hw⟩
  obtain rfl := hw.symm
  rw [db]
  go_wp2_with fail
  refine (rtiers_ok tv ts _ H.out).mono ?_
  rintro e w1 ⟨rfl, b1⟩
  rw [HT.out]
  have B1 := (show Hid _ from b1)
  clear b1
  go_wp2_with fail
  refine bodyPost_ret (v := .tuple #[.int .i64 0, .int .i64 1]) (by simp [results, Try.results11, go_sem]) rfl ?_
  exact ⟨rfl, B1.out⟩
theorem DocDaily_lo3 (b how mode f t c : Int) (tv : Value) (ts : List (Int × Int)) (w : World) (h : Tr w tv ts) (hC : ∀ w, Calls Try.prog 23 #[.int .i64 how, .int .i64 f, .int .i64 t] w fun e w' => e = .returned (.int .i64 c) ∧ w' = w) (hb : 0 ≤ b ∧ b ≤ 10000000000000) (hm : mode < 0) (ht : terr ts = 3) : Calls Try.prog 11 #[.int .i64 b, tv, .int .i64 how, .int .i64 mode, .int .i64 f, .int .i64 t] w fun e w' => e = .returned (.tuple #[.int .i64 0, .int .i64 1]) ∧ Below w.heap.size w w' := by
  have H := (show Hid _ from h)
  have HC := (show Hid _ from hC)
  have HT := (show Hid _ from ht)
  clear h hC ht
  have db : decide (0 ≤ b ∧ b ≤ 10000000000000) = true := decide_eq_true hb
  have l1 : decide (mode < 0) = true := decide_eq_true hm
  clear hb hm
  go_enter Try.func11, Try.ntmps11
  go_wp2_with fail
  refine (HC.out _).mono ?_
  rintro e w1 ⟨rfl, hw⟩
  obtain rfl := hw.symm
  go_wp2_with fail
  refine (amount_ok b _).mono ?_
  rintro e w1 ⟨rfl, hw⟩
  obtain rfl := hw.symm
  rw [db]
  go_wp2_with fail
  refine (rtiers_ok tv ts _ H.out).mono ?_
  rintro e w1 ⟨rfl, b1⟩
  rw [HT.out]
  have B1 := (show Hid _ from b1)
  clear b1
  go_wp2_with fail
  refine bodyPost_ret (v := .tuple #[.int .i64 0, .int .i64 1]) (by simp [results, Try.results11, go_sem]) rfl ?_
  exact ⟨rfl, B1.out⟩
theorem DocDaily_hi0 (b how mode f t c : Int) (tv : Value) (ts : List (Int × Int)) (w : World) (h : Tr w tv ts) (hC : ∀ w, Calls Try.prog 23 #[.int .i64 how, .int .i64 f, .int .i64 t] w fun e w' => e = .returned (.int .i64 c) ∧ w' = w) (hb : 0 ≤ b ∧ b ≤ 10000000000000) (hm : 6 < mode) (ht : terr ts = 0) : Calls Try.prog 11 #[.int .i64 b, tv, .int .i64 how, .int .i64 mode, .int .i64 f, .int .i64 t] w fun e w' => e = .returned (.tuple #[.int .i64 0, .int .i64 1]) ∧ Below w.heap.size w w' := by
  have H := (show Hid _ from h)
  have HC := (show Hid _ from hC)
  have HT := (show Hid _ from ht)
  clear h hC ht
  have db : decide (0 ≤ b ∧ b ≤ 10000000000000) = true := decide_eq_true hb
  have l1 : decide (mode < 0) = false := decide_eq_false (by omega)
  have l2 : decide (6 < mode) = true := decide_eq_true hm
  clear hb hm
  go_enter Try.func11, Try.ntmps11
  go_wp2_with fail
  refine (HC.out _).mono ?_
  rintro e w1 ⟨rfl, hw⟩
  obtain rfl := hw.symm
  go_wp2_with fail
  refine (amount_ok b _).mono ?_
  rintro e w1 ⟨rfl, hw⟩
  obtain rfl := hw.symm
  rw [db]
  go_wp2_with fail
  refine (rtiers_ok tv ts _ H.out).mono ?_
  rintro e w1 ⟨rfl, b1⟩
  rw [HT.out]
  have B1 := (show Hid _ from b1)
  clear b1
  go_wp2_with fail
  refine bodyPost_ret (v := .tuple #[.int .i64 0, .int .i64 1]) (by simp [results, Try.results11, go_sem]) rfl ?_
  exact ⟨rfl, B1.out⟩
theorem DocDaily_hi2 (b how mode f t c : Int) (tv : Value) (ts : List (Int × Int)) (w : World) (h : Tr w tv ts) (hC : ∀ w, Calls Try.prog 23 #[.int .i64 how, .int .i64 f, .int .i64 t] w fun e w' => e = .returned (.int .i64 c) ∧ w' = w) (hb : 0 ≤ b ∧ b ≤ 10000000000000) (hm : 6 < mode) (ht : terr ts = 2) : Calls Try.prog 11 #[.int .i64 b, tv, .int .i64 how, .int .i64 mode, .int .i64 f, .int .i64 t] w fun e w' => e = .returned (.tuple #[.int .i64 0, .int .i64 1]) ∧ Below w.heap.size w w' := by
  have H := (show Hid _ from h)
  have HC := (show Hid _ from hC)
  have HT := (show Hid _ from ht)
  clear h hC ht
  have db : decide (0 ≤ b ∧ b ≤ 10000000000000) = true := decide_eq_true hb
  have l1 : decide (mode < 0) = false := decide_eq_false (by omega)
  have l2 : decide (6 < mode) = true := decide_eq_true hm
  clear hb hm
  go_enter Try.func11, Try.ntmps11
  go_wp2_with fail
  refine (HC.out _).mono ?_
  rintro e w1 ⟨rfl, hw⟩
  obtain rfl := hw.symm
  go_wp2_with fail
  refine (amount_ok b _).mono ?_
  rintro e w1 ⟨rfl, hw⟩
  obtain rfl := hw.symm
  rw [db]
  go_wp2_with fail
  refine (rtiers_ok tv ts _ H.out).mono ?_
  rintro e w1 ⟨rfl, b1⟩
  rw [HT.out]
  have B1 := (show Hid _ from b1)
  clear b1
  go_wp2_with fail
  refine bodyPost_ret (v := .tuple #[.int .i64 0, .int .i64 1]) (by simp [results, Try.results11, go_sem]) rfl ?_
  exact ⟨rfl, B1.out⟩
theorem DocDaily_hi3 (b how mode f t c : Int) (tv : Value) (ts : List (Int × Int)) (w : World) (h : Tr w tv ts) (hC : ∀ w, Calls Try.prog 23 #[.int .i64 how, .int .i64 f, .int .i64 t] w fun e w' => e = .returned (.int .i64 c) ∧ w' = w) (hb : 0 ≤ b ∧ b ≤ 10000000000000) (hm : 6 < mode) (ht : terr ts = 3) : Calls Try.prog 11 #[.int .i64 b, tv, .int .i64 how, .int .i64 mode, .int .i64 f, .int .i64 t] w fun e w' => e = .returned (.tuple #[.int .i64 0, .int .i64 1]) ∧ Below w.heap.size w w' := by
  have H := (show Hid _ from h)
  have HC := (show Hid _ from hC)
  have HT := (show Hid _ from ht)
  clear h hC ht
  have db : decide (0 ≤ b ∧ b ≤ 10000000000000) = true := decide_eq_true hb
  have l1 : decide (mode < 0) = false := decide_eq_false (by omega)
  have l2 : decide (6 < mode) = true := decide_eq_true hm
  clear hb hm
  go_enter Try.func11, Try.ntmps11
  go_wp2_with fail
  refine (HC.out _).mono ?_
  rintro e w1 ⟨rfl, hw⟩
  obtain rfl := hw.symm
  go_wp2_with fail
  refine (amount_ok b _).mono ?_
  rintro e w1 ⟨rfl, hw⟩
  obtain rfl := hw.symm
  rw [db]
  go_wp2_with fail
  refine (rtiers_ok tv ts _ H.out).mono ?_
  rintro e w1 ⟨rfl, b1⟩
  rw [HT.out]
  have B1 := (show Hid _ from b1)
  clear b1
  go_wp2_with fail
  refine bodyPost_ret (v := .tuple #[.int .i64 0, .int .i64 1]) (by simp [results, Try.results11, go_sem]) rfl ?_
  exact ⟨rfl, B1.out⟩
theorem DocDaily_02 (b how mode f t : Int) (tv : Value) (ts : List (Int × Int)) (w : World) (h : Tr w tv ts) (hC : ∀ w, Calls Try.prog 23 #[.int .i64 how, .int .i64 f, .int .i64 t] w fun e w' => e = .returned (.int .i64 0) ∧ w' = w) (hb : 0 ≤ b ∧ b ≤ 10000000000000) (hm : 0 ≤ mode ∧ mode ≤ 6) (ht : terr ts = 2) : Calls Try.prog 11 #[.int .i64 b, tv, .int .i64 how, .int .i64 mode, .int .i64 f, .int .i64 t] w fun e w' => e = .returned (.tuple #[.int .i64 0, .int .i64 2]) ∧ Below w.heap.size w w' := by
  have H := (show Hid _ from h)
  have HC := (show Hid _ from hC)
  have HT := (show Hid _ from ht)
  clear h hC ht
  have db : decide (0 ≤ b ∧ b ≤ 10000000000000) = true := decide_eq_true hb
  have l1 : decide (mode < 0) = false := decide_eq_false (by omega)
  have l2 : decide (6 < mode) = false := decide_eq_false (by omega)
  clear hb hm
  go_enter Try.func11, Try.ntmps11
  go_wp2_with fail
  refine (HC.out _).mono ?_
  rintro e w1 ⟨rfl, hw⟩
  obtain rfl := hw.symm
  go_wp2_with fail
  refine (amount_ok b _).mono ?_
  rintro e w1 ⟨rfl, hw⟩
  obtain rfl := hw.symm
  rw [db]
  go_wp2_with fail
  refine (rtiers_ok tv ts _ H.out).mono ?_
  rintro e w1 ⟨rfl, b1⟩
  rw [HT.out]
  have B1 := (show Hid _ from b1)
  clear b1
  go_wp2_with fail
  refine bodyPost_ret (v := .tuple #[.int .i64 0, .int .i64 2]) (by simp [results, Try.results11, go_sem]) rfl ?_
  exact ⟨rfl, B1.out⟩
theorem DocDaily_03 (b how mode f t : Int) (tv : Value) (ts : List (Int × Int)) (w : World) (h : Tr w tv ts) (hC : ∀ w, Calls Try.prog 23 #[.int .i64 how, .int .i64 f, .int .i64 t] w fun e w' => e = .returned (.int .i64 0) ∧ w' = w) (hb : 0 ≤ b ∧ b ≤ 10000000000000) (hm : 0 ≤ mode ∧ mode ≤ 6) (ht : terr ts = 3) : Calls Try.prog 11 #[.int .i64 b, tv, .int .i64 how, .int .i64 mode, .int .i64 f, .int .i64 t] w fun e w' => e = .returned (.tuple #[.int .i64 0, .int .i64 3]) ∧ Below w.heap.size w w' := by
  have H := (show Hid _ from h)
  have HC := (show Hid _ from hC)
  have HT := (show Hid _ from ht)
  clear h hC ht
  have db : decide (0 ≤ b ∧ b ≤ 10000000000000) = true := decide_eq_true hb
  have l1 : decide (mode < 0) = false := decide_eq_false (by omega)
  have l2 : decide (6 < mode) = false := decide_eq_false (by omega)
  clear hb hm
  go_enter Try.func11, Try.ntmps11
  go_wp2_with fail
  refine (HC.out _).mono ?_
  rintro e w1 ⟨rfl, hw⟩
  obtain rfl := hw.symm
  go_wp2_with fail
  refine (amount_ok b _).mono ?_
  rintro e w1 ⟨rfl, hw⟩
  obtain rfl := hw.symm
  rw [db]
  go_wp2_with fail
  refine (rtiers_ok tv ts _ H.out).mono ?_
  rintro e w1 ⟨rfl, b1⟩
  rw [HT.out]
  have B1 := (show Hid _ from b1)
  clear b1
  go_wp2_with fail
  refine bodyPost_ret (v := .tuple #[.int .i64 0, .int .i64 3]) (by simp [results, Try.results11, go_sem]) rfl ?_
  exact ⟨rfl, B1.out⟩
theorem DocDaily_10 (b how mode f t : Int) (tv : Value) (ts : List (Int × Int)) (w : World) (h : Tr w tv ts) (hC : ∀ w, Calls Try.prog 23 #[.int .i64 how, .int .i64 f, .int .i64 t] w fun e w' => e = .returned (.int .i64 1) ∧ w' = w) (hb : 0 ≤ b ∧ b ≤ 10000000000000) (hm : 0 ≤ mode ∧ mode ≤ 6) (ht : terr ts = 0) : Calls Try.prog 11 #[.int .i64 b, tv, .int .i64 how, .int .i64 mode, .int .i64 f, .int .i64 t] w fun e w' => e = .returned (.tuple #[.int .i64 0, .int .i64 1]) ∧ Below w.heap.size w w' := by
  have H := (show Hid _ from h)
  have HC := (show Hid _ from hC)
  have HT := (show Hid _ from ht)
  clear h hC ht
  have db : decide (0 ≤ b ∧ b ≤ 10000000000000) = true := decide_eq_true hb
  have l1 : decide (mode < 0) = false := decide_eq_false (by omega)
  have l2 : decide (6 < mode) = false := decide_eq_false (by omega)
  clear hb hm
  go_enter Try.func11, Try.ntmps11
  go_wp2_with fail
  refine (HC.out _).mono ?_
  rintro e w1 ⟨rfl, hw⟩
  obtain rfl := hw.symm
  go_wp2_with fail
  refine (amount_ok b _).mono ?_
  rintro e w1 ⟨rfl, hw⟩
  obtain rfl := hw.symm
  rw [db]
  go_wp2_with fail
  refine (rtiers_ok tv ts _ H.out).mono ?_
  rintro e w1 ⟨rfl, b1⟩
  rw [HT.out]
  have B1 := (show Hid _ from b1)
  clear b1
  go_wp2_with fail
  refine bodyPost_ret (v := .tuple #[.int .i64 0, .int .i64 1]) (by simp [results, Try.results11, go_sem]) rfl ?_
  exact ⟨rfl, B1.out⟩
theorem DocDaily_12 (b how mode f t : Int) (tv : Value) (ts : List (Int × Int)) (w : World) (h : Tr w tv ts) (hC : ∀ w, Calls Try.prog 23 #[.int .i64 how, .int .i64 f, .int .i64 t] w fun e w' => e = .returned (.int .i64 1) ∧ w' = w) (hb : 0 ≤ b ∧ b ≤ 10000000000000) (hm : 0 ≤ mode ∧ mode ≤ 6) (ht : terr ts = 2) : Calls Try.prog 11 #[.int .i64 b, tv, .int .i64 how, .int .i64 mode, .int .i64 f, .int .i64 t] w fun e w' => e = .returned (.tuple #[.int .i64 0, .int .i64 1]) ∧ Below w.heap.size w w' := by
  have H := (show Hid _ from h)
  have HC := (show Hid _ from hC)
  have HT := (show Hid _ from ht)
  clear h hC ht
  have db : decide (0 ≤ b ∧ b ≤ 10000000000000) = true := decide_eq_true hb
  have l1 : decide (mode < 0) = false := decide_eq_false (by omega)
  have l2 : decide (6 < mode) = false := decide_eq_false (by omega)
  clear hb hm
  go_enter Try.func11, Try.ntmps11
  go_wp2_with fail
  refine (HC.out _).mono ?_
  rintro e w1 ⟨rfl, hw⟩
  obtain rfl := hw.symm
  go_wp2_with fail
  refine (amount_ok b _).mono ?_
  rintro e w1 ⟨rfl, hw⟩
  obtain rfl := hw.symm
  rw [db]
  go_wp2_with fail
  refine (rtiers_ok tv ts _ H.out).mono ?_
  rintro e w1 ⟨rfl, b1⟩
  rw [HT.out]
  have B1 := (show Hid _ from b1)
  clear b1
  go_wp2_with fail
  refine bodyPost_ret (v := .tuple #[.int .i64 0, .int .i64 1]) (by simp [results, Try.results11, go_sem]) rfl ?_
  exact ⟨rfl, B1.out⟩
theorem DocDaily_13 (b how mode f t : Int) (tv : Value) (ts : List (Int × Int)) (w : World) (h : Tr w tv ts) (hC : ∀ w, Calls Try.prog 23 #[.int .i64 how, .int .i64 f, .int .i64 t] w fun e w' => e = .returned (.int .i64 1) ∧ w' = w) (hb : 0 ≤ b ∧ b ≤ 10000000000000) (hm : 0 ≤ mode ∧ mode ≤ 6) (ht : terr ts = 3) : Calls Try.prog 11 #[.int .i64 b, tv, .int .i64 how, .int .i64 mode, .int .i64 f, .int .i64 t] w fun e w' => e = .returned (.tuple #[.int .i64 0, .int .i64 1]) ∧ Below w.heap.size w w' := by
  have H := (show Hid _ from h)
  have HC := (show Hid _ from hC)
  have HT := (show Hid _ from ht)
  clear h hC ht
  have db : decide (0 ≤ b ∧ b ≤ 10000000000000) = true := decide_eq_true hb
  have l1 : decide (mode < 0) = false := decide_eq_false (by omega)
  have l2 : decide (6 < mode) = false := decide_eq_false (by omega)
  clear hb hm
  go_enter Try.func11, Try.ntmps11
  go_wp2_with fail
  refine (HC.out _).mono ?_
  rintro e w1 ⟨rfl, hw⟩
  obtain rfl := hw.symm
  go_wp2_with fail
  refine (amount_ok b _).mono ?_
  rintro e w1 ⟨rfl, hw⟩
  obtain rfl := hw.symm
  rw [db]
  go_wp2_with fail
  refine (rtiers_ok tv ts _ H.out).mono ?_
  rintro e w1 ⟨rfl, b1⟩
  rw [HT.out]
  have B1 := (show Hid _ from b1)
  clear b1
  go_wp2_with fail
  refine bodyPost_ret (v := .tuple #[.int .i64 0, .int .i64 1]) (by simp [results, Try.results11, go_sem]) rfl ?_
  exact ⟨rfl, B1.out⟩
theorem DocDaily_90 (b how mode f t : Int) (tv : Value) (ts : List (Int × Int)) (w : World) (h : Tr w tv ts) (hC : ∀ w, Calls Try.prog 23 #[.int .i64 how, .int .i64 f, .int .i64 t] w fun e w' => e = .returned (.int .i64 9) ∧ w' = w) (hb : 0 ≤ b ∧ b ≤ 10000000000000) (hm : 0 ≤ mode ∧ mode ≤ 6) (ht : terr ts = 0) : Calls Try.prog 11 #[.int .i64 b, tv, .int .i64 how, .int .i64 mode, .int .i64 f, .int .i64 t] w fun e w' => e = .returned (.tuple #[.int .i64 0, .int .i64 9]) ∧ Below w.heap.size w w' := by
  have H := (show Hid _ from h)
  have HC := (show Hid _ from hC)
  have HT := (show Hid _ from ht)
  clear h hC ht
  have db : decide (0 ≤ b ∧ b ≤ 10000000000000) = true := decide_eq_true hb
  have l1 : decide (mode < 0) = false := decide_eq_false (by omega)
  have l2 : decide (6 < mode) = false := decide_eq_false (by omega)
  clear hb hm
  go_enter Try.func11, Try.ntmps11
  go_wp2_with fail
  refine (HC.out _).mono ?_
  rintro e w1 ⟨rfl, hw⟩
  obtain rfl := hw.symm
  go_wp2_with fail
  refine (amount_ok b _).mono ?_
  rintro e w1 ⟨rfl, hw⟩
  obtain rfl := hw.symm
  rw [db]
  go_wp2_with fail
  refine (rtiers_ok tv ts _ H.out).mono ?_
  rintro e w1 ⟨rfl, b1⟩
  rw [HT.out]
  have B1 := (show Hid _ from b1)
  clear b1
  go_wp2_with fail
  refine bodyPost_ret (v := .tuple #[.int .i64 0, .int .i64 9]) (by simp [results, Try.results11, go_sem]) rfl ?_
  exact ⟨rfl, B1.out⟩
theorem DocDaily_92 (b how mode f t : Int) (tv : Value) (ts : List (Int × Int)) (w : World) (h : Tr w tv ts) (hC : ∀ w, Calls Try.prog 23 #[.int .i64 how, .int .i64 f, .int .i64 t] w fun e w' => e = .returned (.int .i64 9) ∧ w' = w) (hb : 0 ≤ b ∧ b ≤ 10000000000000) (hm : 0 ≤ mode ∧ mode ≤ 6) (ht : terr ts = 2) : Calls Try.prog 11 #[.int .i64 b, tv, .int .i64 how, .int .i64 mode, .int .i64 f, .int .i64 t] w fun e w' => e = .returned (.tuple #[.int .i64 0, .int .i64 2]) ∧ Below w.heap.size w w' := by
  have H := (show Hid _ from h)
  have HC := (show Hid _ from hC)
  have HT := (show Hid _ from ht)
  clear h hC ht
  have db : decide (0 ≤ b ∧ b ≤ 10000000000000) = true := decide_eq_true hb
  have l1 : decide (mode < 0) = false := decide_eq_false (by omega)
  have l2 : decide (6 < mode) = false := decide_eq_false (by omega)
  clear hb hm
  go_enter Try.func11, Try.ntmps11
  go_wp2_with fail
  refine (HC.out _).mono ?_
  rintro e w1 ⟨rfl, hw⟩
  obtain rfl := hw.symm
  go_wp2_with fail
  refine (amount_ok b _).mono ?_
  rintro e w1 ⟨rfl, hw⟩
  obtain rfl := hw.symm
  rw [db]
  go_wp2_with fail
  refine (rtiers_ok tv ts _ H.out).mono ?_
  rintro e w1 ⟨rfl, b1⟩
  rw [HT.out]
  have B1 := (show Hid _ from b1)
  clear b1
  go_wp2_with fail
  refine bodyPost_ret (v := .tuple #[.int .i64 0, .int .i64 2]) (by simp [results, Try.results11, go_sem]) rfl ?_
  exact ⟨rfl, B1.out⟩
theorem DocDaily_93 (b how mode f t : Int) (tv : Value) (ts : List (Int × Int)) (w : World) (h : Tr w tv ts) (hC : ∀ w, Calls Try.prog 23 #[.int .i64 how, .int .i64 f, .int .i64 t] w fun e w' => e = .returned (.int .i64 9) ∧ w' = w) (hb : 0 ≤ b ∧ b ≤ 10000000000000) (hm : 0 ≤ mode ∧ mode ≤ 6) (ht : terr ts = 3) : Calls Try.prog 11 #[.int .i64 b, tv, .int .i64 how, .int .i64 mode, .int .i64 f, .int .i64 t] w fun e w' => e = .returned (.tuple #[.int .i64 0, .int .i64 3]) ∧ Below w.heap.size w w' := by
  have H := (show Hid _ from h)
  have HC := (show Hid _ from hC)
  have HT := (show Hid _ from ht)
  clear h hC ht
  have db : decide (0 ≤ b ∧ b ≤ 10000000000000) = true := decide_eq_true hb
  have l1 : decide (mode < 0) = false := decide_eq_false (by omega)
  have l2 : decide (6 < mode) = false := decide_eq_false (by omega)
  clear hb hm
  go_enter Try.func11, Try.ntmps11
  go_wp2_with fail
  refine (HC.out _).mono ?_
  rintro e w1 ⟨rfl, hw⟩
  obtain rfl := hw.symm
  go_wp2_with fail
  refine (amount_ok b _).mono ?_
  rintro e w1 ⟨rfl, hw⟩
  obtain rfl := hw.symm
  rw [db]
  go_wp2_with fail
  refine (rtiers_ok tv ts _ H.out).mono ?_
  rintro e w1 ⟨rfl, b1⟩
  rw [HT.out]
  have B1 := (show Hid _ from b1)
  clear b1
  go_wp2_with fail
  refine bodyPost_ret (v := .tuple #[.int .i64 0, .int .i64 3]) (by simp [results, Try.results11, go_sem]) rfl ?_
  exact ⟨rfl, B1.out⟩
end Go.Proofs.Ytmaikgebdegkgaa
