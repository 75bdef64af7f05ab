/- accrue: parts of a balance in tiers; the contracts of upTo, isMode, split, Parts. -/
import Derived.Test.YtmaikgebdegkgaaTa
namespace Go.Proofs.Ytmaikgebdegkgaa
open Go.RowKit
set_option linter.unusedVariables false

/-- where tier number i ends -/
def pend (b : Int) (ts : List (Int × Int)) (i : Nat) : Int := if i + 1 < ts.length then min b (tf ts (i + 1)) else b
def prt (b : Int) (ts : List (Int × Int)) (i : Nat) : Int := max 0 (pend b ts i - tf ts i)
def prts (b : Int) (ts : List (Int × Int)) (k : Nat) : List Int := (List.range k).map (prt b ts)
theorem prts_len (b : Int) (ts : List (Int × Int)) (k : Nat) : (prts b ts k).length = k := by simp [prts]
theorem prts_get (b : Int) (ts : List (Int × Int)) (m k : Nat) (h : k < m) : (prts b ts m).getD k 0 = prt b ts k := by simp [prts, h]
theorem prts_succ (b : Int) (ts : List (Int × Int)) (k : Nat) : prts b ts (k + 1) = prts b ts k ++ [prt b ts k] := by simp [prts, List.range_succ]
theorem prts_set (b : Int) (ts : List (Int × Int)) (m k : Nat) (h : k < m) : (prts b ts k ++ List.replicate (m - k) 0).set k (prt b ts k) = prts b ts (k + 1) ++ List.replicate (m - (k + 1)) 0 := by
  rw [List.set_append_right _ _ (by rw [prts_len]; omega), prts_len, Nat.sub_self, prts_succ, List.append_assoc]
  rw [show m - k = (m - (k + 1)) + 1 by omega, List.replicate_succ, List.set_cons_zero]
  rfl
/-- right tiers -/
theorem terr_zero {ts : List (Int × Int)} (h : terr ts = 0) : ts.length ≤ 8 ∧ 1 ≤ ts.length ∧ ∀ i, i < ts.length → gdb ts i = true := by
  unfold terr at h
  split at h
  · omega
  · split at h
    · omega
    · split at h
      · next h1 h2 h3 => exact ⟨by omega, by omega, fun i hi => List.all_eq_true.1 h3 i (List.mem_range.2 hi)⟩
      · omega
theorem gdb_out {ts : List (Int × Int)} {i : Nat} (h : gdb ts i = true) : (i = 0 → tf ts i = 0) ∧ (0 < i → tf ts (i - 1) < tf ts i) ∧ tf ts i ≤ 10000000000000 ∧ 0 ≤ tr ts i ∧ tr ts i ≤ 1000000000 := by
  unfold gdb at h
  exact of_decide_eq_true h
theorem tf_bd {ts : List (Int × Int)} (h : terr ts = 0) : ∀ i, i < ts.length → 0 ≤ tf ts i ∧ tf ts i ≤ 10000000000000 ∧ 0 ≤ tr ts i ∧ tr ts i ≤ 1000000000
  | 0, hi => by
    have g := gdb_out ((terr_zero h).2.2 0 hi)
    have := g.1 rfl
    exact ⟨by omega, g.2.2⟩
  | i + 1, hi => by
    have g := gdb_out ((terr_zero h).2.2 (i + 1) hi)
    have k := tf_bd h i (by omega)
    have := g.2.1 (by omega)
    rw [Nat.add_sub_cancel] at this
    exact ⟨by omega, g.2.2⟩
theorem prt_bd {b : Int} {ts : List (Int × Int)} (hb : 0 ≤ b ∧ b ≤ 10000000000000) (h : terr ts = 0) (i : Nat) (hi : i < ts.length) : 0 ≤ prt b ts i ∧ prt b ts i ≤ b := by
  have := tf_bd h i hi
  unfold prt pend
  split <;> omega
theorem upTo_ok (n g : Int) (w : World) : Calls Try.prog 28 #[.int .i64 n, .int .i64 g] w fun e w' => e = .returned (.bool (decide (0 ≤ n ∧ n ≤ g))) ∧ w' = w := by
  by_cases h0 : 0 ≤ n
  · by_cases h1 : n ≤ g
    · rw [show decide (0 ≤ n ∧ n ≤ g) = true from decide_eq_true ⟨h0, h1⟩]
      go_enter Try.func28, Try.ntmps28
      go_wp2_with fail
      go_ret
      exact ⟨rfl, rfl⟩
    · rw [show decide (0 ≤ n ∧ n ≤ g) = false from decide_eq_false (fun h => h1 h.2)]
      go_enter Try.func28, Try.ntmps28
      go_wp2_with fail
      go_ret
      exact ⟨rfl, rfl⟩
  · rw [show decide (0 ≤ n ∧ n ≤ g) = false from decide_eq_false (fun h => h0 h.1)]
    go_enter Try.func28, Try.ntmps28
    go_wp2_with fail
    go_ret
    exact ⟨rfl, rfl⟩
theorem isMode_ok (n : Int) (w : World) : Calls Try.prog 20 #[.int .i64 n] w fun e w' => e = .returned (.bool (decide (0 ≤ n ∧ n ≤ 6))) ∧ w' = w := by
  by_cases h0 : 0 ≤ n
  · by_cases h1 : n ≤ 6
    · rw [show decide (0 ≤ n ∧ n ≤ 6) = true from decide_eq_true ⟨h0, h1⟩]
      go_enter Try.func20, Try.ntmps20
      go_wp2_with fail
      go_ret
      exact ⟨rfl, rfl⟩
    · rw [show decide (0 ≤ n ∧ n ≤ 6) = false from decide_eq_false (fun h => h1 h.2)]
      go_enter Try.func20, Try.ntmps20
      go_wp2_with fail
      go_ret
      exact ⟨rfl, rfl⟩
  · rw [show decide (0 ≤ n ∧ n ≤ 6) = false from decide_eq_false (fun h => h0 h.1)]
    go_enter Try.func20, Try.ntmps20
    go_wp2_with fail
    go_ret
    exact ⟨rfl, rfl⟩
set_option maxHeartbeats 1000000 in
set_option maxRecDepth 100000 in
theorem split_ok (b : Int) (tv : Value) (ts : List (Int × Int)) (w : World) (h : Tr w tv ts) (hb : 0 ≤ b ∧ b ≤ 10000000000000) (ht : terr ts = 0) :
    Calls Try.prog 30 #[.int .i64 b, tv] w fun e w' => (∃ v, e = .returned v ∧ OwnI w' w.heap.size v (prts b ts ts.length)) ∧ Below w.heap.size w w' := by
  obtain ⟨n, hn⟩ : ∃ n, n = ts.length := ⟨_, rfl⟩
  have H := (show Hid _ from h)
  obtain ⟨ta, tc, rfl, g1, g2⟩ : ∃ a c, tv = .slice a n c ∧ n ≤ c ∧ c ≤ 9223372036854775807 := by obtain ⟨_, a, c, e, h1, h2, _⟩ := h; exact ⟨a, c, by rw [hn]; exact e, by rw [hn]; exact h1, h2⟩
  have hz := terr_zero ht
  have h8 : n ≤ 8 := by omega
  have h1 : 1 ≤ n := by omega
  rw [← hn]
  have HN := (show Hid _ from hn)
  have HT := (show Hid _ from ht)
  have HBB := (show Hid _ from hb)
  obtain ⟨b1, b2⟩ := hb
  clear h hn hz ht
  go_enter Try.func30, Try.ntmps30
  go_wp2_with (at_make; refine mkI rfl _ _ rfl n _ _ (by rfl) (by rfl) rfl rfl (by omega) ?_; intro w1 hown hbel; have HO := (show Hid _ from hown); have HB := (show Hid _ from hbel); clear hown hbel)
  go_loopw [14] (fun i wr => ∃ k : Nat, k ≤ n ∧ i = .int .i64 k ∧ Hid (OwnI wr w.heap.size (.slice (some ⟨w.heap.size, 0, none⟩) n n) (prts b ts k ++ List.replicate (n - k) 0)) ∧ Hid (Below w.heap.size w wr)) (fun i _ => n - (intOf i).toNat)
  case atStart => exact ⟨0, by omega, rfl, by simpa [prts] using HO, HB⟩
  case round =>
    obtain ⟨k, hk, rfl, ho, hb⟩ := hrel
    by_cases hkn : k = n
    · subst hkn
      go_wp2_with fail
      go_ret
      have := ho.out
      rw [Nat.sub_self, List.replicate_zero, List.append_nil] at this
      exact ⟨⟨_, rfl, this⟩, hb.out⟩
    have hk' : k < n := by omega
    have hlt : decide ((k : Int) < n) = true := decide_eq_true (by omega)
    obtain ⟨q, off, rfl, z1, z2⟩ := (H.out.step hb.out).cells k hk'
    have hq : q < wr.heap.size := by obtain ⟨_, _, e, hq, _⟩ := (H.out.step hb.out).at k hk'; cases e; exact hq
    have hf := tf_bd HT.out k (by have := HN.out; omega)
    have hgl := (ho.out.at k (by rw [List.length_append, prts_len, List.length_replicate]; omega))
    obtain ⟨g', eg, hgs, hcell⟩ := hgl
    cases eg
    have hfr := ho.out.free k
    have hpr := prt_bd HBB.out HT.out k (by have := HN.out; omega)
    obtain ⟨x, hx⟩ : ∃ x, x = tf ts k := ⟨_, rfl⟩
    obtain ⟨y, hy⟩ : ∃ y, y = tr ts k := ⟨_, rfl⟩
    rw [← hx] at z1 hf
    rw [← hy] at z2 hf
    have HX := (show Hid _ from hx)
    have e2 := (show Hid _ from prts_set b ts n k hk')
    obtain ⟨x1, x2, _, _⟩ := hf
    by_cases hlast : k + 1 < n
    · obtain ⟨q', off', eq', z3, z4⟩ := (H.out.step hb.out).cells (k + 1) hlast
      cases eq'
      have hf2 := tf_bd HT.out (k + 1) (by have := HN.out; omega)
      have E : Hid (prt b ts k = max 0 (min b (tf ts (k + 1)) - x)) := by
        show prt b ts k = _
        unfold prt pend
        rw [if_pos (by have := HN.out; omega), hx]
      obtain ⟨u, hu⟩ : ∃ u, u = tf ts (k + 1) := ⟨_, rfl⟩
      rw [← hu] at z3 hf2 E
      obtain ⟨u1, u2, _, _⟩ := hf2
      have dl : decide ((k : Int) + 1 < n) = true := decide_eq_true (by omega)
      clear hx hy hu z4
      by_cases hmin : u < b
      · have e3 : min b u = u := by omega
        rw [e3] at E
        clear e3
        by_cases hm : 0 < u - x
        · have em : Hid (prt b ts k = u - x) := E.out.trans (by omega)
          go_wp2_with fail
          refine ⟨⟨k + 1, by omega, by simp, ?_, ?_⟩, by simp [intOf]; omega⟩
          · rw [← e2.out, em.out]
            exact (ho.out.set k (u - x)).step ((Below.refl _ _).alloc (Nat.le_refl _) _)
          · exact (hb.out.setCell (Nat.le_refl _) _).alloc (by have := hb.out.size; simp; omega) _
        · have em : Hid (prt b ts k = 0) := E.out.trans (by omega)
          go_wp2_with fail
          refine ⟨⟨k + 1, by omega, by simp, ?_, ?_⟩, by simp [intOf]; omega⟩
          · rw [← e2.out, em.out]
            exact (ho.out.set k 0).step ((Below.refl _ _).alloc (Nat.le_refl _) _)
          · exact (hb.out.setCell (Nat.le_refl _) _).alloc (by have := hb.out.size; simp; omega) _
      · have e3 : min b u = b := by omega
        rw [e3] at E
        clear e3
        by_cases hm : 0 < b - x
        · have em : Hid (prt b ts k = b - x) := E.out.trans (by omega)
          go_wp2_with fail
          refine ⟨⟨k + 1, by omega, by simp, ?_, ?_⟩, by simp [intOf]; omega⟩
          · rw [← e2.out, em.out]
            exact (ho.out.set k (b - x)).step ((Below.refl _ _).alloc (Nat.le_refl _) _)
          · exact (hb.out.setCell (Nat.le_refl _) _).alloc (by have := hb.out.size; simp; omega) _
        · have em : Hid (prt b ts k = 0) := E.out.trans (by omega)
          go_wp2_with fail
          refine ⟨⟨k + 1, by omega, by simp, ?_, ?_⟩, by simp [intOf]; omega⟩
          · rw [← e2.out, em.out]
            exact (ho.out.set k 0).step ((Below.refl _ _).alloc (Nat.le_refl _) _)
          · exact (hb.out.setCell (Nat.le_refl _) _).alloc (by have := hb.out.size; simp; omega) _
    · have E : Hid (prt b ts k = max 0 (b - x)) := by
        show prt b ts k = _
        unfold prt pend
        rw [if_neg (by have := HN.out; omega), hx]
      have dl : decide ((k : Int) + 1 < n) = false := decide_eq_false (by omega)
      clear hx hy
      by_cases hm : 0 < b - x
      · have em : Hid (prt b ts k = b - x) := E.out.trans (by omega)
        go_wp2_with fail
        refine ⟨⟨k + 1, by omega, by simp, ?_, ?_⟩, by simp [intOf]; omega⟩
        · rw [← e2.out, em.out]
          exact (ho.out.set k (b - x)).step ((Below.refl _ _).alloc (Nat.le_refl _) _)
        · exact (hb.out.setCell (Nat.le_refl _) _).alloc (by have := hb.out.size; simp; omega) _
      · have em : Hid (prt b ts k = 0) := E.out.trans (by omega)
        go_wp2_with fail
        refine ⟨⟨k + 1, by omega, by simp, ?_, ?_⟩, by simp [intOf]; omega⟩
        · rw [← e2.out, em.out]
          exact (ho.out.set k 0).step ((Below.refl _ _).alloc (Nat.le_refl _) _)
        · exact (hb.out.setCell (Nat.le_refl _) _).alloc (by have := hb.out.size; simp; omega) _
/-- all tiers, any balance -/
theorem Parts_ok (b : Int) (tv : Value) (ts : List (Int × Int)) (w : World) (h : Tr w tv ts) (hb : 0 ≤ b ∧ b ≤ 10000000000000) (ht : terr ts = 0) :
    Calls Try.prog 12 #[.int .i64 b, tv] w fun e w' => (∃ v, e = .returned (.tuple #[v, .int .i64 0]) ∧ OwnI w' w.heap.size v (prts b ts ts.length)) ∧ Below w.heap.size w w' := by
  have hd : decide (0 ≤ b ∧ b ≤ 10000000000000) = true := decide_eq_true hb
  have H := (show Hid _ from h)
  have HT := (show Hid _ from ht)
  have HBB := (show Hid _ from hb)
  clear h hb ht
  go_enter Try.func12, Try.ntmps12
  go_wp2_with fail
  refine (upTo_ok b 10000000000000 _).mono ?_
  rintro e w1 ⟨rfl, hw⟩
  obtain rfl := hw.symm
  rw [hd]
  go_wp2_with fail
  refine (tiers_ok tv ts _ H.out).mono ?_
  rintro e w1 ⟨rfl, b1⟩
  rw [HT.out]
  have B1 := (show Hid _ from b1)
  clear b1
  go_wp2_with fail
  refine (split_ok b tv ts _ (H.out.step B1.out) HBB.out HT.out).mono ?_
  rintro e w2 ⟨⟨v, rfl, ho⟩, b2⟩
  have O2 := (show Hid _ from ho.lower B1.out.size)
  have B2 := (show Hid _ from B1.out.trans (b2.mono B1.out.size))
  clear ho b2
  go_wp2_with fail
  refine bodyPost_ret (v := .tuple #[v, .int .i64 0]) (by simp [results, Try.results12, go_sem]) rfl ?_
  exact ⟨⟨v, rfl, O2.out⟩, B2.out⟩
theorem Parts_arg (b : Int) (tv : Value) (w : World) (hb : ¬ (0 ≤ b ∧ b ≤ 10000000000000)) :
    Calls Try.prog 12 #[.int .i64 b, tv] w fun e w' => e = .returned (.tuple #[.slice none 0 0, .int .i64 1]) ∧ Below w.heap.size w w' := by
  have hd : decide (0 ≤ b ∧ b ≤ 10000000000000) = false := decide_eq_false hb
  have B0 := (show Hid _ from Below.refl w.heap.size w)
  clear hb
  go_enter Try.func12, Try.ntmps12
  go_wp2_with fail
  refine (upTo_ok b 10000000000000 _).mono ?_
  rintro e w1 ⟨rfl, hw⟩
  obtain rfl := hw.symm
  rw [hd]
  go_wp2_with fail
  refine bodyPost_ret (v := .tuple #[.slice none 0 0, .int .i64 1]) (by simp [results, Try.results12, go_sem]) rfl ?_
  exact ⟨rfl, B0.out⟩
theorem Parts_err (b : Int) (tv : Value) (ts : List (Int × Int)) (w : World) (h : Tr w tv ts) (hb : 0 ≤ b ∧ b ≤ 10000000000000) (ht : terr ts ≠ 0) :
    Calls Try.prog 12 #[.int .i64 b, tv] w fun e w' => e = .returned (.tuple #[.slice none 0 0, .int .i64 (terr ts)]) ∧ Below w.heap.size w w' := by
  have hd : decide (0 ≤ b ∧ b ≤ 10000000000000) = true := decide_eq_true hb
  have H := (show Hid _ from h)
  obtain ⟨r, hr⟩ : ∃ r, r = terr ts := ⟨_, rfl⟩
  rw [← hr] at ht ⊢
  have HT := (show Hid _ from hr)
  have e0 : (r == 0) = false := by simpa using ht
  clear h hb hr
  go_enter Try.func12, Try.ntmps12
  go_wp2_with fail
  refine (upTo_ok b 10000000000000 _).mono ?_
  rintro e w1 ⟨rfl, hw⟩
  obtain rfl := hw.symm
  rw [hd]
  go_wp2_with fail
  refine (tiers_ok tv ts _ H.out).mono ?_
  rintro e w1 ⟨rfl, b1⟩
  rw [← HT.out]
  have B1 := (show Hid _ from b1)
  clear b1
  go_wp2_with fail
  refine bodyPost_ret (v := .tuple #[.slice none 0 0, .int .i64 r]) (by simp [results, Try.results12, go_sem]) rfl ?_
  exact ⟨rfl, B1.out⟩
end Go.Proofs.Ytmaikgebdegkgaa
