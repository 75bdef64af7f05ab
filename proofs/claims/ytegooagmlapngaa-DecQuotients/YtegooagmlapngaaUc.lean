/- The document's long numbers: the contracts of Word, Fits, Compare, Size. -/
import Derived.Test.YtegooagmlapngaaUb
namespace Go.Proofs.Ytegooagmlapngaa
open Go.RowKit
set_option linter.unusedVariables false

theorem word_row (w : World) (m : Int) (h0 : 0 ≤ m) :
    Row (w.alloc (.cells #[.int .u64 (m % 4294967296), .int .u64 (m / 4294967296)] 22)) (.slice (some ⟨w.heap.size, 0, none⟩) 2 2) [m.toNat % 4294967296, m.toNat / 4294967296] := by
  refine ⟨by simp, _, _, rfl, by simp, fun _ => ⟨w.heap.size, 0, rfl, ⟨by simp, _, _, heap_alloc_new w _⟩, fun k hk => ?_⟩⟩
  have e0 : dg [m.toNat % 4294967296, m.toNat / 4294967296] 0 = m % 4294967296 := by simp [dg]; omega
  have e1 : dg [m.toNat % 4294967296, m.toNat / 4294967296] 1 = m / 4294967296 := by simp [dg]; omega
  match k, hk with
  | 0, _ => rw [e0]; simp [go_sem]
  | 1, _ => rw [e1]; simp [go_sem]
theorem word_ok (m : Int) (w : World) (h0 : 0 ≤ m) (h1 : m ≤ 18446744073709551615) :
    Calls Try.prog 35 #[.int .u64 m] w fun e w' => (∃ u, e = .returned u ∧ Nm w' u m.toNat) ∧ Below w.heap.size w w' := by
  have hs : Sm [m.toNat % 4294967296, m.toNat / 4294967296] := sm_of fun d hd => by simp at hd; omega
  have hv : val [m.toNat % 4294967296, m.toNat / 4294967296] = m.toNat := by simp [val]; omega
  have HS := (show Hid _ from hs)
  have HV := (show Hid _ from hv)
  clear hs hv
  go_enter Try.func35, Try.ntmps35
  go_wp2_with fail
  refine (norm_ok _ _ _ (word_row w m h0) HS.out).mono ?_
  rintro e w1 ⟨⟨u, rfl, hn⟩, rfl⟩
  rw [HV.out] at hn
  have HN := (show Hid _ from hn)
  clear hn
  go_wp2_with fail
  go_ret
  exact ⟨⟨_, rfl, HN.out⟩, (Below.refl _ _).alloc (Nat.le_refl _) _⟩

theorem val_drop_step (ds : List Nat) (k : Nat) (h : k < ds.length) : val (ds.drop k) = ds.getD k 0 + 4294967296 * val (ds.drop (k + 1)) := by
  rw [List.drop_eq_getElem_cons h]; simp [val, h]
theorem bel_drewN {B : Nat} {a w : World} (h : Below B a w) (n : Nat) : Below B a (w.drewN n) := ⟨h.os, h.tape, h.output, h.size, h.block⟩
/-- a number modulo 2^64, as the program has it -/
def m64 (x : Nat) : Int := ((x % 18446744073709551616 : Nat) : Int)
theorem m64_small {x : Nat} (h : x < 18446744073709551616) : m64 x = (x : Int) := by unfold m64; rw [Nat.mod_eq_of_lt h]
theorem fits_step (ds : List Nat) (k : Nat) (h : k < ds.length) :
    IntKind.u64.wrap (IntKind.u64.wrap (m64 (val (ds.drop (k + 1))) * 4294967296) + dg ds k) = m64 (val (ds.drop k)) := by
  rw [val_drop_step ds k h, IntKind.wrap_u64, IntKind.wrap_u64]
  unfold dg m64
  omega
theorem size_ok (v : Value) (x : Nat) (w : World) (h : Nm w v x) :
    Calls Try.prog 36 #[v] w fun e w' => (∃ s : Nat, e = .returned (.int .i64 s) ∧ IsSize x s ∧ s ≤ 6400) ∧ w' = w := by
  obtain ⟨ds, ⟨hm, a, c, rfl, hlc, hx⟩, hn, rfl⟩ := h
  have HX := (show Hid _ from hx)
  have HD : Hid (Nd ds) := hn
  clear hx hn
  obtain ⟨n, hn⟩ : ∃ n, n = ds.length := ⟨_, rfl⟩
  have HN : Hid (n = ds.length) := hn
  rw [← hn] at hm hlc
  rw [← hn]
  clear hn
  by_cases h0 : n = 0
  · subst h0
    go_enter Try.func36, Try.ntmps36
    go_wp2_with fail
    go_ret
    refine ⟨⟨0, rfl, ?_, by omega⟩, rfl⟩
    rw [HD.out.zero.2 HN.out.symm]
    exact isSize_zero
  · obtain ⟨b, off, rfl, ⟨hb, _⟩, hc⟩ := HX.out (by have := HN.out; omega)
    have hcell := hc (n - 1) (by have := HN.out; omega)
    clear hc HX
    have hd := dg_bd HD.out.sm (n - 1)
    go_enter Try.func36, Try.ntmps36
    go_wp2_with fail
    go_loop [3, 4] (fun s y => ∃ j z : Nat, j ≤ 32 ∧ s = .int .i64 (32 * ((n : Int) - 1) + j) ∧ y = .int .u64 z ∧ Hid (z < 2 ^ (32 - j)) ∧ Hid (∀ t, IsSize z t → IsSize (ds.getD (n - 1) 0) (j + t))) (fun _ y => (intOf y).toNat)
    case atStart => exact ⟨0, ds.getD (n - 1) 0, by omega, by simp, by simp [dg], by have := sm_getD (n - 1) HD.out.sm; exact this, fun t h => by rw [Nat.zero_add]; exact h⟩
    case round =>
      obtain ⟨j, z, hj, rfl, rfl, hz, ht⟩ := hrel
      by_cases h1 : z = 0
      · subst h1
        go_wp2_with fail
        go_ret
        refine ⟨⟨32 * (n - 1) + j, by go_num, ?_, by omega⟩, rfl⟩
        have := isSize_val HD.out (by have := HN.out; omega) (by have := ht.out 0 isSize_zero; rw [HN.out] at this; exact this)
        rw [HN.out]
        exact this
      · have hz2 : z < 4294967296 := Nat.lt_of_lt_of_le hz.out (Nat.pow_le_pow_right (by decide) (by omega) : 2 ^ (32 - j) ≤ 2 ^ 32)
        have hj2 : j < 32 := by
          by_cases e : j = 32
          · subst e; have := hz.out; simp at this; omega
          · omega
        have hz' : Hid (z / 2 < 2 ^ (32 - (j + 1))) := by
          have h := hz.out
          rw [show 32 - j = 32 - (j + 1) + 1 by omega, Nat.pow_succ] at h
          show z / 2 < 2 ^ (32 - (j + 1))
          omega
        have ht' : Hid (∀ t, IsSize (z / 2) t → IsSize (ds.getD (n - 1) 0) (j + 1 + t)) := fun t h => by
          have := ht.out (t + 1) (isSize_half h (by omega))
          rw [show j + 1 + t = j + (t + 1) by omega]; exact this
        clear hz ht
        go_wp2_with fail
        go_round
        case rel => exact ⟨j + 1, z / 2, by omega, by go_num, by go_num, hz', ht'⟩
        case measure => simp [intOf]; omega

set_option maxHeartbeats 400000 in
theorem compare_rows (v u : Value) (ds es : List Nat) (w : World) (h : Row w v ds) (h2 : Row w u es) (hd : Nd ds) (he : Nd es) :
    Calls Try.prog 39 #[v, u] w fun e w' => e = .returned (.int .i64 (cmpN (val ds) (val es))) ∧ Below w.heap.size w w' := by
  obtain ⟨hm, a, c, rfl, hlc, hx⟩ := h
  obtain ⟨hm2, a2, c2, rfl, hlc2, hx2⟩ := h2
  have HX := (show Hid _ from hx)
  have HX2 := (show Hid _ from hx2)
  have HD : Hid (Nd ds) := hd
  have HE : Hid (Nd es) := he
  clear hx hx2 hd he
  by_cases hl : ds.length = es.length
  · obtain ⟨n, hn⟩ : ∃ n, n = es.length := ⟨_, rfl⟩
    have HN : Hid (n = es.length) := hn
    have HM : Hid (ds.length = n) := by rw [hn]; exact hl
    rw [← hn] at hm2 hlc2 hl
    rw [hl] at hm hlc
    rw [hl, ← hn]
    clear hn hl
    go_enter Try.func39, Try.ntmps39
    go_wp2_with fail
    go_loopw [5] (fun i wr => ∃ k : Nat, k ≤ n ∧ i = .int .i64 ((k : Int) - 1) ∧ Below w.heap.size w wr ∧ Hid (ds.drop k = es.drop k)) (fun i _ => (intOf i + 1).toNat)
    case atStart => exact ⟨n, Nat.le_refl _, rfl, Below.refl _ _, by show ds.drop n = es.drop n; rw [List.drop_of_length_le (by rw [HM.out]; exact Nat.le_refl _), List.drop_of_length_le (by rw [HN.out]; exact Nat.le_refl _)]⟩
    case round =>
      obtain ⟨k, hk, rfl, hbel, hsame⟩ := hrel
      by_cases h0 : k = 0
      · subst h0
        go_wp2_with fail
        go_ret
        have : ds = es := by have := hsame.out; simpa using this
        subst this
        exact ⟨by rw [cmpN_eq]; rfl, hbel⟩
      · obtain ⟨k, rfl⟩ : ∃ j, k = j + 1 := ⟨k - 1, by omega⟩
        obtain ⟨b, off, rfl, ⟨hb, _⟩, hc⟩ := HX.out (by have := HM.out; omega)
        obtain ⟨b2, off2, rfl, ⟨hb2, _⟩, hc2⟩ := HX2.out (by have := HN.out; omega)
        have hcell := (hbel.cell (p := ⟨b, off + k, none⟩) hb).trans (hc k (by have := HM.out; omega))
        have hcell2 := (hbel.cell (p := ⟨b2, off2 + k, none⟩) hb2).trans (hc2 k (by have := HN.out; omega))
        clear hc HX hc2 HX2
        have b1' := dg_bd HD.out.sm k
        have b2' := dg_bd HE.out.sm k
        have i1 : (0 : Int) ≤ (k : Int) := by omega
        have i2 : (k : Int) < n := by omega
        rw [show ((k + 1 : Nat) : Int) - 1 = (k : Int) by omega]
        rcases (show dg ds k < dg es k ∨ dg es k < dg ds k ∨ dg ds k = dg es k by omega) with hlt | hgt | heq
        · have t1 : decide (dg ds k < dg es k) = true := by simp [hlt]
          go_wp2_with fail
          go_quiet (fail)
          have hbel := bel_drewN hbel nq
          generalize wr.drewN nq = wq at *
          clear hcell hcell2
          go_wp2_with fail
          go_ret
          exact ⟨by rw [cmpN_lt (val_less HD.out.sm HE.out.sm (by rw [HM.out, HN.out]) k (by have := HM.out; omega) hsame.out (by unfold dg at hlt; omega))]; rfl, hbel⟩
        · have t1 : decide (dg ds k < dg es k) = false := by simp; omega
          have t2 : decide (dg es k < dg ds k) = true := by simp; omega
          go_wp2_with fail
          go_quiet (fail)
          have hcell' : (wr.drewN nq).cell? ⟨b, off + k, none⟩ = some (.int .u64 (dg ds k)) := hcell
          have hcell2' : (wr.drewN nq).cell? ⟨b2, off2 + k, none⟩ = some (.int .u64 (dg es k)) := hcell2
          have hbel := bel_drewN hbel nq
          clear hcell hcell2
          generalize wr.drewN nq = wq at *
          go_wp2_with fail
          go_quiet (fail)
          have hbel := bel_drewN hbel nq
          generalize wq.drewN nq = wp at *
          clear hcell' hcell2'
          go_wp2_with fail
          go_ret
          exact ⟨by rw [cmpN_gt (val_less HE.out.sm HD.out.sm (by rw [HM.out, HN.out]) k (by have := HN.out; omega) hsame.out.symm (by unfold dg at hgt; omega))]; rfl, hbel⟩
        · have t1 : decide (dg ds k < dg es k) = false := by simp; omega
          have t2 : decide (dg es k < dg ds k) = false := by simp; omega
          have hs' : Hid (ds.drop k = es.drop k) := drop_same (by rw [HM.out, HN.out]) k (by have := HM.out; omega) hsame.out (by unfold dg at heq; omega)
          have HQ : Hid (dg ds k = dg es k) := heq
          clear heq
          go_wp2_with fail
          go_quiet (fail)
          have hcell' : (wr.drewN nq).cell? ⟨b, off + k, none⟩ = some (.int .u64 (dg ds k)) := hcell
          have hcell2' : (wr.drewN nq).cell? ⟨b2, off2 + k, none⟩ = some (.int .u64 (dg es k)) := hcell2
          have hbel := bel_drewN hbel nq
          clear hcell hcell2
          generalize wr.drewN nq = wq at *
          go_wp2_with fail
          go_quiet (fail)
          have hbel := bel_drewN hbel nq
          generalize wq.drewN nq = wp at *
          clear hcell' hcell2'
          go_wp2_with fail
          exact ⟨⟨k, by omega, rfl, hbel, hs'⟩, by simp [intOf]⟩
  · have hl' : ((ds.length : Int) == (es.length : Int)) = false := by rw [beq_eq_false_iff_ne]; omega
    rcases (show ds.length < es.length ∨ es.length < ds.length by omega) with hlt | hgt
    · have F := (show Hid _ from cmpN_lt (HD.out.len_lt HE.out hlt))
      generalize ds.length = n at *
      generalize es.length = m at *
      go_enter Try.func39, Try.ntmps39
      go_wp2_with fail
      go_ret
      exact ⟨by rw [F.out]; rfl, Below.refl _ _⟩
    · have F := (show Hid _ from cmpN_gt (HE.out.len_lt HD.out hgt))
      generalize ds.length = n at *
      generalize es.length = m at *
      go_enter Try.func39, Try.ntmps39
      go_wp2_with fail
      go_ret
      exact ⟨by rw [F.out]; rfl, Below.refl _ _⟩
theorem compare_ok (v u : Value) (x y : Nat) (w : World) (h : Nm w v x) (h2 : Nm w u y) :
    Calls Try.prog 39 #[v, u] w fun e w' => e = .returned (.int .i64 (cmpN x y)) ∧ Below w.heap.size w w' := by
  obtain ⟨ds, r, n, rfl⟩ := h
  obtain ⟨es, r2, n2, rfl⟩ := h2
  exact compare_rows v u ds es w r r2 n n2
end Go.Proofs.Ytegooagmlapngaa
