/- The document's decimals: the contract of Dec in range. -/
import Derived.Test.YtegooagmlapngaaUl
namespace Go.Proofs.Ytegooagmlapngaa
open Go.RowKit
set_option linter.unusedVariables false
attribute [local go_sem ↓] Go.wp_at_zero Go.wp_at_succ

def h64 (x : Nat) : Int := ((x / 18446744073709551616 : Nat) : Int)
theorem pw_1 : pw 1 = 4294967296 := rfl
theorem pw_2 : pw 2 = 18446744073709551616 := rfl
theorem pw_3 : pw 3 = 79228162514264337593543950336 := rfl
theorem dec_low (ds : List Nat) (k : Nat) (hd : Sm ds) (hk : k < ds.length) (h2 : k < 2) :
    IntKind.u64.wrap (m64 (val (ds.take k)) + IntKind.u64.wrap (dg ds k * 2 ^ (32 * k))) = m64 (val (ds.take (k + 1))) ∧ h64 (val (ds.take (k + 1))) = h64 (val (ds.take k)) := by
  have h1 := val_lt (sm_take k hd)
  have hs := sm_getD k hd
  rw [List.length_take, Nat.min_eq_left (by omega)] at h1
  rw [val_take_succ ds k hk, IntKind.wrap_u64, IntKind.wrap_u64]
  unfold m64 h64 dg
  rcases (show k = 0 ∨ k = 1 by omega) with rfl | rfl
  · rw [pw_zero] at *
    simp only [Nat.mul_zero, Int.pow_zero]
    omega
  · rw [pw_1] at *
    rw [show (2 : Int) ^ (32 * 1) = 4294967296 from rfl]
    omega
theorem dec_high (ds : List Nat) (k : Nat) (hd : Sm ds) (hk : k < ds.length) (h2 : 2 ≤ k) (h4 : k < 4) :
    IntKind.u64.wrap (h64 (val (ds.take k)) + IntKind.u64.wrap (dg ds k * 2 ^ (32 * (k - 2)))) = h64 (val (ds.take (k + 1))) ∧ m64 (val (ds.take (k + 1))) = m64 (val (ds.take k)) := by
  have h1 := val_lt (sm_take k hd)
  have hs := sm_getD k hd
  rw [List.length_take, Nat.min_eq_left (by omega)] at h1
  rw [val_take_succ ds k hk, IntKind.wrap_u64, IntKind.wrap_u64]
  unfold m64 h64 dg
  rcases (show k = 2 ∨ k = 3 by omega) with rfl | rfl
  · rw [pw_2] at *
    simp only [Nat.sub_self, Nat.mul_zero, Int.pow_zero]
    omega
  · rw [pw_3] at *
    rw [show (2 : Int) ^ (32 * (3 - 2)) = 4294967296 from rfl]
    omega
theorem dec_words' {z : Int} (hz : (z.natAbs : Int) < M127) (X : Nat) (hX : (X : Int) = if z < 0 then z + 340282366920938463463374607431768211456 else z) : wrap64 (h64 X) = dhi z ∧ m64 X = dlo z := by
  rw [M127_eq] at hz
  unfold h64 m64 dhi dlo wrap64
  split at hX <;> omega
theorem len4 {ds : List Nat} (h : Nd ds) (hx : val ds < 340282366920938463463374607431768211456) : ds.length ≤ 4 := by
  by_cases hl : 4 < ds.length
  · have h1 := h.top (by omega)
    have h2 := pw_mono (show 4 ≤ ds.length - 1 by omega)
    have : pw 4 = 340282366920938463463374607431768211456 := by decide
    omega
  · omega
theorem V3.keep {w : World} {q : Nat} {x y z : Value} {T : TypeId} (h : V3 w q x y z T) (p : Nat) (hp : q ≠ p) (c d : Value) : V3 ((w.setCell ⟨p, 0, none⟩ c).setCell ⟨p, 1, none⟩ d) q x y z T := by
  have h1 : (w.setCell ⟨p, 0, none⟩ c).heap[q]? = w.heap[q]? := Below.heap_setCell _ _ _ _ hp
  have h2 : ((w.setCell ⟨p, 0, none⟩ c).setCell ⟨p, 1, none⟩ d).heap[q]? = (w.setCell ⟨p, 0, none⟩ c).heap[q]? := Below.heap_setCell _ _ _ _ hp
  exact ⟨by rw [h2, h1]; exact h.blk⟩
theorem inr_abs {z : Int} (h : InR z) : (z.natAbs : Int) < M127 := by have := h.lo; have := h.hi; omega
theorem inr_of {z : Int} (h : (z.natAbs : Int) < M127) : InR z := ⟨by omega, by omega⟩
set_option maxHeartbeats 1000000 in
set_option maxRecDepth 100000 in
theorem decr_pos (v : Value) (z s : Int) (w : World) (h : In w v z) (hz : InR z) (h0 : 0 ≤ z) :
    Calls Try.prog 19 #[v, .int .i64 s] w fun e w' => e = .returned (.tuple #[.agg #[.int .i64 (dhi z), .int .u64 (dlo z), .int .i64 s], .int .i64 0]) ∧ Below w.heap.size w w' := by
  obtain ⟨m, a, n, k, rfl, hn, ha, hb⟩ := h.form
  have HZ : Hid (InR z) := hz
  have H := (show Hid _ from h)
  have HN := (show Hid _ from hn)
  have H0 := (show Hid _ from h0)
  clear hz ha hb h hn h0
  go_enter Try.func19, Try.ntmps19
  go_wp2_with fail
  refine (size_ok _ _ _ ((HN.out.alloc _).alloc _)).mono ?_
  rintro e w1 ⟨⟨t, rfl, ht, ht2⟩, rfl⟩
  have h127 := small_size ht (inr_abs HZ.out)
  clear ht
  go_wp2_with fail
  have A := ((v2_new w (.bool m) (.slice a n k) 46).alloc (.cells #[.int .i64 0, .int .u64 0, .int .i64 0] 24)).alloc (.cells #[.bool m, .slice a n k] 46)
  have R := (v3_new (w.alloc (.cells #[.bool m, .slice a n k] 46)) (.int .i64 0) (.int .u64 0) (.int .i64 0) 24).alloc (.cells #[.bool m, .slice a n k] 46)
  have X := v2_new ((w.alloc (.cells #[.bool m, .slice a n k] 46)).alloc (.cells #[.int .i64 0, .int .u64 0, .int .i64 0] 24)) (.bool m) (.slice a n k) 46
  rw [size_al] at R
  rw [size_al, size_al] at X
  have hW := bel_al (bel_al (bel_al (Below.refl _ w) (.cells #[.bool m, .slice a n k] 46)) (.cells #[.int .i64 0, .int .u64 0, .int .i64 0] 24)) (.cells #[.bool m, .slice a n k] 46)
  have h := H.out.step hW
  refine (sign_in _ z _ h).mono ?_
  rintro e w2 ⟨rfl, hb2⟩
  replace A := A.step hb2
  replace R := R.step hb2
  replace X := X.step hb2
  replace h := h.step hb2
  replace hW := hW.trans (hb2.mono hW.size)
  clear hb2
  obtain ⟨p, hp⟩ : ∃ p, p = w.heap.size := ⟨_, rfl⟩
  have HP : Hid (p = w.heap.size) := hp
  rw [← hp] at A R X
  rw [← hp]
  clear hp
  have hs : 0 ≤ sgn z := by have := H0.out; unfold sgn; rw [if_neg (by omega)]; split <;> omega
  generalize sgn z = sg at *
  have hn := HN.out.step hW
  have x0 := X.c0
  have x1 := X.c1
  have r0 := R.c0
  have r1 := R.c1
  have r2 := R.c2
  have f0 := R.free 0
  have f1 := R.free 1
  have f2 := R.free 2
  have HR := (show Hid _ from R)
  have HW := (show Hid _ from hW)
  have hXlt : Hid (z.natAbs < 340282366920938463463374607431768211456) := by have := inr_abs HZ.out; rw [M127_eq] at this; show _ < _; omega
  have hXe : Hid ((z.natAbs : Int) = if z < 0 then z + 340282366920938463463374607431768211456 else z) := by have := H0.out; show _ = _; rw [if_neg (by omega)]; omega
  clear A R X hW h H HN
  obtain ⟨ds, ⟨hm, a', c', e', hlc, hx⟩, hnd, hval⟩ := hn
  cases e'
  have HX := (show Hid _ from hx)
  have HND : Hid (Nd ds) := hnd
  have HV := (show Hid _ from hval)
  have h4 := len4 hnd (by rw [hval]; exact hXlt.out)
  clear hx hnd hval
  obtain ⟨N, hN⟩ : ∃ N, N = ds.length := ⟨_, rfl⟩
  have HL : Hid (N = ds.length) := hN
  rw [← hN] at hm hlc h4 x1
  try rw [← hN]
  clear hN
  go_wp2_with fail
  go_loop [7, 8, 28] (fun lo hi i => ∃ j : Nat, j ≤ N ∧ i = .int .i64 j ∧ lo = .int .u64 (m64 (val (ds.take j))) ∧ hi = .int .u64 (h64 (val (ds.take j)))) (fun _ _ i => N - (intOf i).toNat)
  case atStart => exact ⟨0, by omega, rfl, rfl, by simp [h64, val]⟩
  case round =>
    obtain ⟨j, hj, rfl, rfl, rfl⟩ := hrel
    by_cases hjN : j < N
    · obtain ⟨b, off, rfl, ⟨hb, _⟩, hc⟩ := HX.out (by have := HL.out; omega)
      have hcell := hc j (by have := HL.out; omega)
      have b1 := dg_bd HND.out.sm j
      clear hc HX
      by_cases hj2 : j < 2
      · obtain ⟨e1, e2⟩ := dec_low ds j HND.out.sm (by have := HL.out; omega) hj2
        have E1 := (show Hid _ from e1)
        have E2 := (show Hid _ from e2)
        clear e1 e2
        go_wp2_with fail
        exact ⟨⟨j + 1, by omega, by go_num, by rw [E1.out], by rw [E2.out]⟩, by simp [intOf]; omega⟩
      · obtain ⟨e1, e2⟩ := dec_high ds j HND.out.sm (by have := HL.out; omega) (by omega) (by omega)
        have E1 := (show Hid _ from e1)
        have E2 := (show Hid _ from e2)
        clear e1 e2
        go_wp2_with fail
        exact ⟨⟨j + 1, by omega, by go_num, by rw [E2.out], by rw [E1.out]⟩, by simp [intOf]; omega⟩
    · obtain rfl : j = N := by omega
      rw [val_take_past ds j (by have := HL.out; omega), HV.out]
      obtain ⟨E1, E2⟩ := dec_words' (inr_abs HZ.out) _ hXe.out
      rw [E2]
      have HE1 := (show Hid _ from E1)
      clear E1 E2 HV hXe hXlt
      have V := ((HR.out.set0 (.int .i64 (dhi z))).set1 (.int .u64 (dlo z))).set2 (.int .i64 s)
      have HB := (show Hid _ from ((HW.out.setCell (p := ⟨p + 1, 0, none⟩) (by have := HP.out; show _ ≤ p + 1; omega) (.int .i64 (dhi z))).setCell (p := ⟨p + 1, 1, none⟩) (by have := HP.out; show _ ≤ p + 1; omega) (.int .u64 (dlo z))).setCell (p := ⟨p + 1, 2, none⟩) (by have := HP.out; show _ ≤ p + 1; omega) (.int .i64 s))
      have HV := (show Hid _ from V)
      clear V
      go_wp2_with fail
      rw [HE1.out]
      have c0 := HV.out.c0
      have c1 := HV.out.c1
      have c2 := HV.out.c2
      clear HV r0 r1 r2 f0 f1 f2 x0 x1 HR HW
      generalize ((w2.setCell ⟨p + 1, 0, none⟩ (.int .i64 (dhi z))).setCell ⟨p + 1, 1, none⟩ (.int .u64 (dlo z))).setCell ⟨p + 1, 2, none⟩ (.int .i64 s) = Z at *
      refine bodyPost_ret (v := .tuple #[.agg #[.int .i64 (dhi z), .int .u64 (dlo z), .int .i64 s], .int .i64 0]) (by simp [results, Try.results19, go_sem, *]) rfl ⟨rfl, HB.out⟩
set_option maxHeartbeats 1000000 in
set_option maxRecDepth 100000 in
theorem decr_neg (v : Value) (z s : Int) (w : World) (h : In w v z) (hz : InR z) (h0 : z < 0) :
    Calls Try.prog 19 #[v, .int .i64 s] w fun e w' => e = .returned (.tuple #[.agg #[.int .i64 (dhi z), .int .u64 (dlo z), .int .i64 s], .int .i64 0]) ∧ Below w.heap.size w w' := by
  obtain ⟨m, a, n, k, rfl, hn, ha, hb⟩ := h.form
  have HZ : Hid (InR z) := hz
  have H := (show Hid _ from h)
  have HN := (show Hid _ from hn)
  have H0 := (show Hid _ from h0)
  clear hz ha hb h hn h0
  go_enter Try.func19, Try.ntmps19
  go_wp2_with fail
  refine (size_ok _ _ _ ((HN.out.alloc _).alloc _)).mono ?_
  rintro e w1 ⟨⟨t, rfl, ht, ht2⟩, rfl⟩
  have h127 := small_size ht (inr_abs HZ.out)
  clear ht
  go_wp2_with fail
  have A := ((v2_new w (.bool m) (.slice a n k) 46).alloc (.cells #[.int .i64 0, .int .u64 0, .int .i64 0] 24)).alloc (.cells #[.bool m, .slice a n k] 46)
  have R := (v3_new (w.alloc (.cells #[.bool m, .slice a n k] 46)) (.int .i64 0) (.int .u64 0) (.int .i64 0) 24).alloc (.cells #[.bool m, .slice a n k] 46)
  have X := v2_new ((w.alloc (.cells #[.bool m, .slice a n k] 46)).alloc (.cells #[.int .i64 0, .int .u64 0, .int .i64 0] 24)) (.bool m) (.slice a n k) 46
  rw [size_al] at R
  rw [size_al, size_al] at X
  have hW := bel_al (bel_al (bel_al (Below.refl _ w) (.cells #[.bool m, .slice a n k] 46)) (.cells #[.int .i64 0, .int .u64 0, .int .i64 0] 24)) (.cells #[.bool m, .slice a n k] 46)
  have h := H.out.step hW
  refine (sign_in _ z _ h).mono ?_
  rintro e w2 ⟨rfl, hb2⟩
  replace A := A.step hb2
  replace R := R.step hb2
  replace X := X.step hb2
  replace h := h.step hb2
  replace hW := hW.trans (hb2.mono hW.size)
  clear hb2
  obtain ⟨p, hp⟩ : ∃ p, p = w.heap.size := ⟨_, rfl⟩
  have HP : Hid (p = w.heap.size) := hp
  rw [← hp] at A R X
  rw [← hp]
  clear hp
  have hs : sgn z < 0 := by have := H0.out; unfold sgn; rw [if_pos this]; decide
  generalize sgn z = sg at *
  have lA := A.lt
  have lR := R.lt
  have lX := X.lt
  have HS : Hid (z + 340282366920938463463374607431768211456 = ((z + 340282366920938463463374607431768211456).natAbs : Int)) := by have := inr_abs HZ.out; rw [M127_eq] at this; show _ = _; omega
  have hXlt : Hid ((z + 340282366920938463463374607431768211456).natAbs < 340282366920938463463374607431768211456) := by have h9 := inr_abs HZ.out; rw [M127_eq] at h9; have := H0.out; show _ < _; omega
  have hXe : Hid (((z + 340282366920938463463374607431768211456).natAbs : Int) = if z < 0 then z + 340282366920938463463374607431768211456 else z) := by have := HS.out; have := H0.out; show _ = _; rw [if_pos (by omega)]; omega
  have MZ : Mi z := mi_of (k := 127) (by have := inr_abs HZ.out; rw [M127_eq] at this; omega) (by omega)
  have M2 : Mi 340282366920938463463374607431768211456 := mi_of (k := 129) (by decide) (by omega)
  clear H HN
  go_wp2_with fail
  go_region_held3 (fun w' => w'.cell? ⟨p, 0, none⟩ = some (.bool m) ∧ w'.cell? ⟨p, 1, none⟩ = some (.slice a n k))
    (first | exact ⟨A.c0, A.c1⟩ | exact ⟨A.drew.c0, A.drew.c1⟩ | exact ⟨A5.c0, A5.c1⟩ | exact ⟨A4.c0, A4.c1⟩ | exact ⟨A3.c0, A3.c1⟩ | exact ⟨(cell_put (by omega)).trans A5.c0, (cell_put (by omega)).trans A5.c1⟩)
    (first
      | (go_at_call 35; refine (word_ok 1 _ (by omega) (by omega)).mono ?_; rintro e w3 ⟨⟨r, rfl, hr⟩, hb⟩; have A3 := A.drew.step hb; have R3 := R.drew.step hb; have X3 := X.drew.step hb; have h3 := h.drew.step hb; have hW3 := hW.trans ((bel_of_drew hb).mono hW.size))
      | (go_at_call 34; refine (left_ok _ 1 128 _ hr (md_of (k := 1) (by decide) (by omega)) (by omega)).mono ?_; rintro e w4 ⟨⟨r4, rfl, hr4⟩, hb4⟩; obtain ⟨ra, rn, rc, rfl⟩ := hr4.form; have A4 := A3.step hb4; have R4 := R3.step hb4; have X4 := X3.step hb4; have h4 := h3.step hb4; have hW4 := hW3.trans (hb4.mono hW3.size))
      | (go_at_call 33; refine (sum_in _ _ z 340282366920938463463374607431768211456 _ h4 (in_mk (by exact hr4) (fun _ => rfl) (fun h => by omega)) MZ M2).mono ?_; rintro e w5 ⟨⟨r5, rfl, hr5⟩, hb5⟩; have A5 := A4.step hb5; have R5 := R4.step hb5; have X5 := X4.step hb5; have hW5 := hW4.trans (hb5.mono hW4.size); obtain ⟨m5, a5, n5, k5, rfl, hn5, ha5, hb6⟩ := hr5.form; have x0 := X5.c0; have x1 := X5.c1; have f0 := X5.free 0; have f1 := X5.free 1))
  have hn := hn5.put X5 (by decide) (.bool m5) (.slice a5 n5 k5)
  have R := (R5.keep (p + 2) (by omega) (.bool m5) (.slice a5 n5 k5))
  have X := (X5.set0 (.bool m5)).set1 (.slice a5 n5 k5)
  have hW := bel_put hW5 (p := p + 2) (by have := HP.out; omega) (.bool m5) (.slice a5 n5 k5)
  clear A A3 A4 A5 R3 R4 R5 X3 X4 X5 hr hr4 hb hb4 hb5 hW3 hW4 hW5 h h3 h4 x0 x1 f0 f1 hn5 hr5 lA lR lX
  generalize (w5.setCell ⟨p + 2, 0, none⟩ (.bool m5)).setCell ⟨p + 2, 1, none⟩ (.slice a5 n5 k5) = w6 at *
  have x0 := X.c0
  have x1 := X.c1
  have r0 := R.c0
  have r1 := R.c1
  have r2 := R.c2
  have f0 := R.free 0
  have f1 := R.free 1
  have f2 := R.free 2
  have HR := (show Hid _ from R)
  have HW := (show Hid _ from hW)
  clear R X hW
  obtain ⟨ds, ⟨hm, a', c', e', hlc, hx⟩, hnd, hval⟩ := hn
  cases e'
  have HX := (show Hid _ from hx)
  have HND : Hid (Nd ds) := hnd
  have HV := (show Hid _ from hval)
  have h4 := len4 hnd (by rw [hval]; exact hXlt.out)
  clear hx hnd hval
  obtain ⟨N, hN⟩ : ∃ N, N = ds.length := ⟨_, rfl⟩
  have HL : Hid (N = ds.length) := hN
  rw [← hN] at hm hlc h4 x1
  try rw [← hN]
  clear hN
  go_wp2_with fail
  go_loop [7, 8, 28] (fun lo hi i => ∃ j : Nat, j ≤ N ∧ i = .int .i64 j ∧ lo = .int .u64 (m64 (val (ds.take j))) ∧ hi = .int .u64 (h64 (val (ds.take j)))) (fun _ _ i => N - (intOf i).toNat)
  case atStart => exact ⟨0, by omega, rfl, rfl, by simp [h64, val]⟩
  case round =>
    obtain ⟨j, hj, rfl, rfl, rfl⟩ := hrel
    by_cases hjN : j < N
    · obtain ⟨b, off, rfl, ⟨hb, _⟩, hc⟩ := HX.out (by have := HL.out; omega)
      have hcell := hc j (by have := HL.out; omega)
      have b1 := dg_bd HND.out.sm j
      clear hc HX
      by_cases hj2 : j < 2
      · obtain ⟨e1, e2⟩ := dec_low ds j HND.out.sm (by have := HL.out; omega) hj2
        have E1 := (show Hid _ from e1)
        have E2 := (show Hid _ from e2)
        clear e1 e2
        go_wp2_with fail
        exact ⟨⟨j + 1, by omega, by go_num, by rw [E1.out], by rw [E2.out]⟩, by simp [intOf]; omega⟩
      · obtain ⟨e1, e2⟩ := dec_high ds j HND.out.sm (by have := HL.out; omega) (by omega) (by omega)
        have E1 := (show Hid _ from e1)
        have E2 := (show Hid _ from e2)
        clear e1 e2
        go_wp2_with fail
        exact ⟨⟨j + 1, by omega, by go_num, by rw [E2.out], by rw [E1.out]⟩, by simp [intOf]; omega⟩
    · obtain rfl : j = N := by omega
      rw [val_take_past ds j (by have := HL.out; omega), HV.out]
      obtain ⟨E1, E2⟩ := dec_words' (inr_abs HZ.out) _ hXe.out
      rw [E2]
      have HE1 := (show Hid _ from E1)
      clear E1 E2 HV hXe hXlt
      have V := ((HR.out.set0 (.int .i64 (dhi z))).set1 (.int .u64 (dlo z))).set2 (.int .i64 s)
      have HB := (show Hid _ from ((HW.out.setCell (p := ⟨p + 1, 0, none⟩) (by have := HP.out; show _ ≤ p + 1; omega) (.int .i64 (dhi z))).setCell (p := ⟨p + 1, 1, none⟩) (by have := HP.out; show _ ≤ p + 1; omega) (.int .u64 (dlo z))).setCell (p := ⟨p + 1, 2, none⟩) (by have := HP.out; show _ ≤ p + 1; omega) (.int .i64 s))
      have HV := (show Hid _ from V)
      clear V
      go_wp2_with fail
      rw [HE1.out]
      have c0 := HV.out.c0
      have c1 := HV.out.c1
      have c2 := HV.out.c2
      clear HV r0 r1 r2 f0 f1 f2 x0 x1 HR HW
      generalize ((w6.setCell ⟨p + 1, 0, none⟩ (.int .i64 (dhi z))).setCell ⟨p + 1, 1, none⟩ (.int .u64 (dlo z))).setCell ⟨p + 1, 2, none⟩ (.int .i64 s) = Z at *
      refine bodyPost_ret (v := .tuple #[.agg #[.int .i64 (dhi z), .int .u64 (dlo z), .int .i64 s], .int .i64 0]) (by simp [results, Try.results19, go_sem, *]) rfl ⟨rfl, HB.out⟩
theorem decr_ok (v : Value) (z s : Int) (w : World) (h : In w v z) (hz : InR z) :
    Calls Try.prog 19 #[v, .int .i64 s] w fun e w' => e = .returned (.tuple #[.agg #[.int .i64 (dhi z), .int .u64 (dlo z), .int .i64 s], .int .i64 0]) ∧ Below w.heap.size w w' := by
  rcases Int.lt_or_le z 0 with h0 | h0
  · exact decr_neg v z s w h hz h0
  · exact decr_pos v z s w h hz h0

end Go.Proofs.Ytegooagmlapngaa
